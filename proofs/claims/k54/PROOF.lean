import PyProof.Rows.All
import Wide.All
import OpenK.AllK
import Wide.FinOn
import Lean
import PyProof.EqAt
import PyProof.EqKinds
import PyProof.TupleCall
import PySem.Challenge.RW_allelse_k54_full_books
local macro_rules|`(#[$xs,*])=>`(⟨$xs,*⟩)
local macro_rules|`(#v[$xs,*])=>`(List.toArray [$xs,*])
set_option Elab.async false
set_option linter.all false
set_option maxRecDepth 100000
set_option maxHeartbeats 4000000
section
local macro_rules | `(tactic| show $e)=>`(tactic|refine $e)
local macro_rules | `(tactic| ext)=>`(tactic|decide)
local macro_rules | `(tactic| right)=>`(tactic|simp_all)
open PySem PySem.Spec
abbrev AA:=Value->Shared->Prop
abbrev AB:=List (Addr×Obj)
abbrev AE:=List (List Int×Addr)
abbrev AF:=List (List Int)
abbrev AG:=List Int
abbrev AH:=PySem.W.Frag
abbrev AI:=Str->Option Value
abbrev AJ:=Option Value
abbrev AK:=Array Value
abbrev AL:=Addr->Prop
abbrev AM:=List Str
abbrev AN:=List Value
abbrev AO:=List Expr
abbrev AQ:=Option Int
abbrev AR:=List Nat
abbrev AY:=List Addr
abbrev AZ:=Shared
abbrev Aa:=Program
abbrev Ab:=World
abbrev Ac:=FuncData
abbrev Ae:=Around
abbrev Ag(p:Program)(w:World)(A:Around){α:Type}:=@wpAny α (model p w) A
abbrev Ah(x:Str):Prop:=(x==("__debug__":Str))=false
abbrev Ai:Str:="standing"
abbrev Aj:Str:="room"
abbrev Ak:Str:="_law_room_here"
abbrev Am:Str:="_law_book_here"
abbrev An:Str:="_law_pen_here"
abbrev Ao:Str:="_law_box"
abbrev Ap:Str:="_law_given_here"
abbrev Aq:Str:="_law_found"
abbrev Ar:Str:="book"
abbrev As:Str:="_law_worth_here"
abbrev At:Str:="_law_one"
abbrev Au:Str:="_law_many"
abbrev Av:Str:="_law_thing"
abbrev Aw:Str:="_law_worse"
abbrev Ax:Str:="_law_better"
abbrev Ay:Str:="_law_other"
abbrev Az:Str:="_law_at"
abbrev A1:Str:="_law_asked"
theorem A5{α:Sort u}{a:α}:a=a:=rfl
set_option hygiene false
set_option compiler.extract_closed false
local macro_rules
|`(tactic|fail"c")=>`(tactic|(show ⟨rfl, by decide +kernel, rfl⟩))
|`(tactic|fail"f")=>`(tactic|(show ⟨rfl, rfl, rfl, by decide +kernel, rfl, by decide +kernel, by decide +kernel⟩))
|`(tactic|fail"l")=>`(tactic|(first | show Or.inl rfl | show Or.inr rfl | assumption))
|`(tactic|fail"v")=>`(tactic|(first | show Or.inl rfl | show Or.inr (Or.inl rfl) | show Or.inr (Or.inr rfl)))
set_option hygiene true
set_option compiler.extract_closed true
def Law.sg : Std.HashMap Char String := ((r##"!by lia
#by ext
$by simp
%(·.1)
&λ_ _=>False
(i+1
)Inv X A6 G H s
*zQ M A8
+.lst xs
,arrOf st
-zk X scope N C s H ex
/aj _
0Option Nat
1leF f
2model prog w
3af ?_
4by simp
5{ s with heap:=h' }
6Txt K mg t
7zF A H
8a.toList++b.toList
9by right
:λ_ _=>rfl
;#[_,A5]
<xy G A8
=e::es
>Ev->Prop
?by grind
@lp q h K
Aλb=>A b\/b=acc
Bby rfl
Ctk prog w
DX.calm=true
EuA D A8
F.inr A5
GzI _
H.ref acc
Iby right
J.ref a
Kns.map V.int
LJE.bo zi
Mkb 1
Nmodel X.prog X.w
OEv->Mo Bool
P.int i
Qsome w
R.tup xs
Sby decide +kernel
TstD st
UW->Ev->(Ev->Prop)->Prop
VarrOf st2
WInt×Int
X.ref it
Ykv 1
Z.ListComp elt [#[t1,i1,f1,0],#[t2,i2,f2,0],#[t3,i3,f3,0]] scope pos
[List Env
]ar _ A5
^(tk prog w).hash k
_X.N[i]?=some x
`zR I q '$'
akb 0
b#[λA G H D n Q R E P hf k=>?_]
cmodel X'.prog X'.w
d#[by lia,by lia]
ezb st
fkv 0
gstarEach '=' X.env='à'::starEach es X.env
h.inl A5
iGo.refl P
jyg 't'
kCompOk X scope N A8
lns.map Sum.inl
msome (.d (stD rm))
n.Name x np
oddO a ks
p.ref p
q.ref b
r[.ref a]
skb 3
trm.map zl
u.Name x pos
varrOf B
w∀x,foldedSetIterable iter X.env x=pure x
x.tup l
yzE st
zarrOf st1
|QE X e te
~.ref z
¡.ref C
¢.Call (.Name x p) (e::es) [] pos
£X.env.qual ++ "<lambda>"
¤List Keyed×Nat
¥st.map Dt.int
¦E.stay g.st
§by fail"c"
¨K w.params
©.ok .next
ªλ_=>?_
«X.N.Nodup
¬some v
®some b
¯(backTo pos 'ř').any '%'=false
°.ref s.heap.objs.size
±(Sum.inr "at" : Key)
²#[hp,gs,dr,tk,oS]
³stp t.mask h n
´by rw[aK];rfl
µns.map .int
¶by simp;lia
·some (p,c,ns)
¸yf hp '!'
¹Val.of A5
ºOr.inl A5
»HOk P w H h
¼.type T
½.ref f
¾#[by ext,by ext,by ext]
¿by simpa using h
Àλz=>nomatch z
Áza (kv 0) zd
ÂEP X A6 G Q
Ã(·.2)
Ä#[_,_,A5]
Å(x==("__classdict__" : Str))=false
Æshow false=true from hs
ÇList.range n
È#[tg,iter,ifs,0]
É(A8.filterMap id).Nodup
ÊList (Dt×Addr×V)
ËX.A.units+1<cLine
ÌVis X.env.scope x
Í(#[#v[],{}]:Heap)
Îwk t.mask '^' N
Ï.builtin id
ÐJB X Pn M e f
Ñbk.map z5
Òmodel P w
ÓzbC CX0 P w K mg base N qual (zb st) f B A outer s H E
Ôshow u=Value.ref a from B
Õsome (.d (.lst l))
Ösome (b+1)
×kindOf st=κ
ØSt->Hp->Prop
Ùk _ _ 'h' e
ÚDt.lst ds
Ûsome 'H'
ÜwH uE xq
Ý.bl true
ÞX.fn x=true\/X.env.scope.names.lookup x=some .local
ßza zi (za zi (za zi (za zi zd)))
à(false,eval e X.env)
á(xs.take i).filter P
âPySem.W.tabObj ps
ãxx zA z0 (kb 1) 'L' ':'
äzbz M A s κ L0 f
åTb prog w t es xs
æLoc X.env.scope x
çx ≠ "__name__"
èpendingOf st
éλz=>nomatch z
êJB X Pn M a fa
ëA.handled=none
ì[.Name nx px]
íwpS_get ?_
îzF 'A' H'
ïStr×Addr
ðE1.cap hn
ñX.mg x=none
ò.d (stD rm)
óvs.toArray.zip vs.toArray
ôassignEach es X.env
õza zi zd
öyY B owner
÷Str.ofString "__next__"
øs.heap.objs.size+1
ùPySem.W.tabObj #v[]
ú.ref s.heap.objs.size
ûby rw[zc I];show g1
üλ_ _ _ _=>x5
ýa==sysModules
þE3.stay g4.st
ÿsome (k:Int)
Āby rw[q];rfl
āzh (zC zid)
ĂtOp r ta tb
ăh C s H0 ex
ĄNat->AZ->Prop
ązq.same S2
ĆzF 'A' H2
ćaE h₂ (λ_ s₃ h₃=>aa (aE h₃ (λok s₄ h₄=>?_) λ_ _ h'=>h'.elim)) λ_ _ h'=>h'.elim
Ĉbv (aa (aE (turn n s hI) (λr s₁ h₁=>?_) λ_ _ h'=>h'.elim))
ĉ#[target,iter,ifs,0]
ĊaE h₁ (λ_ s₂ h₂=>?_) λ_ _ h'=>h'.elim
ċλx=>do noteFrame x env;theTreesLotGoes x
Č.Compare a [op] [b] pos
čbehindInMarks op b=false
ĎseqObj "list" #v[] 0
ďList.range rm.length
Đud O (qv 0) xG ':'
đPySem.W.kqdP d.toW
Ēg2.stay (zq.same q)
ēg2.stay (zq.same g)
Ĕp.Perm 'Ç'.toArray
ĕX.A.units+64<cLine
Ė'ö'.map (·.2)
ėJE X Pn M fr e f
ĘB.heap.objs.size
ę(∃m,W 0 m G H)
ĚStr×NameKind
ěλn s hI=>?_
Ĝst.map V.int
ĝby size_fits
ĞE.stay g1.st
ğ#[A5,A5,A5,A5]
ĠA7.map '%'
ġ.d (.lst l)
Ģ{ s with heap:=h',toks:=t' }
ģza (kv 0) (za (kv 1) zd)
Ĥ.builtin "list.append"
ĥX.mg "isinstance" = none
Ħ.tup (q.1.map V.int)
ħ(∀r∈rm,2<=r/\r<=4)
Ĩ(Sum.inr "rest" : Key)
ĩby rw[q];show cS _
ĪstarEach [] X.env
īI1.hok.fresh '/'
Ĭλvs H Q E h=>?_
ĭby simpa using e
ĮF A6 s G H _ I h
įB A6 s G H _ I h
İzaQ c a l
ıeval iter X.env
Ĳa.toList.take k
ĳJE X Pn M fr' e f
ĴGl X "isinstance"
ĵ(I,chg I x.b x.r)
ĶFnScope N ps 'e'
ķs.heap.objs.size
ĸPaired PrN ks xs
ĹwpAny_pure ?_
ĺwk t.mask h n
ĻPI X tg iter wi
ļzcV xs lo hi
Ľza (kv 3) zd
ľSt->Hp->Prop
ĿforIn ifs true λc r=>if r=true then do let ok <- isTrue c env (eval c env);pure 'Ɔ' else pure 'Ś'
ŀ("__classdict__" : Str)
Ł{ cls:=.type "range",data:=.fields #v[.int lo t,.int hi u,.int 1 v] }
łA.deeper (PyProof.Rows.envOfC qual (zb st) s.heap.objs.size f B)
ŃzbC CX P w K mg base N qual scope f B A outer s H E
ństarEach [a] X.env=[(false,eval a X.env)]
Ņ{ cls:=.type "dict",data:=.dict #v[] }
ņ.ListComp elt [c1,'ĉ'] scope pos
Ň.BoolOp .And (a::b::zu) pos
ňby with_unfolding_all rfl
ŉxx zA z0 (kb 3) 'L' ':'
Ŋby rw[e];show True.intro
ŋ.BoolOp .And (b::zu) pos
Ō(xs.take '(').filter P
ōwpS_lift (cD #[A5,?_])
Ŏ('ö'.map '%').toArray
ŏ.builtin "isinstance"
Őupd H1 acc (.lst [])
őList.range A9.length
Œ.Name "isinstance" p
œOpQ X (compareOp op) r
ŔAt3 Pn B S M A G H D n
ŕλq=>J (by simp[q])
Ŗ.UnaryOp .Not a pos
ŗ#[b,ob,xs,A5,'9',g2]
ŘFun K x qual st f fd
řstarEach es X.env
ŚForInStep.yield r
ś.d (.int (i:Int))
Ŝzdf s.heap d es ep
ŝOpn X scope A8 Fam
ŞI.hok.fresh '/'
şsome (.d (y9 bk))
Šs.heap.push { cls:=.type "tuple_iterator",data:=.fields #v[.ref l,.int 0 0] }
šλh=>by cases w <;> first | show False.elim h | show#[_,A5,h]
Ţupd (upd H' e (zgO e C)) p (.tup (cs.map V.ref))
ţλx=>do noteFrame x env;standAt theWindowsPlace
Ť{ cls:=.type "list",data:=.seq vs.toArray }
ť{ cls:=.type "tuple",data:=.seq #v[x,y] }
ŦenvOfC qual scope s.heap.objs.size f B
ŧwE zo <| yC T.q1 G1 O (za (kv 0) 'õ')
Ũ{ s with toks:=s.toks+'C'.draws 'l' }
ũ(·.setIfInBounds 0 (rawInt slot'))
ŪzaO λC s H ex=>(O C s H ex).run
ū.ListComp elt ['È'] scope pos
ŬA7.any λkv=>decide (kv.1=k)
ŭletOwnedTupleGo target it v
Ůp.map λi=>B.getD i ([],0)
ůList.range (zy rm b).toNat
Ű∀X',Fam X'->PTs X' ifs ti
ű∀C s H ex,QTs '-' ifs ti
Ų('Ç'.map λi:Nat=>V.int i)
ųH p=some (.dK (zaQ c a l))
Ŵ∀C s H ex,QE '-' elt te
ŵ{ s with toks:=s.toks+1 }
Ŷλq=>decide (q.1≠BB)
ŷ∀X',Fam X'->PG X' tg g
ŸJ.stop i H'/\Q 'H' H'
Ź∀C s H ex,QG '-' tg g
źkeywordEach [] X.env
ŻaU (av e) I.ok.above
ż∀x∈arrOf st,x∈L0
ŽX.stack=X.env::X.outer
žs.heap.update z 'ǒ'
ſassign target env v
ƀList.range a.length
Ɓ.ref B.heap.objs.size
ƂtupleKind (zV P w)
ƃby intro z;cases z
ƄPySem.W.kqdP y.toW
ƅPySem.W.kqdP x.toW
ƆForInStep.yield ok
Ƈ.Subscript a b pos
ƈzhu kb s.heap q I
Ɖλh=>by rcases w with (x|x|x|x|_|_) <;> first | show False.elim h | (cases x <;> first | show False.elim h | show#[_,A5,h])
Ɗ(λxs H Q=>∃ (p:Addr) (bs:List Bool),xs=[.ref p]/\Rd H p (.lst (bs.map V.bl))/\Q (.bl (bs.all id)) H)
Ƌ#[λA G H D n Q R E P hf k C s H0 ex=>'ă'.ex.choose_spec.2.run A G H D n Q R E P hf k]
ƌ((sIx q.size 0 lo:Nat):Int)==0&&(1:Int)==1&&(sIx q.size q.size hi - sIx q.size 0 lo)==q.size
ƍ#[λA6 s' G H Q I z=>'ă'.ex.choose_spec.1.run A6 s' G H Q I (z C s H0 ex)]
ƎwpAny_of_eq (a:=Value.none) (by first | rfl | (simp only[firstArgMember];rfl)) ?_
Ə(s.heap.update a (Obj.mapSeq λ_=>(#v[]:AK))).push (seqObj "tuple" vs.toArray 0)
Ɛ(assignEach 'ì' X.env).map 'Ã'=[assign (.Name nx px) X.env]
Ƒif ([]:List Keyword).isEmpty then 0 else 1
ƒ(PyProof.Rows.envOfC "law" (zb zgh) 0 0 .none).qual ++ "<lambda>"
ƓPySem.W.fnOf x x (yG st) 'y' (zb st) (.ref T) kV dc B F q ct
ƔObj.mapFields λx=>x.setIfInBounds 0 (rawInt s.heap.objs.size)
ƕPySem.W.fnOf name qual params body scope dV kV Y pm an B ct
ƖExcC.own (mg:=λ_=>some '¡') (x := "x") #[A5,c.exc] X
ƗswapsWith e (some (.Name x pos')) pos.line X.env=pure false
ƘObj.mapFields λx=>x.setIfInBounds 1 (Value.bool false)
ƙ{ cls:=.type (nmI kb),data:=.fields #v[.ref q,.int 0 0] }
ƚHT.sIx xs.length xs.length hi - HT.sIx xs.length 0 lo
ƛλr s7=>match r with | .ok _=>P s7 | .error _=>False
Ɯ([]:List Keyword)
Ɲλi m G H=>m=xs.length - i/\i<=xs.length/\Pv i G H
ƞ.ListComp elt ['È',#[tg2,iter2,ifs2,0]] scope pos
ƟJE.bo (wE zo <| yC T.q1 G1 J (za (kv 0) 'õ'))
ƠaE h₄ (λx s₅ h₅=>?_) λ_ _ h'=>h'.elim
ơ.Tuple [.Name "tuple" p1,.Name "list" p2] k p3
Ƣ(∀k∈zQ M A8,O[k]?='<'[k]?/\F[k]?='E'[k]?)
ƣ∀vs H Q E,sp vs H Q E->vs.length=ps.length
Ƥ{ cls:=.type "list",data:=.seq its.toArray }
ƥz6 yW zaM 'B' T.b_len bz (zn (kb 3) zt)
Ʀz6 yW zaM 'B' T.b_len bz (zn (kb 1) zt)
Ƨz6 yW zaM 'B' T.b_len bz (zn (kb 0) zt)
ƨnewExc (.type "StopIteration") [] >>= _
Ʃ(∀ B H2,N B H2->∃F,F<m/\W '(' F B H2)
ƪp.toList.map λi=>vs.getD i Value.none
ƫ∀b u,h.get? b=some u->h'.get? b=some u
Ƭ[.Expr (.Call (.Name a ap) [] [] cp) ep]
ƭak _ (bJ.mpr #[yp.mpr #[hb,e],aA hD])
ƮX.env.scope.names.lookup nx=some .local
Ư.DictComp ke ve ('ĉ'::zu) scope pos
ưrI (λ_ j=>0<j) λi j=>.int (i % j)
Ʊq.Pairwise λa b=>HT.lexLt a b=true
Ʋ.SetComp elt ('ĉ'::zu) scope pos
Ƴλk q=>by cases q
ƴsome (.cu (lsW (bks.map (ldW rm))))
Ƶ#[b,xs,A5,by rw[zc hne];show g1,g2]
ƶzaO λC s H ex=>(J C s H ex).run
ƷU.take k++(out.toList++V.drop j)
Ƹ.DictComp ke ve ['ĉ'] scope pos
ƹ∀C s H ex,JTs '-' Pn '*' ifs ft
ƺxs.take '('
ƻ∀C s H ex,JG '-' '*' '*' tg mg
Ƽ{ BB with nx:=N,ct:=N,bk:=BB.nx }
ƽ#[l3.kind,l3.arr,l3.pend,l3.fail]
ƾrI0 λi j=>.bl (decide (i<=j))
ƿ((bn ..).extBut.push _).push _
ǀSetIs prog w s.heap a es ep t xs
ǁrI0 λi j=>.bl (decide (i<j))
ǂ.SetComp elt ['ĉ'] scope pos
ǃ(P.length,U.length+V.length,p1)
Ǆ.Assign [.Name x pos'] e pos
ǅPySem.W.keepIn K (.ref f)=true
ǆ(λ_ s₆=>∃m,m<n/\I m s₆)
Ǉupd H' acc (.lst (xs++[v]))
ǈ(a.toList.drop base).take n
ǉseqObj "list" vs.toArray n
ǊrI znl λi j=>.int (i * j)
ǋPySem.W.kqdPs (Dt.toWs ds)
ǌ{ s with heap:=h',toks:=tk }
ǍλJ H1 acc q hn=>q acc hn
ǎp.i * 5+1+p.perturb / 32
Ǐ∀X',Fam X'->PE X' elt te
ǐrI0 λi j=>.int (i - j)
Ǒiv.stop _ H' st (λ_=>s1)
ǒObj.mapFields λx=>x.setIfInBounds 0 Value.ellipsis
Ǔ∀b∈ch,(b∈X.ex\/X.s₀.heap.objs.size<=b)/\b≠X.env.locals/\(∀x c,X.env.cells.lookup x=some c->c≠b)/\∀p∈X.pn++A6,p.1≠b
ǔaa (aE h₄ (λx s₅ h₅=>aa (aE h₅ (λ_ s₆ h₆=>af (af #[A5,h₆])) λ_ _ h'=>h'.elim)) λ_ _ h'=>h'.elim)
Ǖ{ cls:=.type "enumerate",data:=.fields #v[.none,.bool false,.ref s.heap.objs.size,rawInt 0,.none,.none] }
ǖ.Subscript e (.Slice none none (some (.UnaryOp .USub (.Constant (.int 1) j p4) p3)) p2) pos
Ǘ{ cls:=.type "zip",data:=.fields #v[.ellipsis,.bool false,.bool false,.ref TI,.ref TO] }
ǘ[.ExceptHandler (some (.Name wx wp)) (some n) [.Assign [.Name c q1] (.Name n q2) q3] hp]
Ǚλr s'=>r = .ok (.ret (.bool true))/\OldK B.heap s'.heap/\s'.os=B.os/\AllBare s'.gens
ǚ{ B with heap:=B.heap.push { cls:=.type "slice",data:=.fields #v[F,J,.none] } }
ǛPySem.W.kla_obj "<lambda>" '£' params body scope cl ((X.mg "__name__").getD .none) B J
ǜkO P (PySem.W.tabObj (ps++#v[rawInt pos.line,rawInt pos.col,.ref B]))
ǝk==NameKind.free&&env.scope.kind==.function&&env.kindOf n==some .cell
ǞClassical.epsilon λj=>j<vs.length/\vs.getD j .none=vs.getD i .none
ǟmirror 'V' (lo+n - (q+1)) (lo+n) ((lo+n - (lo+n - (q+1))) / 2)
Ǡ(assignEach '=' X.env).map (·.2)=assign e X.env::'ô'.map (·.2)
ǡλ_ _ _ _=>(zaZ (wT zp <| yb zcN zlj (kb 0) (kb 2) (zI _)))
Ǣ#[(f3 k hk).1.trans (an k hk).1,(f3 k hk).2.trans (an k hk).2]
ǣ#[λ⟨⟨l,e⟩,h⟩=>#[l,e,?_],λ⟨l,e,h⟩=>#[#[l,e],?_]]
ǤPySem.W.fnOf x x (yG st) (zE st) 'e' .none kV dc B F q ct
ǥ{ cls:=.type "list",dict:=none,data:=.seq ([]:AN).toArray }
ǦObj.mapFields (·.setIfInBounds 1 (rawInt ((i:Int)+1)))
ǧJE.bo (wE yB <| yH 'B' T.b_isinstance T.b_bool (kb 0))
ǨzhC P w K mg base N qual scope l cv cl A outer s H C E
ǩbP (aE h₅ (λiv s₆ h₆=>?_) λ_ _ h'=>h'.elim)
ǪzbC CX0 P w K mg base N qual 'e' f q A outer s H E
ǫaE h2 (λit' s' h'=>af #[A5,h']) λ_ _ h'=>h'.elim
Ǭshow codeAny '2' (A.mark none) _ _ s₆ from h₆
ǭ(assignEach [tg] X.env).map (·.2)=[assign tg X.env]
ǮPySem.W.envX qual scope s.heap.objs.size l cv cl
ǯ#[a,ob,ks,e,t _ _ h1 (λk q=>by cases q),h2.stay g]
ǰ.ListComp elt ['ĉ',#[t2,it2,ifs2,0]] scope pos
ǱJE.bo (wE zo <| yC T.q1 G1 q (za (kv 1) 'õ'))
ǲFnOk X.prog X.w X.K X.mg X.base CX0 j f fd ps sp
ǳstarEach [a,b] X.env=['Ȗ',(false,eval b X.env)]
ǴSetTable.insertAt xs (SetTable.below xs j) j
ǵForInStep (Option '0'×Nat×Nat)->SortSt->Prop
ǶcompareOp op
Ƿ{ cls:=.type "list",data:=.seq its.toArray n }
ǸswapsWithSole [tg] e pos.line X.env=pure false
ǹhs.2 b (aY (aU (av e) (I.ok.cab x c ab O)))
ǺstarEach (e::[]) X.env='à'::starEach [] X.env
ǻI1.laid (t':=B.toks) (λb u e=>ah _ e) '/' ?_
Ǽ(q.toList.drop (sIx q.size 0 lo)).take 'Ƚ'
ǽ∀x∈b,∀y,a[a.size - 1]?=some y->f x<=f y
Ǿ∀i G H,i<=xs.length->Pv i G H->SqL K H a xs
ǿ(false,eval b X.env)
ȀBuiltin.Tuple.tupleItemsOf (.ref t) >>= _
ȁswapsWith e none pos.line X.env=pure false
Ȃ[zbY x.g,Dt.int x.b,Dt.int x.r,Dt.int x.w]
ȃowner.setIfInBounds (wk B h N) (some n)
Ȅ.Subscript e (.Slice lo hi none p2) pos
ȅ.lst (xs++[v])
Ȇmirror ',' lo (lo+m) ((lo+m - lo) / 2)
ȇ.Call (.Name "enumerate" p) [a] [] pos
Ȉ∀x,foldedSetIterable i1 X.env x=pure x
ȉ{ k with nx:=I '(',ct:=I '(',bk:=k.nx }
Ȋyr ziz 'B' T.b_abs fT (zB (qv 4) yu)
ȋg1.trans #[s1,P'.less λa z=>.inl z]
Ȍby change ¬ ((0 != 0)=true);decide
ȍ.Call (.Name "zip" p) [a,b] [] pos
Ȏ.Call (.Name "range" p) [a] [] pos
ȏ∀x∈a,∀y,b[0]?=some y->f y<=f x
ȐswappedStores [tg] e X.env=pure none
ȑI1.kept (t':=B.toks) λb o e=>ah _ e
Ȓ#[λA G H D n Q R E P hf k=>by show B.run A G H D n _ _ E P hf λx n1 I H1 J O g1=>?_;show q.run A H1 I x n1 _ _ 'Ğ'.al O g1.pn J λw m v H' h1 h2 U Y=>k w m v H' h1 h2 (g1.trans U) λz=>(Y z).back g1.st]
ȓ((backTo cp (starEach [e] X.env)).all (λx=>!x.1)&&(backToKw cp 'ź').all (λx=>x.1.isSome)&&decide (([e]:AO).length+([]:List Keyword).length+(if ([]:List Keyword).isEmpty then 0 else 1)<30))=true
Ȕ.BoolOp .Or [.UnaryOp .Not (.Call (.Name "isinstance" i1) [.Name c i2,.Name cx i3] [] i4) i5,.UnaryOp .Not 'ȷ' j1] j2
ȕ#[λA G H D n Q R E P hf k=>by show h.run A G H D n _ _ E P hf  ?_;rintro x n1 B H1 ⟨c,e,r⟩ F g1;subst e;have q:B = .bl c:=F;show#[c,q,k c n1 H1 r g1]]
Ȗ(false,eval a X.env)
ȗ#[#[a,l,by rw[zc λz=>by rw[z,hp] at g1;cases g1];show g1,g2],let ⟨ob,e⟩:=h1.ls;#[ob,by rw[zc λz=>by rw[z,hp] at e;cases e];show e],h1.len]
Ș(λxs H Q=>∃p ys,xs=[.ref p]/\((SqL X.K H p ys/\∀l,H l=none->Q (.ref l) (upd H l (.tup ys)))\/(SqT X.K H p ys/\Q (.ref p) H)))
ș["enumerate","zip","dict_itemiterator","dict_reverseitemiterator","odict_iterator","itertools.zip_longest","itertools.pairwise"]
Ț[some (.pen p),'m',some (.d (.tup [.int b,.int x,.int y])),some (.d (.int (2+f))),some (.d (.lst (bk.map z5))),v5,v6,v7,v8]
țif (Value.bool false==Value.bool true)=true then _ else (Builtin.SmallTypes.nextOf (.ref i1) >>= λx=>pure (some x))
Ȝ#[q.mod,q.kind,q.glob,q.blt,q.above,q.inj,q.has,q.cab,q.hd,q.frames,q.stk,q.exf,q.bs,q.bsz,q.noex,q.exfs,q.funs,q.frf]
ȝsome (.d (.tup [.int b,.int x,.int y]))
ȞforIn ([(Value.ref i1,0),(Value.ref i2,1)]:List (Value×Nat)) ((none,()):Option PySem.Fin×Unit) _ >>= _
ȟthn (Y pos A6 s G H _ I h) <| by rintro us s1 ⟨vs,H1,I1,r1,q1⟩;show F A6 s1 G H1 vs us Q I1 r1 q1
Ƞ∀h' e,Heap.ExtBut it s.heap h'->(∃o,h'.get? e=some o/\o.cls = .type "StopIteration")->E (.ref e) '5'
ȡ∀i x G H,xs[i]?=some x->Pv i G H->g x G H λB H2=>tb { BB with nx:=Pv '(',ct:=Pv '(',bk:=BB.nx } B H2
Ȣ(λxs H Q=>∃x T t b,xs=[x,.ty T]/\TyOf X.K H x t/\PySem.W.kitOne X.K t (.type T)=some b/\Q (.bl b) H)
ȣ{ cls:=.type "zip",data:=.fields #v[rawInt s.heap.objs.size,.bool false,.bool false,.ref TI,.ref TO] }
Ȥ#[λb o e n hb J=>?_,λb o e n hb J=>?_,I.base.free,λb o e J=>?_,I.base.tups,I.base.frzs,I.base.tbls]
ȥ{ cls:=.type "set",dict:=none,data:=.set #v[] 0 (.fresh 0 0 (!w.params.followText "set-order")) }
Ȧ∀x,(scope.names.lookup x=some .cell\/scope.names.lookup x=some .free)->∃c,cl.lookup x=some c
ȧ((none,()):Option PySem.Fin×Unit)
Ȩscope.names.lookup y.1=some .cell/\((cellsFrom 'ø' scope.names []).lookup y.1).isSome=true
ȩ{ B with heap:=B.heap.push { cls:=.type "slice",data:=.fields #v[.none,.none,.int (-1) tk] } }
Ȫ#[#[xs,xs[i],q,by simp[I]],Pv '(',λF H' Z=>#[xs.length - '(',by lia,A5,I,Z],λx H' y=>?_]
ȫX.env.scope.kind==.class || (X.env.scope.kind==.module&&X.env.locals != X.env.globals)
Ȭyo y1 (wpS_bind (yo z1 (wpS_bind (ztA R (hb _ y2) (ha _ z2) (l2.kind.trans hk) ?_))))
ȭ#[by rintro⟨i,j,q,B,h⟩;show#[i,q,j,B,h],by rintro⟨i,q,j,B,h⟩;show#[i,j,q,B,h]]
Ȯ(∀ (j:Nat) (l':AS),q[j]?=some l'->l.length<=l'.length/\(j<i->l.length<l'.length))
ȯif (!t.led&&!es.isEmpty)=true then unsupported "set:maker-not-led" else pure ()
Ȱif k<0 then (k+(its.toArray.size:Int)).toNat else min k.toNat its.toArray.size
ȱh _ (U++V) hk ad (by rw[aD];show B) (fP _) (br.mpr #[su,sv,λa F b hb=>?_]) A5
Ȳ((List.range q.1.length).filter λk:Nat=>decide (zy q.1 k≠zy q.2 k)).headD 0
ȳOption '0'×Nat×Nat
ȴJE.bo (wE xN <| zcE (kb 3) (wO yU <| xM (JE.bo (zaP yZ zcx (kb 4) 'L'))) xL)
ȵSetTable.below xs j
ȶMg (geF f) T out.toList (a.toList.take q).reverse (b.toList.take B).reverse
ȷ.Call (.Name "isinstance" i6) [.Name c i7,.Name "ValueError" i8] [] i9
ȸby change ¬ ((!t.plain&&decide (es.size > 1))=true);rw[T.plain];simp
ȹFnOk X.prog X.w X.K X.mg X.base (CX1 X.prog X.w C) j fA fd ps (spX k Fp)
ȺrawInt ((i:Int)+1)
ȻswapsWith value (some (.Subscript o i pos')) pos.line X.env=pure false
ȼ.Call (.Name "isinstance" j6) [.Name c j7,.Tuple es k3 r1] [] r2
ȽsIx q.size q.size hi - sIx q.size 0 lo"##).splitOn "\n").foldl (fun m s => match s.toList with | c :: r => m.insert c (String.ofList r) | [] => m) {}
@[term_elab char] def Law.el : Lean.Elab.Term.TermElab := fun s ty => do
  let some c := s.isCharLit? | Lean.Elab.throwUnsupportedSyntax
  let some b := Law.sg[c]? | Lean.Elab.throwUnsupportedSyntax
  match Lean.Parser.runParserCategory (← Lean.getEnv) `term b with
  | .ok t => Lean.Elab.Term.elabTerm t ty
  | .error e => Lean.throwError e
namespace L2
open PyProof.Rows
abbrev aa:=@wpAny_bind
abbrev ae:=@List.length_map
abbrev af:=@wpAny_pure
abbrev ah:=@Heap.get?_push_of_some
abbrev ai:=@List.getElem?_eq_some_iff
abbrev aj:=@Nat.le_refl
abbrev ak:=@List.mem_cons_of_mem
abbrev am:=@List.getElem?_eq_getElem
abbrev ao:=@List.mem_singleton
abbrev aq:=@List.mem_cons_self
abbrev ar:=@Heap.get?_push_size
abbrev au:=@List.mem_cons
abbrev av:=@Heap.lt_size
abbrev aw:=@Nat.le_trans
abbrev ax:=@Bool.false_ne_true
abbrev ay:=@List.length_append
abbrev az:=@List.map_cons
abbrev aA:=@decide_eq_true
abbrev aB:=@List.mem_of_getElem?
abbrev aC:=@List.mem_append
abbrev aD:=@List.append_assoc
abbrev aE:=@wpAny_mono
abbrev aF:=@List.getElem?_map
abbrev aG:=@decide_eq_false
abbrev aH:=@List.getElem?_set_ne
abbrev aI:=@Option.map_eq_some_iff
abbrev aJ:=@List.mem_map
abbrev aK:=@List.map_map
abbrev aL:=@List.mem_range
abbrev aM:=@Array.length_toList
abbrev aN:=@Bool.false_eq_true
abbrev aO:=@List.map_append
abbrev aP:=@Nat.zero_le
abbrev aQ:=@List.pairwise_cons
abbrev aR:=@Bool.and_eq_true
abbrev aS:=@List.length_cons
abbrev aT:=@Array.getElem?_eq_getElem
abbrev aU:=@Nat.lt_of_lt_of_le
abbrev aV:=@List.size_toArray
abbrev aW:=@List.take_append_drop
abbrev aX:=@wpAny_call_entry
abbrev aY:=@Nat.ne_of_lt
abbrev aZ:=@List.length_range
abbrev a6:=@Array.toList_append
abbrev a8:=@List.mem_append_right
abbrev a9:=@List.eq_nil_of_length_eq_zero
abbrev ba:=@List.getElem?_set_self
abbrev be:=@PassesOwn.never
abbrev bf:=@Int.toNat_natCast
abbrev bg:=@wpAny_newObj_type
abbrev bh:=@of_decide_eq_true
abbrev bi:=@List.length_take
abbrev bj:=@List.getElem_mem
abbrev bn:=@Heap.SameBut.update
abbrev bp:=@List.getElem?_append_right
abbrev bq:=@List.getD_eq_getElem?_getD
abbrev br:=@List.pairwise_append
abbrev bu:=@List.filterMap_cons
abbrev bv:=@wpAny_standAt
abbrev bw:=@List.take_of_length_le
abbrev bz:=@PySem.boot_len
abbrev bA:=@wpAny_askSetting
abbrev bB:=@List.take_length
abbrev bC:=@PyProof.Rows.boot_tuple
abbrev bD:=@List.getElem?_append_left
abbrev bE:=@Int.toNat_of_nonneg
abbrev bF:=@List.dropLast_concat_getLast
abbrev bG:=@List.mem_of_mem_take
abbrev bI:=@Heap.get?_update_self
abbrev bJ:=@List.mem_filter
abbrev bK:=@Option.some.inj
abbrev bL:=@wpAny_setState_of
abbrev bM:=@List.pairwise_map
abbrev bN:=@List.mem_of_mem_drop
abbrev bO:=@wpAny_field
abbrev bP:=@wpAny_holding
abbrev bQ:=@Nat.lt_of_le_of_lt
abbrev bR:=@Bool.eq_iff_iff
abbrev bS:=@PySem.W.kia_one
abbrev bT:=@List.append_nil
abbrev bU:=@List.find?_cons
abbrev bV:=@wpS_forRange
abbrev bW:=@wpAny_setField
abbrev bX:=@Array.toList_push
abbrev bY:=@decide_eq_false_iff_not
abbrev bZ:=@Array.mem_toList_iff
abbrev b9:=@decide_eq_true_iff
abbrev cb:=@Heap.get?_update_other
abbrev ce:=@List.pairwise_iff_getElem
abbrev cg:=@List.length_set
abbrev cj:=@List.all_eq_true
abbrev ck:=@List.not_mem_nil
abbrev cm:=@List.getElem?_take_of_lt
abbrev cq:=@Array.getElem?_toList
abbrev cr:=@PyProof.Rows.boot_isinstance
abbrev cw:=@PySem.F.slot_dict_keyiterator_next
abbrev cy:=@Int.emod_lt_of_pos
abbrev cz:=@Obj.data_mapFields
abbrev cA:=@Bool.and_true
abbrev cB:=@Array.getD_eq_getD_getElem?
abbrev cC:=@List.mem_append_left
abbrev cD:=@wpAny_rule
abbrev cE:=@List.mem_iff_getElem
abbrev cF:=@List.nodup_iff_pairwise_ne
abbrev cG:=@eq_of_beq
abbrev cH:=@sizeLine_eq
abbrev cI:=@decide_eq_true_eq
abbrev cJ:=@Nat.lt_irrefl
abbrev cK:=@List.all_cons
abbrev cL:=@wpAny_seqItems
abbrev cN:=@Classical.byContradiction
abbrev cO:=@List.drop_eq_getElem_cons
abbrev cP:=@wpAny_isInstance
abbrev cQ:=@wpAny_typeNameOfWhole_keyiter
abbrev cR:=@List.cons_append
abbrev cS:=@beq_self_eq_true
abbrev cT:=@List.getElem?_cons_succ
abbrev cU:=@wpAny_truthy_bool
abbrev cV:=@List.take_sublist
abbrev cW:=@Nat.lt_trichotomy
abbrev cY:=@wpAny_loadPart_at
abbrev cZ:=@PyProof.Rows.callWith_type1
abbrev c7:=@PySem.mem_of_lookup
abbrev c8:=@Int.emod_nonneg
abbrev c9:=@F.slot_tuple_iterator_next
abbrev dg:=@Array.getElem?_eq_some_iff
abbrev dh:=@List.getElem_inj
abbrev di:=@List.getElem_map
abbrev dj:=@List.mem_reverse
abbrev dq:=@Nat.le_of_lt
abbrev dw:=@wpAny_pyIter_tuple
abbrev dB:=@List.mem_filterMap
abbrev dC:=@List.any_cons
abbrev dD:=@wpAny_typeOf
abbrev dE:=@List.filter_append
abbrev dF:=@Heap.size_push
abbrev dG:=@List.nodup_cons
abbrev dH:=@AutoSeq1.wpAny_loadPart'
abbrev dJ:=@PySem.W.kqd_lay
abbrev dL:=@Nat.not_lt_zero
abbrev dM:=@Nat.le_of_lt_succ
abbrev dN:=@wpAny_attempt
abbrev dO:=@Bool.not_true
abbrev dP:=@Int.le_refl
abbrev dQ:=@wpAny_forIn_list
abbrev dR:=@List.pairwise_lt_range
abbrev dS:=@wpAny_Call_Name_kw
abbrev dU:=@List.map_inj_right
abbrev dW:=@codeAny_mono
abbrev dX:=@List.map_nil
abbrev dY:=@wpAny_specialOf
abbrev dZ:=@codeAny_loop
abbrev ee:=@Obj.isFreed_of_fields
abbrev ef:=@List.cons.injEq
abbrev eh:=@PySem.W.kqd_eqv
abbrev el:=@PySem.F.typeOf_object_class
abbrev en:=@Option.isSome_map
abbrev et:=@List.ext_getElem?
abbrev eu:=@List.reverse_cons
abbrev ev:=@Bool.not_eq_true'
abbrev ez:=@Array.getElem_mem
abbrev eA:=@wpS_modify
abbrev eC:=@List.drop_sublist
abbrev eD:=@PySem.W.mg_of
abbrev eE:=@Calls.Name_function_global
abbrev eF:=@Array.getElem_toList
abbrev eG:=@List.drop_zero
abbrev eI:=@PySem.F.args_dict_keyiterator_next_1
abbrev eJ:=@List.drop_drop
abbrev eK:=@List.length_drop
abbrev eL:=@wpAny_noted
abbrev eM:=@PySem.F.entry_dict_keyiterator_next
abbrev eO:=@List.map_congr_left
abbrev eP:=@List.length_pos_iff
abbrev eQ:=@Nat.ne_of_gt
abbrev eR:=@PySem.F.args_tuple_add_2
abbrev eS:=@PyProof.Rows.boot_sorted
abbrev eU:=@wpAny_passesOwn
abbrev eV:=@PySem.F.entry_tuple_add
abbrev eW:=@PySem.F.plainAttrs_list
abbrev eX:=@List.pairwise_singleton
abbrev eY:=@List.contains_cons
abbrev eZ:=@Nat.min_eq_left
abbrev ff:=@codeAny_of_tree
abbrev fg:=@wpAny_onRaise
abbrev fj:=@Array.forIn_toList
abbrev fq:=@List.nil_append
abbrev fB:=@List.getElem_range
abbrev fD:=@Nat.add_assoc
abbrev fE:=@PySem.W.cellsFrom_some
abbrev fF:=@PySem.F.slot_tuple_add
abbrev fG:=@codeAny_compStart_list
abbrev fH:=@PySem.W.kitx_list
abbrev fJ:=@PySem.W.kitx_dict
abbrev fK:=@Calls.spliced_nil
abbrev fL:=@Obj.cls_mapFields
abbrev fM:=@List.flatMap_cons
abbrev fN:=@List.nodup_nil
abbrev fO:=@isSubtype_stop
abbrev fP:=@List.Perm.refl
abbrev fQ:=@List.Perm.append_left
abbrev fR:=@List.pairwise_flatMap
abbrev fS:=@List.pairwise_reverse
abbrev fT:=@PyProof.Rows.boot_abs
abbrev fU:=@PyProof.Rows.boot_all
abbrev fV:=@wpAny_execs_cons
abbrev fW:=@List.nodup_range
abbrev fX:=@Array.toList_inj
abbrev fY:=@List.mem_flatMap
abbrev fZ:=@PySem.W.Looks.at
abbrev gb:=@Nat.pow_le_pow_right
abbrev ge:=@PySem.W.looks_findIn
abbrev gf:=@List.drop_eq_nil_iff
abbrev gg:=@Paired.length
abbrev gh:=@F.args_tuple_iterator_next_1
abbrev gm:=@listUpdate_at
abbrev gn:=@List.cons.inj
abbrev gq:=@Nat.not_lt
abbrev gr:=@PySem.W.hideAll_get
abbrev gu:=@wpAny_execs_nil
abbrev gy:=@List.of_mem_zip
abbrev gA:=@beq_eq_false_iff_ne
abbrev gD:=@List.forIn_cons
abbrev gE:=@F.entry_tuple_iterator_next
abbrev gF:=@Heap.get?_update_ne
abbrev gG:=@wpAny_setEntries_of
abbrev gH:=@F.slot_zip_next
abbrev gI:=@wpAny_isSubtype_exc
abbrev gJ:=@List.flatMap_append
abbrev gK:=@List.take_left'
abbrev gL:=@PySem.W.of_hideAll
abbrev gM:=@Calls.spliced_cons
abbrev gQ:=@Array.append_empty
abbrev gR:=@Nat.add_sub_cancel
abbrev gS:=@List.zip_cons_cons
abbrev gU:=@Nat.succ_pos
abbrev gW:=@List.getElem?_drop
abbrev gX:=@wpAny_tupleItemsOf
abbrev gY:=@Nat.zero_add
abbrev gZ:=@Bool.not_eq_false'
abbrev g8:=@wpAny_fieldsOf
abbrev g9:=@Nat.add_le_add
abbrev hZ:=@wpAny_pyIter_list
abbrev ii:=@bne_self_eq_false
abbrev ij:=@Nat.mod_lt
abbrev ik:=@Nat.lt_succ_of_le
abbrev il:=@wpAny_pyIter_slot
abbrev im:=@wpAny_dictEntries
abbrev io:=@List.getElem_take
abbrev ip:=@List.reverse_perm
abbrev iq:=@wpAny_handled
abbrev ir:=@wpAny_newList
abbrev iu:=@Int.lt_irrefl
abbrev iw:=@noFill_tuple_add
abbrev iy:=@Nat.min_le_right
abbrev iz:=@List.ext_getElem
abbrev iA:=@Array.toList_map
abbrev iB:=@List.any_eq_true
abbrev iC:=@Nat.sub_zero
abbrev iD:=@listItems_at
abbrev iE:=@List.any_map
abbrev iF:=@Nat.add_zero
abbrev iG:=@beq_iff_eq
abbrev Key:=Sum Int Str
def zfT:Key->Value->Bool
 | .inl k,v=>Value.isInt k v
 | .inr x,v=>Value.isStrOf x v
def keyH (w:Ab):Key->Int
 | .inl k=>hashInt k
 | .inr x=>hashStr w x
theorem zP:∀ {k:Key} {v:Value},zfT k v=true->(∃i t,k=Sum.inl i/\v=Value.int i t)\/(∃x t,k=Sum.inr x/\v=Value.str x t)
 | .inl i,v,h=>by obtain⟨t,e⟩:=Value.isInt_shape (k:=i) (v:=v) h;show .inl #[i,t,A5,e]
 | .inr x,v,h=>by obtain⟨t,e⟩:=Value.isStrOf_shape (x:=x) (v:=v) h;show .inr #[x,t,A5,e]
def zeJ (i:Int)(t:Tok):zfT (.inl i) (.int i t)=true:=by simp[zfT,Value.isInt]
def zjA (x:Str)(t:Tok):zfT (.inr x) (.str x t)=true:=by simp[zfT,Value.isStrOf]
def zrP (a b:Int):decide ((Sum.inl a:Key)=Sum.inl b)=(a==b):=by grind
def zrS (a b:Str):decide ((Sum.inr a:Key)=Sum.inr b)=decide (a=b):=by grind
def zrQ (a:Int)(b:Str):decide ((Sum.inl a:Key)=Sum.inr b)=false:=rfl
def zrR (a:Str)(b:Int):decide ((Sum.inr a:Key)=Sum.inl b)=false:=rfl
def zV (prog:Aa)(w:Ab):PySem.KeyKind prog w Key where
 is:=zfT
 hash:=keyH w
 inj:=λv a b I F=>by
  rcases zP I with ⟨i,t,rfl,rfl⟩ | ⟨x,t,rfl,rfl⟩;rcases zP F with ⟨j,u,rfl,e⟩ | ⟨y,u,rfl,e⟩;injection e with q _;rw[q];show nomatch e;rcases zP F with ⟨j,u,rfl,e⟩ | ⟨y,u,rfl,e⟩;show nomatch e;injection e with q _;rw[q]
 byValue:=λk v h=>by rcases zP h with ⟨i,t,rfl,rfl⟩ | ⟨x,t,rfl,rfl⟩ <;> rfl
 pyHash:=λB h=>by
  rcases zP B with ⟨i,t,rfl,rfl⟩ | ⟨x,t,rfl,rfl⟩;show wpAny_pyHash_int h;show wpAny_pyHash_str h
 eqBool:=λJ B h=>by
  rcases zP J with ⟨i,t,rfl,rfl⟩ | ⟨x,t,rfl,rfl⟩;rcases zP B with ⟨j,u,rfl,rfl⟩ | ⟨y,u,rfl,rfl⟩;rw[zrP] at h;show wpAny_eqBool_int h;rw[zrQ] at h;show SeqAt.EqAt.int_str i t y u _ _ _ _ h;rcases zP B with ⟨j,u,rfl,rfl⟩ | ⟨y,u,rfl,rfl⟩;rw[zrR] at h;show SeqAt.EqAt.str_int x t j u _ _ _ _ h;rw[zrS] at h;show wpAny_eqBool_str h
 «strs»:=λk x t v h=>by
  rcases zP h with ⟨i,u,rfl,e⟩ | ⟨y,u,rfl,e⟩;show nomatch e
  ·injection e with q _;subst q;cases v <;> rfl
def zfZ (prog:Aa)(w:Ab)(i:Int)(t:Tok):(zV prog w).is (.inl i) (.int i t)=true:=zeJ i t
def zf0 (prog:Aa)(w:Ab)(x:Str)(t:Tok):(zV prog w).is (.inr x) (.str x t)=true:=zjA x t
inductive V where
 | non | bl (b:Bool) | int (i:Int) | str (x:Str) | byt (b:Array UInt8) | flt (b:UInt64) | ref (a:Addr) | ty (n:String)
 deriving DecidableEq
abbrev AT:=List V
def ye:V->Value->Prop
 | .non,u=>u=Value.none
 | .bl b,u=>u=Value.bool b
 | .int i,u=>∃t,u=Value.int i t
 | .str x,u=>∃t,u=Value.str x t
 | .byt b,u=>∃t,u=Value.bytes b t
 | .flt b,u=>∃t,u=Value.float b t
 | .ref a,u=>u=Value.ref a
 | .ty n,u=>u=Value.type n
abbrev yi:AT->AN->Prop:=Paired ye
def yi.length(r:yi xs us):xs.length=us.length:=gg r
theorem yi.get:∀ {xs:AT} {us:AN} {i:Nat} {x:V},yi xs us->xs[i]?=some x->∃u,us[i]?=some u/\ye x u
 | _,_,_,_,.nil,e=>by simp at e
 | _,_,0,_,.cons r _,e=>by right
 | _,_,i+1,x,.cons _ t,e=>by
  obtain⟨u,h1,h2⟩:=yi.get (i:=i) (x:=x) t 'ĭ';right
theorem yi.append:∀ {xs ys:AT} {us q:AN},yi xs us->yi ys q->yi (xs++ys) (us++q)
 | _,_,_,_,.nil,s=>s
 | _,_,_,_,.cons r t,s=>.cons r (yi.append t s)
theorem yi.take:∀ {xs:AT} {us:AN} (n:Nat),yi xs us->yi (xs.take n) (us.take n)
 | _,_,0,_=>.nil
 | _,_,_+1,.nil=>.nil
 | _,_,n+1,.cons r t=>.cons r (yi.take n t)
theorem yi.drop:∀ {xs:AT} {us:AN} (n:Nat),yi xs us->yi (xs.drop n) (us.drop n)
 | _,_,0,r=>r
 | _,_,_+1,.nil=>.nil
 | _,_,n+1,.cons _ t=>yi.drop n t
def zib:Option V->AJ->Prop
 | some v,some u=>ye v u
 | none,none=>True
 | _,_=>False
def KV {κ:Type}:List (κ×V)->List (κ×Value)->Prop:=Paired λ(p:κ×V) (q:κ×Value)=>p.1=q.1/\ye p.2 q.2
def kV:Key->V
 | .inl i=>.int i
 | .inr x=>.str x
inductive HO where
  | lst (xs:AT)
  | tup (xs:AT)
  | dK (A7:List (Key×V)) | dT (A7:List (List Key×V))
  | set (S:Int->Bool) (n:Nat)
  | ins (C dx:Addr) (fs:List (Str×V))
  | own (x:Addr)
  | xd (fs:List (Str×V))
  | met (f x:Addr)
  | rng (lo hi:Int)
  | frz (o:Obj) (u:HO)
  | tbl (ps:AK)
  | ext (φ:Heap->Prop)
abbrev Hp:=Addr->Option HO
def upd (H:Hp)(a:Addr)(o:HO):Hp:=λb=>if b=a then some o else H b
def zg:upd H a o a=some o:=by unfold upd;rw[if_pos rfl]
def zc(h:b≠a):upd H a o b=H b:=by unfold upd;rw[if_neg h]
def zj1 {H:Hp}{a b:Addr}{o u:HO}(h:H a=some o)(h':H b=some u)(d:o≠u):a≠b:=by grind
def ze {H:Hp}{a b:Addr}{o:HO}(h:H a=some o)(h':H b=none):a≠b:=by grind
def uy (h:Heap)(a:Addr)(q:AK):Prop:=∃o,h.get? a=some o/\o.cls = .type "tuple" /\ (∃n,o.data = .seq q n)/\o.dict=none
def uy.tup(x:uy h a q):IsTup h a q:=let ⟨o,h1,h2,h3,_⟩:=x;#[o,h1,h2,h3]
def uy.lt(x:uy h a q):a<h.objs.size:=x.tup.lt
def uy.new (h:Heap)(q:AK):uy (h.push { cls:=.type "tuple",data:=.seq q }) h.objs.size q:=#[_,']',A5,';',A5]
section
variable (P:Aa)(w:Ab)
def zJ (H:Hp)(h:Heap)(a:Addr):HO->Prop
 | .lst xs=>xs.length<=sizeLine/\∃ (its:AN) (n:Nat),yi xs its/\h.get? a=some 'Ƿ'
 | .tup xs=>xs.length<=sizeLine/\∃its:AN,yi xs its/\uy h a its.toArray
 | .dK A7=>A7.length<=sizeLine/\'ý'=false/\∃vs,KV A7 vs/\h.DictOf (zV P w) a vs
 | .dT A7=>A7.length<=sizeLine/\'ý'=false/\∃xs:List (List Key×Addr×Value),
   Paired (λ(p:List Key×V) (q:List Key×Addr×Value)=>p.1=q.1/\H q.2.1=some (.tup (p.1.map kV))/\ye p.2 q.2.2) A7 xs/\
   ∃o es ep,h.get? a=some o/\o.ExactDict/\o.data = .dict es ep/\es.toList=xs.map (entryOfKey 'Ƃ')/\(xs.map '%').Nodup
 | .set S n=>h.SetOf (intKind P w) a S n
 | .ins C dx fs=>H dx=some (.own a)/\fs.length<=1000/\dx≠a/\h.get? a=some (PySem.W.instObj C dx)/\
   ∃mA,h.Ns1 dx mA/\(∀f,zib (fs.lookup f) (mA f))/\PySem.Within mA (fs.map '%')
 | .own _=>∃o,h.get? a=some o
 | .xd fs=>∃mA,h.Ns1 a mA/\∀f,zib (fs.lookup f) (mA f)
 | .rng lo hi=>∃t u v,h.get? a=some 'Ł'
 | .frz o u=>h.get? a=some o/\zJ H h a u
 | .tbl ps=>h.get? a=some { cls:=.none,data:=.fields ps }
 | .met f x=>h.get? a=some (PySem.W.methodObj '½' (.ref x))
 | .ext B=>B h/\(∃o,h.get? a=some o)/\∀h1 h2:Heap,B h1->(∀o,h1.get? a=some o->h2.get? a=some o)->B h2
def HOk (H:Hp)(h:Heap):Prop:=∀a o,H a=some o->zJ P w H h a o
end
section
variable {P:Aa}{w:Ab}{H H':Hp}{h h':Heap}{a:Addr}{o:HO}
def zJ.lt (x:zJ P w H h a o):a<h.objs.size:=by
 cases o with
 | lst xs=>obtain⟨_,_,_,_,e⟩:=x;show av e
 | tup xs=>obtain⟨_,_,_,p⟩:=x;show p.lt
 | dK A7=>obtain⟨_,_,_,_,o,_,_,e,_⟩:=x;show av e
 | dT A7=>obtain⟨_,_,_,_,o,_,_,e,_⟩:=x;show av e
 | set S n=>obtain⟨o,_,_,_,e,_⟩:=x;show av e
 | ins C dx fs=>obtain⟨_,_,_,e,_⟩:=x;show av e
 | own y=>obtain⟨_,e⟩:=x;show av e
 | xd fs=>obtain⟨_,⟨_,_,_,e,_⟩,_⟩:=x;show av e
 | rng lo hi=>obtain⟨_,_,_,e⟩:=x;show av e
 | frz ob u=>obtain⟨e,_⟩:=x;show av e
 | tbl ps=>show av (show h.get? a=some _ from x)
 | met f y=>show av (show h.get? a=some _ from x)
 | ext q=>obtain⟨_,⟨_,e⟩,_⟩:=x;show av e
theorem Paired.mapP {α B:Type}{F BA:α->B->Prop}:∀ {l₁:List α} {q:List B},Paired F l₁ q->(∀a b,F a b->BA a b)->Paired BA l₁ q
 | _,_,.nil,_=>.nil
 | _,_,.cons r t,f=>.cons (f _ _ r) (Paired.mapP t f)
def Paired.imp' {α B:Type}{F BA:α->B->Prop}(f:∀a b,F a b->BA a b){l₁:List α}{q:List B}(r:Paired F l₁ q):Paired BA l₁ q:=Paired.mapP r f
def zJ.stay (x:zJ P w H h a o)(k:∀b u,(b=a\/H b=some (.own a))->h.get? b=some u->h'.get? b=some u)
  (F:∀b,H b=some (.own a)->H' b=some (.own a)) (I:∀b xs,H b=some 'R'->H' b=some 'R'):zJ P w H' h' a o:=by
 induction o with
 | lst xs=>obtain⟨z,its,n,r,e⟩:=x;show#[z,its,n,r,'Ù']
 | tup xs=>obtain⟨z,its,r,ob,e,c⟩:=x;show#[z,its,r,ob,'Ù',c]
 | dK A7=>obtain⟨z,y,vs,r,ob,es,ep,e,c⟩:=x;show#[z,y,vs,r,ob,es,ep,'Ù',c]
 | dT A7=>
  obtain⟨z,y,xs,r,ob,es,ep,e,c⟩:=x;show#[z,y,xs,Paired.mapP r λp q z=>#[z.1,I _ _ z.2.1,z.2.2],ob,es,ep,'Ù',c]
 | set S n=>obtain⟨ob,es,ep,t,e,c⟩:=x;show#[ob,es,ep,t,'Ù',c]
 | ins C dx fs=>
  obtain⟨d,z,J,e,mA,⟨B,es,ep,O,c⟩,r⟩:=x;show#[F _ d,z,J,'Ù',mA,#[B,es,ep,k _ _ (.inr d) O,c],r]
 | own y=>obtain⟨ob,e⟩:=x;show#[ob,'Ù']
 | xd fs=>obtain⟨mA,⟨B,es,ep,e,c⟩,r⟩:=x;show#[mA,#[B,es,ep,'Ù',c],r]
 | rng lo hi=>obtain⟨t,u,v,e⟩:=x;show#[t,u,v,'Ù']
 | frz ob u U=>obtain⟨e,q⟩:=x;show#['Ù',U q]
 | tbl ps=>
  have e:h.get? a=some { cls:=.none,data:=.fields ps }:=x;change h'.get? a=some { cls:=.none,data:=.fields ps };show k a _ 'h' e
 | met f y=>
  have e:h.get? a=some (PySem.W.methodObj '½' (.ref y)):=x;change h'.get? a=some (PySem.W.methodObj '½' (.ref y));show k a _ 'h' e
 | ext Y=>obtain⟨p,⟨o,e⟩,st⟩:=x;show#[st _ _ p λo q=>k _ _ 'h' q,#[o,'Ù'],st]
def HOk.lt (x:'»')(e:H a=some o):a<h.objs.size:=(x a o e).lt
def HOk.fresh (x:'»')(e:h.objs.size<=a):H a=none:=by
 cases q:H a with
 | none=>rfl
 | some u=>show absurd (aU (x.lt q) e) (cJ _)
def HOk.kept (x:'»')(k:'ƫ'):HOk P w H h':=λa o e=>
 (x a o e).stay (λb u _ q=>k b u q) (λ_ q=>q) λ_ _ q=>q
def HOk.laid (x:'»')(k:'ƫ')(hp:h.objs.size<=a)(B:zJ P w (upd H a o) h' a o):HOk P w (upd H a o) h':=λb u e=>by
 have F:=x.fresh hp;by_cases I:b=a;subst I;rw[zg] at e;cases e;show B;rw[zc I] at e;show (x b u e).stay (λc v _ q=>k c v q) (λc q=>by rw[zc (ze q F)];show q) λc xs q=>by rw[zc (ze q F)];show q
end
def Rd (H:Hp)(a:Addr)(u:HO):Prop:=H a=some u\/∃o,H a=some (.frz o u)
def Rd.ok(r:Rd H a u)(x:'»'):zJ P w H h a u:=by
 rcases r with r | ⟨o,r⟩;show x a u r;obtain⟨_,q⟩:=x a _ r;show q
def Mut:Option HO->Prop
 | some (.lst _)=>True
 | some (.dK _)=>True
 | some (.dT _)=>True
 | some (.set _ _)=>True
 | some (.ins _ _ _)=>True
 | some (.ext _)=>True
 | _=>False
section
variable {P:Aa}{w:Ab}{H:Hp}{h h':Heap}{x e:Addr}{o':HO}
def HOk.write (ok:'»')(I:Mut (H x))(he:e=x\/H e=some (.own x))(k:∀b u,b≠e->h.get? b=some u->h'.get? b=some u)(J:∃u,h'.get? e=some u)
  (O:zJ P w (upd H x o') h' x o'):HOk P w (upd H x o') h':=λb u q=>by
 have B:∀c y,H c=some (.own y)->c≠x:=λc y r z=>by subst z;rw[r] at I;show I
 have F:∀c xs,H c=some 'R'->c≠x:=λc xs r z=>by subst z;rw[r] at I;show I
 by_cases Y:b=x;subst Y;rw[zg] at q;cases q;show O;rw[zc Y] at q;by_cases U:b=e
 have Z:H b=some (.own x):=by
  grind
 rw[q] at Z;cases Z;obtain⟨v,hv⟩:=J;show#[v,by rw[U];show hv];show (ok b u q).stay (λc v hc r=>k c v ?_ r) (λc r=>by rw[zc (B c b r)];show r) λc xs r=>by rw[zc (F c xs r)];show r
 grind
end
structure Un (fs ex:AY)(H H':Hp)(h h':Heap):Prop where
 keep:∀b o,h.get? b=some o->H b=none->b∉fs->b∉ex->h'.get? b=some o
 slot:∀b o,h.get? b=some o->H b=none->b∈fs->b∉ex->∃sl,h'.get? b=some { o with slots:=sl }
 free:∀b o,h.get? b=some o->H b=none->b∉ex->H' b=none
 there:∀b o,h.get? b=some o->b∉ex->∃o',h'.get? b=some o'
 tups:∀b xs,H b=some (.tup xs)->H' b=some (.tup xs)
 frzs:∀b o u,H b=some (.frz o u)->H' b=some (.frz o u)
 tbls:∀b ps,H b=some (.tbl ps)->∃more,H' b=some (.tbl (ps++more))
section
variable {fs fs' ex ex':AY}{H H1 H2:Hp}{h h1 h2 h':Heap}{a x e:Addr}{o:HO}
def Un.any(u:Un fs ex H H1 h h1)(q:h.get? b=some ob)(n:H b=none)(B:b∉ex):∃I,h1.get? b=some { ob with slots:=I }:=by
 by_cases F:b∈fs;show u.slot b ob q n F B;show#[ob.slots,u.keep b ob q n F B]
def Un.kept (k:'ƫ'):Un fs ex H H h h':=
 #[λb ob q _ _ _=>k b ob q,λb ob q _ _ _=>#[ob.slots,k b ob q],λ_ _ _ n _=>n,λb ob q _=>#[ob,k b ob q],λ_ _ q=>q,λ_ _ _ q=>q,λ_ ps q=>#[#v[],by rw[q];simp]]
def Un.refl:Un fs ex H H h h:=Un.kept λ_ _ q=>q
def Un.laid (k:'ƫ')(hp:h.objs.size<=a)(B:H a=none):Un fs ex H (upd H a o) h h' where
 keep:=λb u q _ _ _=>k b u q
 slot:=λb u q _ _ _=>#[u.slots,k b u q]
 free:=λb u q n _=>by rw[zc (aY (aU (av q) hp))];show n
 there:=λb u q _=>#[u,k b u q]
 tups:=λb xs q=>by rw[zc (ze q B)];show q
 frzs:=λb u xs q=>by rw[zc (ze q B)];show q
 tbls:=λb ps q=>#[#v[],by rw[zc (ze q B),q];simp]
def Un.write (B:Mut (H x))(U:e=x\/H e=some (.own x))(k:∀b u,b≠e->h.get? b=some u->h'.get? b=some u)(J:∃u,h'.get? e=some u):Un fs ex H (upd H x o) h h':=by
 have O:∀b,H b=none->b≠x:=λb n z=>by subst z;rw[n] at B;show B
 have I:∀b,H b=none->b≠e:=λb n z=>by grind
 have F:∀b u,H b=some u->¬ Mut (some u)->b≠x:=λb u q nm z=>by subst z;rw[q] at B;show nm B
 show#[λb u q n _ _=>k b u (I b n) q,λb u q n _ _=>#[u.slots,k b u (I b n) q],λb u q n _=>by rw[zc (O b n)];show n,λb u q _=>?_,
  λb xs q=>by rw[zc (F b _ q λz=>z)];show q,λb u xs q=>by rw[zc (F b _ q λz=>z)];show q,λb ps q=>#[#v[],by rw[zc (F b _ q λz=>z),q];simp]]
 grind
end
def trk (h:Heap)(H:Hp):AY:=(List.range h.objs.size).filter λa=>(H a).isSome
def zle (h:Heap)(H:Hp):Heap:=PySem.W.hideAll h (trk h H)
def zje (h:Heap)(H:Hp):(zle h H).objs.size=h.objs.size:=PySem.W.hideAll_size _ _
def zlL(e:h.get? b=some o)(n:H b=none):(zle h H).get? b=some o:=
 gr _ e λB=>by
  have q:(H b).isSome=true:=(bJ.mp B).2;right
def zpt(e:(zle h H).get? b=some o):h.get? b=some o/\H b=none:=by
 have B:h.get? b=some o:=gL (trk h H) e;show#[B,?_]
 cases q:H b with
 | none=>rfl
 | some x=>
  have F:b∈trk h H:=bJ.mpr #[aL.mpr (av B),by simp[q]];have z:(zle h H).get? b=none:=PySem.W.hideAll_none (trk h H) F;grind
def zof (g h:Heap)(L:Addr):AB:=(List.range h.objs.size).filterMap λa=>if a=L\/(g.get? a).isSome=true then none else (h.get? a).map λo=>(a,o)
def zu (g h:Heap)(L d:Addr):AB:=(zof g h L).filter λp=>decide (p.1≠d)
structure Mod (K:AH)(mg:AI)(base:Heap):Prop where
 kin:K.In base
 glob:base.Ns mainGlobals mg
 blt:∃mb,base.Ns builtinsNs mb/\∀x:Str,x ≠ "__name__" -> mb x=bootBuiltins x
 nolimit:base.NoLimit
structure Cx where
 prog:Aa
 w:Ab
 K:AH
 mg:AI
 base:Heap
 A:Ae
 N:AM
 s₀:AZ
 H₀:Hp
 env:Env
 outer:List Env
 stack:List Env
 ex:AY
 fn:Str->Bool
 calm:Bool
 pn:AB
 xe:AA
abbrev Af (X:Cx){α:Type}:=@wpAny α 'N' X.A
def frs (l:'['):AY:=l.filterMap (·.frame)
abbrev Cx.fs (X:Cx):AY:=frs X.outer
def Vis (q:Scope)(x:Str):Prop:=q.names.lookup x=some .local\/q.names.lookup x=some .cell\/q.names.lookup x=some .free
def Loc (q:Scope)(x:Str):Prop:=q.names.lookup x=some .local\/q.names.lookup x=some .cell
def Look (env:Env)(h:Heap)(m:AI)(x:Str)(u:Value):Prop:=
 (env.kindOf x=some .local/\m x=some u)\/((env.kindOf x=some .cell\/env.kindOf x=some .free)/\∃c,env.cells.lookup x=some c/\h.IsCell c (some u))
structure Cx.Ok (X:Cx):Prop where
 mod:Mod X.K X.mg X.base
 kind:X.env.scope.kind = .function
 glob:X.env.globals=mainGlobals
 blt:X.env.builtins=builtinsNs
 above:X.s₀.heap.objs.size<=X.env.locals
 inj:∀x y c,X.env.cells.lookup x=some c->X.env.cells.lookup y=some c->x=y
 has:∀x,(X.env.kindOf x=some .cell\/X.env.kindOf x=some .free)->∃c,X.env.cells.lookup x=some c
 cab:∀x c,X.fn x=true->X.env.cells.lookup x=some c->X.s₀.heap.objs.size<=c
 hd:X.calm=true->X.A.handled=none
 frames:X.A.frames=some X.stack
 stk:X.stack=X.outer\/(X.stack=X.env::X.outer/\X.env.frame=some X.env.locals)
 exf:∀b∈X.ex,b≠X.env.locals/\∀x c,X.env.cells.lookup x=some c->c≠b
 bs:∀b o,X.base.get? b=some o->X.s₀.heap.get? b=some o/\X.H₀ b=none
 bsz:X.base.objs.size<=X.s₀.heap.objs.size
 noex:∀b o,X.base.get? b=some o->b∉X.ex
 exfs:∀b∈X.ex,b∉X.fs
 funs:X.s₀.heap.FunFrames X.base X.outer
 frf:∀b∈X.fs,X.H₀ b=none
structure Inv (X:Cx)(A6:AB)(G:List (Option V))(H:Hp)(s:AZ):Prop where
 ok:X.Ok
 os:s.os=X.s₀.os
 bare:AllBare s.gens
 base:Un X.fs X.ex X.H₀ H X.s₀.heap s.heap
 loc:∃m,s.heap.Ns X.env.locals m/\∀ (i:Nat) (x:Str) (v:V),X.N[i]?=some x->G[i]?=some (some v)->Vis X.env.scope x->∃u,ye v u/\Look X.env s.heap m x u
 cell:∀x c,X.env.cells.lookup x=some c->∃v,s.heap.IsCell c v
 free:H X.env.locals=none
 freeC:∀x c,X.env.cells.lookup x=some c->H c=none
 pin:∀p∈X.pn++A6,s.heap.get? p.1=some p.2/\H p.1=none/\p.1≠X.env.locals/\p.1∉X.fs/\∀v,p.2.data≠.cell v
 hok:HOk X.prog X.w H s.heap
 len:G.length=X.N.length
section
variable {X:Cx}{A6:AB}{G:List (Option V)}{H H':Hp}{s:AZ}{h':Heap}
def Cx.Ok.nofr(q:X.Ok)(e:X.base.get? b=some o):b∉X.fs:=λB=>by
 have:=(q.funs.mem B).1;grind
def Inv.bs (I:')'):∀b o,X.base.get? b=some o->s.heap.get? b=some o/\H b=none:=λb o e=>
 #[I.base.keep b o (I.ok.bs b o e).1 (I.ok.bs b o e).2 (I.ok.nofr e) (I.ok.noex b o e),I.base.free b o (I.ok.bs b o e).1 (I.ok.bs b o e).2 (I.ok.noex b o e)]
def Inv.bk (I:')'):∀b o,X.base.get? b=some o->s.heap.get? b=some o:=λb o e=>(I.bs b o e).1
def Inv.mod (I:')'):Mod X.K X.mg X.base:=I.ok.mod
def Inv.kIn (I:')'):X.K.In s.heap:=I.ok.mod.kin.keeps I.bk
def Inv.lt (I:')'):X.env.locals<s.heap.objs.size:=let ⟨_,hn,_⟩:=I.loc;hn.lt
def Inv.sz (I:')'):X.s₀.heap.objs.size<=s.heap.objs.size:=aw I.ok.above (dq I.lt)
def Inv.nofs (I:')'){a:Addr}(h:s.heap.objs.size<=a):a∉X.fs:=λq=>by obtain⟨_,o,B,_⟩:=I.ok.funs.mem q;show absurd (aU (av B) (aw I.sz h)) (cJ _)
def Inv.cne (I:')'):∀x c,X.env.cells.lookup x=some c->c≠X.env.locals:=λx c e z=>by
 obtain⟨v,o,F,J⟩:=I.cell x c e;obtain⟨m,⟨o',es,ep,q,B,_⟩,_⟩:=I.loc;grind
def Inv.funs (I:')'):s.heap.FunFrames X.base X.outer:=by
 have all:∀ (l:'['),(∀b∈frs l,b∈X.fs)->X.s₀.heap.FunFrames X.base l->s.heap.FunFrames X.base l:=by
  intro l
  induction l with
  | nil=>intro _ _;trivial
  | cons env r F=>
   intro hs J;obtain⟨O,⟨L,o,hf,U,Y,Z⟩,hr⟩:=J;have q:L∈X.fs:=hs L (by unfold frs;rw[bu,hf];show aq);obtain⟨sl,e⟩:=I.base.slot L o Y (I.ok.frf L q) q λz=>I.ok.exfs L z q;show#[O,#[L,_,hf,U,e,Z],F (λb B=>hs b (by unfold frs;rw[bu,hf];show ak _ B)) hr]
 show all X.outer (λ_ B=>B) I.ok.funs
def Inv.stack (I:')'):s.heap.FunFrames X.base X.stack:=by
 rcases I.ok.stk with e | ⟨e,hf⟩;rw[e];show I.funs;rw[e];obtain⟨m,q,_⟩:=I.loc;show .cons (by rw[I.ok.kind];decide) hf q ?_ I.funs;show Heap.get?_none_of_le (aw I.ok.bsz I.ok.above)
def Inv.stkSub (I:')'):∀b∈frs X.stack,b∈X.env.locals::X.fs:=λb q=>by
 rcases I.ok.stk with e | ⟨e,hf⟩;grind;rw[e] at q;unfold frs at q;rw[bu,hf] at q;show q
def Inv.stkFree (I:')'):∀b∈frs X.stack,H b=none:=λb q=>by
 rcases au.mp (I.stkSub b q) with e | q;rw[e];show I.free;obtain⟨_,o,B,_⟩:=I.ok.funs.mem q;show I.base.free b o B (I.ok.frf b q) λz=>I.ok.exfs b z q
def Inv.step {g':Array GenState}{t':Nat}{d':Drawn}{ch:AY}(I:')')
  (F:'Ǔ')
  (U:∀b o,b≠X.env.locals->b∉X.fs->b∉ch->s.heap.get? b=some o->H b=none->h'.get? b=some o)
  (Y:∀b o,b≠X.env.locals->b∈X.fs->b∉ch->s.heap.get? b=some o->H b=none->∃sl,h'.get? b=some { o with slots:=sl }) (J:∀b o,b∉ch->s.heap.get? b=some o->H b=none->H' b=none)
  (al:∀b o,b∉ch->s.heap.get? b=some o->∃o',h'.get? b=some o')
  (ac:∀b xs,H b=some 'R'->H' b=some 'R') (ad:∀b o u,H b=some (.frz o u)->H' b=some (.frz o u)) (a0:∀b ps,H b=some (.tbl ps)->∃more,H' b=some (.tbl (ps++more)))
  (ns:∀m,s.heap.Ns X.env.locals m->h'.Ns X.env.locals m) (an:HOk X.prog X.w H' h') (hg:AllBare g') :
  Inv X A6 G H' { s with heap:=h',gens:=g',drawn:=d',toks:=t' }:=by
 have ag:∀b o,X.s₀.heap.get? b=some o->b≠X.env.locals:=λb o e=>aY 'Ż'
 have Z:∀b o,X.s₀.heap.get? b=some o->b∉X.ex->b∉ch:=λb o e B hb=>by
  rcases (F b hb).1 with z | z;show B z;show absurd (aU (av e) z) (cJ _)
 have O:∀x c,X.env.cells.lookup x=some c->∀v,s.heap.IsCell c v->h'.IsCell c v:=by
  rintro x c e v ⟨o,ho,hd⟩;have ab:c∉ch:=λz=>(F c z).2.2.1 x c e A5;by_cases hc:c∈X.fs;obtain⟨sl,q⟩:=Y c o (I.cne x c e) hc ab ho (I.freeC x c e);show#[_,q,hd];show#[o,U c o (I.cne x c e) hc ab ho (I.freeC x c e),hd]
 show#[I.ok,I.os,hg,#[λb o e n hb B=>?_,λb o e n hb B=>?_,λb o e n B=>?_,λb o e B=>?_,λb xs e=>ac b xs (I.base.tups b xs e),λb o xs e=>ad b o xs (I.base.frzs b o xs e),λb ps e=>?_],?_,λx c e=>?_,?_,λx c e=>?_,λp hp=>?_,an,I.len];show U b o (ag b o e) hb (Z b o e B) (I.base.keep b o e n hb B) (I.base.free b o e n B);obtain⟨sl,e1⟩:=I.base.slot b o e n hb B;obtain⟨as,e2⟩:=Y b _ (ag b o e) hb (Z b o e B) e1 (I.base.free b o e n B);show#[as,e2];obtain⟨o',e1⟩:=I.base.there b o e B;show J b o' (Z b o e B) e1 (I.base.free b o e n B);obtain⟨o',e1⟩:=I.base.there b o e B;right;obtain⟨m1,e1⟩:=I.base.tbls b ps e;grind;obtain⟨m,hn,hl⟩:=I.loc;show#[m,ns m hn,λi x v e1 e2 e3=>?_];obtain⟨u,r,l⟩:=hl i x v e1 e2 e3;show#[u,r,?_];rcases l with l | ⟨k,c,e,z⟩;show .inl l;show .inr #[k,c,e,O x c e _ z];obtain⟨v,z⟩:=I.cell x c e;show#[v,O x c e v z];obtain⟨m,⟨o,_,_,ho,_⟩,_⟩:=I.loc;show J _ o (λz=>(F _ z).2.1 A5) ho I.free;obtain⟨v,o,ho,hd⟩:=I.cell x c e;show J c o (λz=>(F c z).2.2.1 x c e A5) ho (I.freeC x c e);obtain⟨e,n,ne,nf,d⟩:=I.pin p hp;have ab:p.1∉ch:=λz=>(F p.1 z).2.2.2 p hp A5;right
def Inv.un(I:')')(u:Un X.fs [] H H' s.heap h')(B:HOk X.prog X.w H' h'):Inv X A6 G H' 'Ģ':=by
 obtain⟨m,⟨o,es,ep,O,r⟩,_⟩:=id I.loc;obtain⟨sl,U⟩:=u.any O I.free '$';show I.step (g':=s.gens) (d':=s.drawn) (ch:=[]) (λ_ z=>nomatch z) (λb o _ F _ e n=>u.keep b o e n F '$') (λb o _ F _ e n=>u.slot b o e n F '$') (λb o _ e n=>u.free b o e n '$') (λb o _ e=>u.there b o e '$') u.tups u.frzs u.tbls (λm' Y=>by obtain⟨o',es',J,q,Z⟩:=Y;rw[O] at q;cases q;show#[_,es',J,U,Z]) B I.bare
def Inv.call(I:')')(u:Un (frs X.stack) ch H H' s.heap h')(J:HOk X.prog X.w H' h')(Z:AllBare g')(B:'Ǔ') :
  Inv X A6 G H' { s with heap:=h',gens:=g',drawn:=d',toks:=t' }:=by
 obtain⟨m,⟨o,es,ep,Y,r⟩,_⟩:=id I.loc;obtain⟨sl,O⟩:=u.any Y I.free λz=>(B _ z).2.1 A5;show I.step (ch:=ch) B (λb o O hb q e n=>u.keep b o e n (λz=>(au.mp (I.stkSub b z)).elim O hb) q) (λb o _ _ q e n=>u.any e n q) (λb o q e n=>u.free b o e n q) (λb o q e=>u.there b o e q) u.tups u.frzs u.tbls (λm' hm=>by obtain⟨o',es',U,F,r'⟩:=hm;rw[Y] at F;cases F;show#[_,es',U,O,r']) J Z
def Inv.turned(I:')')(k:∀b o,b≠it->s.heap.get? b=some o->h'.get? b=some o)(J:H it=none)(F:it≠X.env.locals)(h1:it∈X.ex\/X.s₀.heap.objs.size<=it)(h2:∀x c,X.env.cells.lookup x=some c->c≠it)(O:∀p∈X.pn++A6,p.1≠it):Inv X A6 G H 'Ģ':=by
 have U:∀b u,H b=some u->b≠it:=λb u e z=>by rw[z,J] at e;cases e
 show I.step (g':=s.gens) (d':=s.drawn) (ch:=[it]) (λb Y=>?_) (λb o _ _ B e _=>k b o (λz=>B (by simp[z])) e) (λb o _ _ B e _=>#[o.slots,k b o (λz=>B (by simp[z])) e]) (λ_ _ _ _ n=>n)
  (λb o B e=>#[o,k b o (λz=>B (by simp[z])) e]) (λ_ _ e=>e) (λ_ _ _ e=>e) (λb ps e=>#[#v[],by rw[e];simp]) (λm Z=>?_) (λb u e=>?_) I.bare
 have e:b=it:=by simpa using Y
 subst e;show#[h1,F,h2,O];obtain⟨o,es,ep,ho,r⟩:=Z;show#[o,es,ep,k _ o (Ne.symm F) ho,r];show (I.hok b u e).stay (λc v B q=>k c v ?_ q) (λ_ q=>q) λ_ _ q=>q;grind
def Inv.tok (I:')')(t:Nat):Inv X A6 G H { s with toks:=t }:=I.un (h':=s.heap) (t':=t) Un.refl I.hok
def Inv.kept(I:')')(k:∀b u,s.heap.get? b=some u->h'.get? b=some u):Inv X A6 G H 'Ģ':=I.un (Un.kept k) (I.hok.kept k)
def Inv.laid{a:Addr}(I:')')(k:∀b u,s.heap.get? b=some u->h'.get? b=some u)(hp:s.heap.objs.size<=a)(q:zJ X.prog X.w (upd H a o) h' a o) :
  Inv X A6 G (upd H a o) 'Ģ':=I.un (Un.laid k hp (I.hok.fresh hp)) (I.hok.laid k hp q)
def Inv.write(I:')')(F:Mut (H x))(J:e=x\/H e=some (.own x))(k:∀b u,b≠e->s.heap.get? b=some u->h'.get? b=some u)(q:∃u,h'.get? e=some u)(B:zJ X.prog X.w (upd H x o) h' x o):Inv X A6 G (upd H x o) 'Ģ':=I.un (Un.write F J k q) (I.hok.write F J k q B)
def Inv.pins_of(I:')')(h:∀p∈q,s.heap.get? p.1=some p.2/\H p.1=none/\p.1≠X.env.locals/\p.1∉X.fs/\∀v,p.2.data≠.cell v):Inv X q G H s:=
 #[I.ok,I.os,I.bare,I.base,I.loc,I.cell,I.free,I.freeC,λp hp=>(aC.mp hp).elim (λz=>I.pin p (cC _ z)) (h p),I.hok,I.len]
def zha {N:AM}(q:N.Nodup){i j:Nat}{x:Str}(a:N[i]?=some x)(b:N[j]?=some x):i=j:=by obtain⟨h1,B⟩:=ai.mp a;obtain⟨h2,F⟩:=ai.mp b;show (dh q).mp (B.trans F.symm)
def zfb(I:')')(hN:'«')(hi:'_')(J:'æ')(r:ye v u)(h:∀s',Inv X A6 (G.set i '¬') H s'->(∃a,Heap.SameBut a s.heap s'.heap/\(a=X.env.locals\/X.env.cells.lookup x=some a))->Q () s')(hf:'Þ':=by fail"l"):wpAny M A (storeName X.env x u) Q E s:=by
 obtain⟨m,hn,hl⟩:=id I.loc;have ac:'ȫ'=false:=by rw[I.ok.kind];rfl
 have Y:i<G.length:=by rw[I.len];show (ai.mp hi).1
 have Z:=I.cne
 have B:∀ {a:Addr} {h':Heap},(∃o,s.heap.get? a=some o/\H a=none)->Heap.SameBut a s.heap h'->HOk X.prog X.w H h':=λ{a h'} ha hs b ob e=>by
  obtain⟨_,_,al⟩:=ha;show (I.hok b ob e).stay (λc w' O q=>(hs.2 c ?_).trans q) (λ_ q=>q) λ_ _ q=>q;grind
 rcases J with hk | hk;show wpAny_storeName_local hk hn (λh' an hs=>?_) ac;obtain⟨oL,_,_,as,_⟩:=id hn;show h _ #[I.ok,I.os,I.bare,'Ȥ',#[_,an,λj y v' F U e3=>?_],λy c e=>?_,I.free,I.freeC,λp hp=>?_,B #[oL,as,I.free] hs,by simpa using I.len] #[_,hs,.inl A5];show (hs.2 b (aY 'Ż')).trans (I.base.keep b o e n hb J);obtain⟨sl,F⟩:=I.base.slot b o e n hb J;show#[sl,(hs.2 b (aY 'Ż')).trans F];obtain⟨o',F⟩:=I.base.there b o e J;show#[o',(hs.2 b (aY 'Ż')).trans F];by_cases hj:j=i;subst hj;rw[hi] at F;cases F;rw[ba Y] at U;cases U;show#[u,r,.inl #[hk,'4']];rw[aH (Ne.symm hj)] at U;obtain⟨u',r',q⟩:=hl j y v' F U e3;show#[u',r',?_];rcases q with ⟨k,e⟩ | ⟨k,c,e,z⟩;show .inl #[k,?_];have:y≠x:=λe=>hj (zha hN F (e ▸ hi));simp[this,e];show .inr #[k,c,e,z.sameBut hs (Z y c e)];obtain⟨w',z⟩:=I.cell y c e;show#[w',z.sameBut hs (Z y c e)];obtain⟨e,n,ne,nf,d⟩:=I.pin p hp;show#[(hs.2 p.1 ne).trans e,n,ne,nf,d]
 have ab:X.fn x=true:=by
  grind
 obtain⟨c,O⟩:=I.ok.has x (.inl hk);obtain⟨w',z⟩:=I.cell x c O;show wpAny_storeName_cell I.ok.kind hk O z (λh' ad hs=>?_);obtain⟨oc,a0,a1⟩:=id z;show h '5' #[I.ok,I.os,I.bare,'Ȥ',#[m,hn.sameBut hs (Ne.symm (Z x c O)),λj y v' F U e3=>?_],λy c' e=>?_,I.free,I.freeC,λp hp=>?_,B #[oc,a0,I.freeC x c O] hs,by simpa using I.len] #[c,hs,.inr O];show 'ǹ'.trans (I.base.keep b o e n hb J);obtain⟨sl,F⟩:=I.base.slot b o e n hb J;show#[sl,'ǹ'.trans F];obtain⟨o',F⟩:=I.base.there b o e J;show#[o','ǹ'.trans F];by_cases hj:j=i;subst hj;rw[hi] at F;cases F;rw[ba Y] at U;cases U;show#[u,r,.inr #[.inl hk,c,O,ad]];rw[aH (Ne.symm hj)] at U;obtain⟨u',r',q⟩:=hl j y v' F U e3;show#[u',r',?_];rcases q with q | ⟨k,c',e,z'⟩;show .inl q;show .inr #[k,c',e,z'.sameBut hs ?_];rintro rfl;show hj (zha hN F (I.ok.inj _ _ _ e O ▸ hi));by_cases ag:c'=c;subst ag;show#[_,ad];obtain⟨w2,z2⟩:=I.cell y c' e;show#[w2,z2.sameBut hs ag];obtain⟨e,n,ne,nf,d⟩:=I.pin p hp;show#[(hs.2 p.1 ?_).trans e,n,ne,nf,d];intro q;right
def zd5(I:')')(q:'«')(hi:'_')(B:'æ')(r:ye v u)(h:∀s',Inv X A6 (G.set i '¬') H s'->Q () s')(hf:'Þ':=by fail"l"):wpAny M A (storeName X.env x u) Q E s:=
 zfb I q hi B r (λs' I' _=>h s' I') hf
def Inv.call'(I:')')(F:s'.os=s.os)(u:Un (frs X.stack) ch H H' s.heap s'.heap)(q:HOk X.prog X.w H' s'.heap)(J:AllBare s'.gens)(B:'Ǔ'):Inv X A6 G H' s':=by
 obtain⟨h',g',d',t',o'⟩:=s';have e:o'=s.os:=F;subst e;show I.call (g':=g') (t':=t') (d':=d') u q J B
end
abbrev XK:=Value->Option Addr->Hp->Prop
abbrev St:=List (Option V)
abbrev VK:=V->Hp->Prop
abbrev TE:=St->Hp->VK->Prop
abbrev TT:=St->Hp->(Bool->Hp->Prop)->Prop
abbrev TA:=St->Hp->(AT->Hp->Prop)->Prop
structure Ends where
 nx:St->Hp->Prop
 rt:VK
 bk:St->Hp->Prop:=λ_ _=>False
 ct:St->Hp->Prop:=λ_ _=>False
abbrev TS:=Ends->St->Hp->Prop
def EP (X:Cx)(A6:AB)(G:St)(Q:VK)(u:Value)(s':AZ):Prop:=∃v H',Inv X A6 G H' s'/\ye v u/\Q v H'
def TP (X:Cx)(A6:AB)(G:St)(Q:Bool->Hp->Prop)(b:Bool)(s':AZ):Prop:=∃H',Inv X A6 G H' s'/\Q b H'
def AP (X:Cx)(A6:AB)(G:St)(Q:AT->Hp->Prop)(us:AN)(s':AZ):Prop:=∃vs H',Inv X A6 G H' s'/\yi vs us/\Q vs H'
def SP (X:Cx)(A6:AB)(BB:Ends)(f:Flow)(s':AZ):Prop:=
 match f with
 | .next=>∃ q H',Inv X A6 q H' s'/\BB.nx q H'
 | .brk=>∃ q H',Inv X A6 q H' s'/\BB.bk q H'
 | .cont=>∃ q H',Inv X A6 q H' s'/\BB.ct q H'
 | .ret u=>∃v q H',Inv X A6 q H' s'/\ye v u/\BB.rt v H'
def PE (X:Cx)(e:Expr)(t:TE):Prop:=
 ∀ (A6:AB) (s:AZ) (G:St) (H:Hp) (Q:VK),Inv X A6 G H s->t G H Q->Af X (eval e X.env) 'Â' X.xe s
def PT (X:Cx)(e:Expr)(t:TT):Prop:=
 ∀ (A6:AB) (s:AZ) (G:St) (H:Hp) (Q:Bool->Hp->Prop),Inv X A6 G H s->t G H Q->Af X (isTrue e X.env (eval e X.env)) (TP X A6 G Q) X.xe s
def PW (X:Cx)(e:Expr)(t:TT):Prop:=
 ∀ (q:Sem Value) (A6:AB) (s:AZ) (G:St) (H:Hp) (Q:Bool->Hp->Prop),Inv X A6 G H s->t G H Q->Af X (isTrue e X.env q) (TP X A6 G Q) X.xe s
def PW.pt(h:PW X e t):PT X e t:=h _
def PA (X:Cx)(es:AO)(t:TA):Prop:=
 ∀ (pos:Pos) (A6:AB) (s:AZ) (G:St) (H:Hp) (Q:AT->Hp->Prop),Inv X A6 G H s->t G H Q->Af X (spliced (backTo pos 'ř')) (AP X A6 G Q) X.xe s
def PS (X:Cx)(st:Stmt)(t:TS):Prop:=
 ∀ (A6:AB) (s:AZ) (G:St) (H:Hp) (BB:Ends),Inv X A6 G H s->t BB G H->Af X (exec st X.env) (SP X A6 BB) X.xe s
def PSs (X:Cx)(st:List Stmt)(t:TS):Prop:=
 ∀ (A6:AB) (s:AZ) (G:St) (H:Hp) (BB:Ends),Inv X A6 G H s->t BB G H->Af X (execs st X.env) (SP X A6 BB) X.xe s
def thn{α:Type}{t:Sem α}{Q Q':α->AZ->Prop}(h:wpAny M A t Q E s)(q:∀a s,Q a s->Q' a s):wpAny M A t Q' E s:=aE h q λ_ _ x=>x
section
variable {X:Cx}
def zlh (i:Nat):TE:=λG H Q=>∃v,G[i]?=some '¬'/\Q v H
def tC (v:V):TE:=λ_ H Q=>Q v H
def zke {i:Nat}{x:Str}{pos:Pos}(J:'_')(O:'Ì')(B:Ah x:=by ext)(F:'Å':=by ext):PE X 'u' (zlh i):=by
 intro A6 s G H Q I h;obtain⟨v,e,h⟩:=h;obtain⟨m,U,Y⟩:=I.loc;obtain⟨u,r,l⟩:=Y i x v J e O;have fin:EP X A6 G Q u s:=#[v,H,I,r,h];rcases l with ⟨q,hm⟩ | ⟨q,c,hc,hcell⟩;show wpAny_Name (wpAny_loadName_local I.ok.kind q U hm fin) B;rcases q with q | q;show wpAny_Name (wpAny_loadName_cell I.ok.kind q hc hcell fin) B;show wpAny_Name (wpAny_loadName_free I.ok.kind q hc hcell fin F) B
def znN {i j pos}:PE X (.Constant 'P' j pos) (tC 'P'):=λ_ _ _ H _ I h=>wpAny_Constant_int #[.int i,H,I.tok _,';',h]
def zvA {b j pos}:PE X (.Constant (.bool b) j pos) (tC (.bl b)):=λ_ _ _ H _ I h=>Constant_bool #[.bl b,H,I,A5,h]
def zsw {j pos}:PE X (.Constant .none j pos) (tC .non):=λ_ _ _ H _ I h=>Constant_none #[.non,H,I,A5,h]
def zsz {x j pos}:PE X (.Constant (.str x) j pos) (tC (.str x)):=λ_ _ _ H _ I h=>Calls.Constant_str #[.str x,H,I.tok _,';',h]
def Gl (X:Cx)(x:Str):Prop:=X.env.kindOf x=some .globalImplicit
def zdz{E:AA}{A6:AB}{s:AZ}{G:St}{H:Hp}{x:Str}{u:Value}{Q:AA}(I:')')(q:Gl X x)(B:X.mg x=some u)(h:Q u s)(F:Ah x:=by ext):Af X (eval 'u' X.env) Q E s:=
 eE I.ok.kind q (Calls.loadGlobal_global (by rw[I.ok.glob];show I.mod.glob.keeps I.bk) B h) F
def zc2 {E:AA}{A6:AB}{s:AZ}{G:St}{H:Hp}{x:Str}{u:Value}{pos:Pos}{Q:AA}(I:')')(q:Gl X x)(B:'ñ')(F:bootBuiltins x=some u)(h:Q u s)
  (J:'ç' := by ext) (O:Ah x:=by ext):Af X (eval 'u' X.env) Q E s:=by
 obtain⟨U,h1,h2⟩:=I.mod.blt;show eE I.ok.kind q (Calls.loadGlobal_builtin (by rw[I.ok.glob];show I.mod.glob.keeps I.bk) B (by rw[I.ok.blt];show h1.keeps I.bk) ((h2 x J).trans F) h) O
def zpI(q:Gl X x)(B:X.mg x=some u)(r:ye v u)(F:Ah x:=by ext):PE X 'u' (tC v):=
 λ_ _ _ H _ I h=>zdz I q B #[v,H,I,r,h] F
def zpD {x:Str}{v:V}{u:Value}{pos:Pos}(q:Gl X x)(B:'ñ')(F:bootBuiltins x=some u)(r:ye v u)(J:'ç' := by ext)(O:Ah x:=by ext):PE X 'u' (tC v):=
 λ_ _ _ H _ I h=>zc2 I q B F #[v,H,I,r,h] J O
variable {a b:Expr}{ta tb:TE}{pos:Pos}
def PC (X:Cx)(op:CmpOp)(a b:Expr)(t:TE):Prop:=
 ∀ (A6:AB) (s:AZ) (G:St) (H:Hp) (Q:VK),Inv X A6 G H s->t G H Q->
  Af X (eval a X.env) (λv q=>Af X (eval b X.env) (λu B=>Af X (compareOp op v u) 'Â' X.xe B) X.xe q) X.xe s
def zg9(b:Expr)(h:op≠.In)(h2:op≠.NotIn):behindInMarks op b=false:=by
 have q:(op==CmpOp.In)=false:=by cases op <;> first | rfl | show absurd A5 h
 have B:(op==CmpOp.NotIn)=false:=by cases op <;> first | rfl | show absurd A5 h2
 cases b <;> simp[behindInMarks,q,B]
def zvY (ta:TE):TE:=λG H Q=>ta G H λx H1=>Q (.bl (decide (x = .non))) H1
def ye.none_iff(r:ye x v):(v==Value.none)=decide (x = .non):=by
 cases x with
 | non=>cases r;rfl
 | bl _=>cases r;rfl
 | int _=>obtain⟨t,rfl⟩:=r;rfl
 | str _=>obtain⟨t,rfl⟩:=r;rfl
 | byt _=>obtain⟨t,rfl⟩:=r;rfl
 | flt _=>obtain⟨t,rfl⟩:=r;rfl
 | ref _=>cases r;rfl
 | ty _=>cases r;rfl
def zst {j pos'}(q:PE X a ta):PC X .Is a (.Constant .none j pos') (zvY ta):=by intro A6 s G H Q I h;show thn (q A6 s G H _ I h)  ?_;rintro v J ⟨x,H1,I1,B,F⟩;show Constant_none (is_none_gen #[.bl _,H1,I1,by rw[B.none_iff];rfl,F])
def tB (t:TE):TT:=λG H Q=>t G H λx H1=>∃c,x = .bl c/\Q c H1
def zsN(h:PC X op a b t)(h1:'č':=by first | show zg9 _ '#' '#' | rfl):PT X 'Č' (tB t):=by intro A6 s G H Q I B;show wpAny_isTrue_Compare1 (thn (h A6 s G H _ I B) λv O h1=>thn h1 λu U h2=>thn h2 λc Y ⟨x,H1,I1,F,J⟩=>?_) h1;obtain⟨d,rfl,q⟩:=J;cases F;show cU #[H1,I1,q]
def zsP(h:PE X e t)(he:∀whole,isTrue e X.env whole=(do let v <- whole;standAt e.pos;holding [v] (truthy v)):=by intro _;rfl):PT X e (tB t):=by intro A6 s G H Q I hw;show isTrue_plain (thn (h A6 s G H _ I hw) λv s1 ⟨x,H1,I1,r1,q1⟩=>?_) (he _);obtain⟨d,rfl,q⟩:=q1;cases r1;show cU #[H1,I1,q]
variable {tA tB':TT}{zu:AO}
def zvT (t u:TT):TT:=λG H Q=>t G H λc H1=>if c=true then u G H1 Q else Q false H1
def tOr (t u:TT):TT:=λG H Q=>t G H λc H1=>if c=true then Q true H1 else u G H1 Q
def tNot (t:TT):TT:=λG H Q=>t G H λc H1=>Q (!c) H1
def zp4 (q:PT X a tA):PW X (.BoolOp .And [a] pos) tA:=by
 intro B A6 s G H Q I h;show isTrue_and (thn (q A6 s G H Q I h) λc F e=>?_)
 cases c with
 | true=>show isTrue_and_nil e
 | false=>show e
def zsR (q:PT X a tA):PW X (.BoolOp .Or [a] pos) tA:=by
 intro B A6 s G H Q I h;show isTrue_or (thn (q A6 s G H Q I h) λc F e=>?_)
 cases c with
 | false=>show isTrue_or_nil e
 | true=>show e
def zsQ (B:PT X a tA)(F:PW X 'ŋ' tB'):PW X 'Ň' (zvT tA tB'):=by
 intro J A6 s G H Q I h;show isTrue_and (thn 'į'  ?_);rintro c O ⟨H1,I1,q⟩
 cases c with
 | true=>show F J A6 O G H1 Q I1 q
 | false=>show#[H1,I1,q]
def zvH (B:PT X a tA)(F:PW X (.BoolOp .Or (b::zu) pos) tB'):PW X (.BoolOp .Or (a::b::zu) pos) (tOr tA tB'):=by
 intro J A6 s G H Q I h;show isTrue_or (thn 'į'  ?_);rintro c O ⟨H1,I1,q⟩
 cases c with
 | true=>show#[H1,I1,q]
 | false=>show F J A6 O G H1 Q I1 q
def zsO (q:PT X a tA):PT X 'Ŗ' (tNot tA):=by intro A6 s G H Q I h;show isTrue_not (q A6 s G H (λc H1=>Q (!c) H1) I h)
def ztq (ta tb:TE):TE:=λG H Q=>ta G H λx H1=>∃c,x = .bl c/\if c=true then tb G H1 Q else Q (.bl false) H1
def ztw (ta:TE):TE:=λG H Q=>ta G H λx H1=>∃c,x = .bl c/\Q (.bl (!c)) H1
def zsy{op}(h:PE X a t):PE X (.BoolOp op [a] pos) t:=λA6 s G H Q I q=>BoolOp_one (h A6 s G H Q I q)
def zsu (B:PE X a ta)(F:PE X 'ŋ' tb):PE X 'Ň' (ztq ta tb):=by
 intro A6 s G H Q I h;show BoolOp_and (thn 'į'  ?_);rintro v J ⟨x,H1,I1,O,q⟩;obtain⟨c,rfl,q⟩:=q;cases O;show cU ?_
 cases c with
 | true=>show F A6 J G H1 Q I1 q
 | false=>show#[.bl false,H1,I1,A5,q]
def zsx (B:PE X a ta):PE X 'Ŗ' (ztw ta):=by intro A6 s G H Q I h;show UnaryOp_ (thn 'į'  ?_);rintro v J ⟨x,H1,I1,F,q⟩;obtain⟨c,rfl,q⟩:=q;cases F;show not_of (cU #[.bl (!c),H1,I1,A5,q])
def tIf (t:TT)(ta tb:TE):TE:=λG H Q=>t G H λc H1=>if c=true then ta G H1 Q else tb G H1 Q
def zmx(F:PT X c tA)(J:PE X a ta)(O:PE X b tb):PE X (.IfExp c a b pos) (tIf tA ta tb):=by
 intro A6 s G H Q I h;show wpAny_IfExp (thn 'Į'  ?_);rintro d q ⟨H1,I1,B⟩
 cases d with
 | true=>show J A6 q G H1 Q I1 B
 | false=>show O A6 q G H1 Q I1 B
end
def SqL (K:AH)(H:Hp)(a:Addr)(xs:AT):Prop:=
 Rd H a '+'\/
  ∃ (o:Obj) (its:AK) (n:Nat),K.lookup a=some o/\o.cls = .type "list" /\ o.dict=none/\o.data = .seq its n/\its.size<=sizeLine/\yi xs its.toList
def SqT (K:AH)(H:Hp)(a:Addr)(xs:AT):Prop:=
 Rd H a 'R'\/
  ∃ (o:Obj) (its:AK) (n:Nat),K.lookup a=some o/\o.cls = .type "tuple" /\ o.data = .seq its n/\its.size<=sizeLine/\yi xs its.toList
def absV:Value->Option V
 | .none=>some .non
 | .bool b=>some (.bl b)
 | .int i _=>some 'P'
 | .str x _=>some (.str x)
 | .bytes b _=>some (.byt b)
 | .float b _=>some (.flt b)
 | .ref a=>some 'J'
 | .type n=>some (.ty n)
 | _=>none
def ye.abs(r:ye x u):absV u=some x:=by
 cases x with
 | non=>cases r;rfl
 | bl _=>cases r;rfl
 | int _=>obtain⟨t,rfl⟩:=r;rfl
 | str _=>obtain⟨t,rfl⟩:=r;rfl
 | byt _=>obtain⟨t,rfl⟩:=r;rfl
 | flt _=>obtain⟨t,rfl⟩:=r;rfl
 | ref _=>cases r;rfl
 | ty _=>cases r;rfl
def ye.inj(r:ye x u)(q:ye y u):x=y:=bK (r.abs.symm.trans q.abs)
theorem yi.inj:∀ {xs ys:AT} {us:AN},yi xs us->yi ys us->xs=ys
 | _,_,_,.nil,.nil=>rfl
 | _,_,_,.cons r t,.cons q t'=>by rw[r.inj q,yi.inj t t']
section
variable {X:Cx}{A6:AB}{G:St}{H:Hp}{s:AZ}{a:Addr}{xs ys:AT}
def SqL.of {K:AH}(h:H a=some '+'):SqL K H a xs:=.inl (.inl h)
def SqT.of {K:AH}(h:H a=some 'R'):SqT K H a xs:=.inl (.inl h)
def Inv.list (I:')')(h:SqL X.K H a xs):∃its:AN,yi xs its/\PlainL s.heap a its.toArray/\xs.length<=sizeLine:=by
 rcases h with h | ⟨o,its,n,hk,hc,hd,hs,hz,r⟩;obtain⟨z,its,n,r,e⟩:=h.ok I.hok;show#[its,r,#[_,n,e,A5,A5,A5],z];show#[its.toList,r,#[o,n,I.kIn a o hk,hc,hd,by simpa using hs],?_];have e:=r.length;grind
def Inv.tuple (I:')')(h:SqT X.K H a xs):∃its:AN,yi xs its/\IsTup s.heap a its.toArray/\xs.length<=sizeLine:=by
 rcases h with h | ⟨o,its,n,hk,hc,hs,hz,r⟩;obtain⟨z,its,r,p⟩:=h.ok I.hok;show#[its,r,p.tup,z];show#[its.toList,r,#[o,I.kIn a o hk,hc,n,by simpa using hs],?_];have e:=r.length;grind
def Inv.list_inj (I:')')(h:SqL X.K H a xs)(h':SqL X.K H a ys):xs=ys:=by
 obtain⟨its,r,⟨o,n,e,_,_,d⟩,_⟩:=I.list h;obtain⟨its',B,⟨o',J,q,_,_,d'⟩,_⟩:=I.list h';rw[e] at q;cases q;rw[d] at d';injection d' with F _;have:its=its':=by simpa using congrArg Array.toList F
 subst this;show r.inj B
def Inv.tuple_inj (I:')')(h:SqT X.K H a xs)(h':SqT X.K H a ys):xs=ys:=by
 obtain⟨its,r,⟨o,e,_,n,d⟩,_⟩:=I.tuple h;obtain⟨its',B,⟨o',q,_,J,d'⟩,_⟩:=I.tuple h';rw[e] at q;cases q;rw[d] at d';injection d' with F _;have:its=its':=by simpa using congrArg Array.toList F
 subst this;show r.inj B
end
abbrev Cx.wish (X:Cx)(E:AA):Cx:={ X with xe:=E }
abbrev Cx.nox (X:Cx):Cx:=X.wish λ_ _=>False
def Cx.Ok.wish {X:Cx}(q:X.Ok)(E:AA):(X.wish E).Ok:=
 'Ȝ'
def Cx.Ok.unwish{X:Cx}(q:(X.wish E).Ok):X.Ok:=
 'Ȝ'
section
variable {X:Cx}{A6:AB}{G:St}{H:Hp}{s:AZ}{E:AA}
def Inv.wish (I:')')(E:AA):Inv (X.wish E) A6 G H s:=#[I.ok.wish E,I.os,I.bare,I.base,I.loc,I.cell,I.free,I.freeC,I.pin,I.hok,I.len]
def Inv.unwish (I:Inv (X.wish E) A6 G H s):Inv X A6 G H s:=#[I.ok.unwish,I.os,I.bare,I.base,I.loc,I.cell,I.free,I.freeC,I.pin,I.hok,I.len]
def SP.unwish(h:SP (X.wish E) A6 BB f s'):SP X A6 BB f s':=by
 cases f with
 | next=>obtain⟨B,H',I,q⟩:=h;show#[B,H',I.unwish,q]
 | brk=>obtain⟨B,H',I,q⟩:=h;show#[B,H',I.unwish,q]
 | cont=>obtain⟨B,H',I,q⟩:=h;show#[B,H',I.unwish,q]
 | ret u=>obtain⟨v,B,H',I,r,q⟩:=h;show#[v,B,H',I.unwish,r,q]
def PSs.nox{st:List Stmt}(h:PSs X.nox st t):PSs X st t:=λA6 s G H BB I B=>
 aE (h A6 s G H BB (I.wish _) B) (λ_ _ q=>q.unwish) λ_ _ z=>False.elim z
end
section
variable {X:Cx}{st:Stmt}{zu:List Stmt}{t u:TS}{e:Expr}{te:TE}{pos:Pos}
def ztv:TS:=λBB G H=>BB.nx G H
def zv0 (t u:TS):TS:=λBB G H=>t { BB with nx:=u BB } G H
def zpX:PSs X [] ztv:=λ_ _ G H _ I h=>gu #[G,H,I,h]
def zmG (h1:PS X st t)(h2:PSs X zu u):PSs X (st::zu) (zv0 t u):=by
 intro A6 s G H BB I h;show fV (thn (h1 A6 s G H { BB with nx:=u BB } I h) λf F q=>?_)
 cases f with
 | next=>
  obtain⟨B,H',I',q⟩:=q;show h2 A6 F B H' BB I' q
 | ret v=>show q
 | brk=>show q
 | cont=>show q
def zpY (h1:PS X st t):PSs X [st] t:=by
 intro A6 s G H BB I h;show fV (thn (h1 A6 s G H BB I h) λf B q=>?_)
 cases f with
 | next=>show gu q
 | ret v=>show q
 | brk=>show q
 | cont=>show q
def Inv.quiet{A6:AB}{G:St}{H:Hp}(I:')'):interactive X.env=false:=by simp[interactive,I.ok.kind]
def zqE (te:TE):TS:=λBB G H=>te G H λ_ H1=>BB.nx G H1
def zkk (q:PE X e te)(hs:'ȁ':=by rfl):PS X (.Expr e pos) (zqE te):=by intro A6 s G H BB I h;show wpAny_Expr_any (thn (q A6 s G H _ I h) <| by rintro v F ⟨x,H1,I1,J,B⟩;show#[G,H1,I1,B]) I.quiet hs
def zud (te:TE):TS:=λBB G H=>te G H BB.rt
def znP (q:PE X e te):PS X (.Return (some e) pos) (zud te):=by intro A6 s G H BB I h;show wpAny_Return_some (thn (q A6 s G H _ I h) <| by rintro v J ⟨x,H1,I1,B,F⟩;show#[x,G,H1,I1,B,F])
def tIfS (c:TT)(t u:TS):TS:=λBB G H=>c G H λb H1=>if b=true then t BB G H1 else u BB G H1
def zvG(F:PT X c tc)(J:PSs X a t)(O:PSs X b u):PS X (.If c a b pos) (tIfS tc t u):=by
 intro A6 s G H BB I h;show wpAny_If (thn 'Į'  ?_);rintro d q ⟨H1,I1,B⟩
 cases d with
 | true=>show J A6 q G H1 BB I1 B
 | false=>show O A6 q G H1 BB I1 B
def ztu:TS:=λ_ _ _=>False
def zaF:PSs X A9 ztu:=λ_ _ _ _ _ _ h=>h.elim
end
abbrev TG:=V->St->Hp->'ľ'->Prop
abbrev TGs:=AT->St->Hp->'ľ'->Prop
def PG (X:Cx)(q:Expr)(t:TG):Prop:=
 ∀ (A6:AB) (s:AZ) (G:St) (H:Hp) (v:V) (u:Value) (Q:'Ø'),Inv X A6 G H s->ye v u->t v G H Q->
  Af X (assign q X.env u) (λ_ s'=>∃ B H',Inv X A6 B H' s'/\Q B H') X.xe s
def PGs (X:Cx)(ts:AO)(t:TGs):Prop:=
 ∀ (A6:AB) (s:AZ) (G:St) (H:Hp) (vs:AT) (us:AN) (Q:'Ø'),Inv X A6 G H s->yi vs us->t vs G H Q->
  Af X (assignInOrder ((assignEach ts X.env).map 'Ã') us) (λ_ s'=>∃ q H',Inv X A6 q H' s'/\Q q H') X.xe s
section
variable {X:Cx}{pos:Pos}
def zbD (i:Nat):TG:=λv G H Q=>Q (G.set i '¬') H
def zpN(q:'«')(hi:'_')(B:'æ')(hf:'Þ':=by fail"l"):PG X 'u' (zbD i):=by intro A6 s G H v u Q I r h;show wpAny_assign_Name (zd5 I q hi B r (λs' I'=>#[_,H,I',h]) hf)
def gNil:TGs:=λvs G H Q=>vs=[]/\Q G H
def zrz (t:TG)(u:TGs):TGs:=λvs G H Q=>∃v r,vs=v::r/\t v G H λq H'=>u r q H' Q
def zpO:PGs X [] gNil:=by intro A6 s G H vs us Q I r h;obtain⟨e,h⟩:=h;subst e;cases r;show assignInOrder_nil #[G,H,I,h]
def zmB(h1:PG X e t)(h2:PGs X es u)(hs:'Ǡ':=by rfl):PGs X '=' (zrz t u):=by
 intro A6 s G H vs us Q I r h;obtain⟨v,U,B,h⟩:=h;subst B
 cases r with
 | cons r F=>
  rw[hs];show assignInOrder_cons (thn (h1 A6 s G H _ _ _ I r h)  ?_);rintro _ J ⟨q,H1,I1,O⟩;show h2 A6 J q H1 _ _ Q I1 F O
def zuP (K:AH)(n:Nat)(t:TGs):TG:=λv G H Q=>∃a xs,v = .ref a/\SqT K H a xs/\xs.length=n/\t xs G H Q
def zsH {es:AO}{k:Nat}{t:TGs}{n:Nat}(J:'D')(h:PGs X es t)
  (O:'ô'.length=n:=by rfl) (q:'ô'.findIdx? '%'=none:=by rfl):PG X (.Tuple es k pos) (zuP X.K n t):=by
 intro A6 s G H v u Q I r B;obtain⟨a,xs,U,Y,Z,B⟩:=B;subst U;cases r;obtain⟨its,F,ht,hz⟩:=I.tuple Y;show assign_Tuple_tuple (I.ok.hd J) ht (by simp[O,<- Z,F.length]) q λh' hx=>?_;have I1:Inv X A6 G H '5':=I.kept (t':=s.toks) λb o e=>hx b o (aY (av e)) e;show h A6 _ G H xs _ Q I1 (by simpa using F) B
def zie (te:TE)(g:TG):TS:=λBB G H=>te G H λx H1=>g x G H1 BB.nx
def zsJ(B:PE X e te)(F:PG X tg g)(hs:'Ǹ':=by rfl)(J:'Ȑ':=by rfl)(h1:'ǭ':=by rfl):PS X (.Assign [tg] e pos) (zie te g):=by
 intro A6 s G H BB I h;show wpAny_Assign_stores (thn 'į' λv O ⟨x,H1,I1,U,Y⟩=>?_) hs J;rw[h1];show thn (F A6 O G H1 x v _ I1 U Y) λ_ Z q=>q
def zsL(q:'«')(hi:'_')(B:'æ')(F:PE X e te)(hs:'Ɨ':=by rfl)(hf:'Þ':=by fail"l") :
  PS X 'Ǆ' (zie te (zbD i)):=by
 intro A6 s G H BB I h;show wpAny_Assign_Name (thn 'Į' λv U ⟨y,H1,I1,J,O⟩=>?_) hs;show zd5 I1 q hi B J (λY I2=>#[_,H1,I2,O]) hf
end
structure It where
 go:Nat->Hp->Prop
 yld:Nat->Hp->V->Hp->Prop
 stop:Nat->Hp->Prop
def zfl (X:Cx)(A6:AB)(H:Hp)(b:Addr):Prop:=
 H b=none/\b≠X.env.locals/\b∉X.fs/\(b∈X.ex\/X.s₀.heap.objs.size<=b)/\(∀x c,X.env.cells.lookup x=some c->c≠b)/\∀p∈X.pn++A6,p.1≠b
def Inv.fpOk {X:Cx}{A6:AB}{G:St}{H H':Hp}{s:AZ}{b:Addr}(I:')')(B:s.heap.objs.size<=b)(F:H' b=none):zfl X A6 H' b:=by
 show#[F,eQ (aU I.lt B),I.nofs B,.inr (aw I.sz B),λx c e z=>?_,λp hp z=>?_];obtain⟨v,q⟩:=I.cell x c e;show absurd (aU q.lt (by rw[z];show B)) (cJ _);show absurd (aU (av (I.pin p hp).1) (by rw[z];show B)) (cJ _)
structure Turn (P:Aa)(w:Ab)(K:AH)(tg:Expr)(J:It)(fp:AY)(it:Addr)(tn:Nat->Heap->Prop):Prop where
 mem:it∈fp
 obj:∀i h,tn i h->∀b∈fp,∃o,h.get? b=some o/\∀v,o.data≠.cell v
 keep:∀i h h',tn i h->(∀b∈fp,∀o,h.get? b=some o->h'.get? b=some o)->tn i h'
 item:∀ (X:Cx),X.prog=P->X.w=w->X.K=K->X.calm=true->∀ (i:Nat) (A6:AB) (s:AZ) (G:St) (H:Hp) (E:AA),Inv X A6 G H s->(∀b∈fp,zfl X A6 H b)->tn i s.heap->J.go i H->
  wpAny (model P w) X.A (pyNext (.ref it)) (λr s1=>∃u,r=some u/\
   wpAny (model P w) X.A (letOwnedTupleGo tg (.ref it) u) (λ_ s2=>∃x H',Inv X A6 G H' s2/\ye x u/\J.yld i H x H'/\tn (i+1) s2.heap/\∀b∈fp,H' b=none) E s1) E s
 done:∀ (X:Cx),X.prog=P->X.w=w->X.K=K->X.calm=true->∀ (i:Nat) (A6:AB) (s:AZ) (G:St) (H:Hp) (E:AA),Inv X A6 G H s->(∀b∈fp,zfl X A6 H b)->tn i s.heap->J.stop i H->
  wpAny (model P w) X.A (pyNext (.ref it)) (λr s1=>r=none/\Inv X A6 G H s1) E s
 self:∀ (A:Ae) (i:Nat) (s:AZ) (Q:AA) (E:AA),tn i s.heap->Q (.ref it) s->wpAny (model P w) A (pyIter (.ref it)) Q E s
abbrev TI:=St->Hp->(It->Hp->Prop)->Prop
def PIE (X:Cx)(A6:AB)(G:St)(tg:Expr)(R:It->Hp->Prop)(q:Value)(B:AZ):Prop:=
 ∃ (it:Addr) (F:AY) (I:Nat->Heap->Prop) (J:It) (H':Hp),q = .ref it/\Inv X A6 G H' B/\Turn X.prog X.w X.K tg J F it I/\I 0 B.heap/\(∀b∈F,zfl X A6 H' b)/\R J H'
def PI (X:Cx)(tg iter:Expr)(wi:TI):Prop:=
 ∀ (A6:AB) (s:AZ) (G:St) (H:Hp) (R:It->Hp->Prop),Inv X A6 G H s->wi G H R->
  Af X 'ı' (λv q=>Af X (pyIter v) (PIE X A6 G tg R) X.xe q) X.xe s
def zlK(B:s.heap.get? it=some o)(F:o.cls = .type n)(I:o.data = .fields vs)(J:'ș'.contains n=false)(q:Q () s):wpAny M A (letOwnedTupleGo tg 'X' u) Q E s:=by
 unfold letOwnedTupleGo
 cases tg <;> first
  | show af q
  | (cases u <;> first
    | show af q
    | (show aa (wpAny_load B ?_)
       rw[F,I];change wpAny M A (if ('ș'.contains n&&vs[0]?==some (rawInt _))=true then _ else _) Q E s;rw[if_neg '!'];show af q))
def Itl (K:AH)(a:Addr):It:=
 #[λi H=>∃xs x,SqL K H a xs/\xs[i]?=some x,λi H x H'=>H'=H/\∀xs,SqL K H a xs->xs[i]?=some x,λi H=>∃xs,SqL K H a xs/\xs.length<=i]
def Itt (K:AH)(a:Addr):It:=
 #[λi H=>∃xs x,SqT K H a xs/\xs[i]?=some x,λi H x H'=>H'=H/\∀xs,SqT K H a xs->xs[i]?=some x,λi H=>∃xs,SqT K H a xs/\xs.length<=i]
def Itr (lo:Int)(n:Nat):It:=#[λi _=>i<n,λi H x H'=>H'=H/\x = .int (lo+i),λi _=>n<=i]
def zk3{P:Aa}{w:Ab}{K:AH}(a it:Addr):Turn P w K tg (Itl K a) [it] it (λi h=>h.IsListIter it a i) where
 mem:=by simp
 obj:=λi h st b q=>by
  have e:b=it:=by simpa using q
  subst e;obtain⟨o,e,c,d⟩:=st;right
 keep:=λi h h' st k=>st.at λo e=>k it '$' o e
 item:=by intro X J O U hc i A6 s G H E I hf st Y;subst J O U;obtain⟨xs,x,F,Z⟩:=Y;obtain⟨its,rv,p,hz⟩:=I.list F;obtain⟨u,hu,ru⟩:=rv.get Z;obtain⟨f0,f1,f2,f3,f4,f5⟩:=hf it '$';show wpAny_pyNext_list_item st p.isList (x:=u) (by simpa using hu) λh' B sb=>?_;have I1:Inv X A6 G H '5':=I.turned (t':=s.toks) (λb o q e=>(sb.2 b q).trans e) f0 f1 f3 f4 f5;obtain⟨o,e,c,d⟩:=id B;show#[u,A5,zlK (s:='5') e c d '#' #[x,H,I1,ru,#[A5,λys hy=>by rw[I.list_inj hy F];show Z],B,λb q=>(hf b q).1]]
 done:=by intro X J O U hc i A6 s G H E I hf st Y;subst J O U;obtain⟨xs,F,Z⟩:=Y;obtain⟨its,rv,p,hz⟩:=I.list F;obtain⟨f0,f1,f2,f3,f4,f5⟩:=hf it '$';have hl:=rv.length;show wpAny_pyNext_list_end (I.ok.hd hc) st p.isList '¶' λh' eb=>#[A5,I.turned (t':=s.toks) (λb o q e=>eb b o q e) f0 f1 f3 f4 f5]
 self:=λ_ _ _ _ _ st h=>wpAny_pyIter_listiter st h
def zh9{P:Aa}{w:Ab}{K:AH}(a it:Addr):Turn P w K tg (Itt K a) [it] it (λi h=>h.IsTupleIter it a i) where
 mem:=by simp
 obj:=λi h st b q=>by
  have e:b=it:=by simpa using q
  subst e;obtain⟨o,e,c,d⟩:=st;right
 keep:=λi h h' st k=>st.at λo e=>k it '$' o e
 item:=by intro X J O U hc i A6 s G H E I hf st Y;subst J O U;obtain⟨xs,x,F,Z⟩:=Y;obtain⟨its,rv,p,hz⟩:=I.tuple F;obtain⟨u,hu,ru⟩:=rv.get Z;obtain⟨f0,f1,f2,f3,f4,f5⟩:=hf it '$';show wpAny_pyNext_tuple_item st (show s.heap.IsTuple a its.toArray from p) (x:=u) (by simpa using hu) λh' B sb=>?_;have I1:Inv X A6 G H '5':=I.turned (t':=s.toks) (λb o q e=>(sb.2 b q).trans e) f0 f1 f3 f4 f5;obtain⟨o,e,c,d⟩:=id B;show#[u,A5,zlK (s:='5') e c d '#' #[x,H,I1,ru,#[A5,λys hy=>by rw[I.tuple_inj hy F];show Z],B,λb q=>(hf b q).1]]
 done:=by intro X J O U hc i A6 s G H E I hf st Y;subst J O U;obtain⟨xs,F,Z⟩:=Y;obtain⟨its,rv,p,hz⟩:=I.tuple F;obtain⟨f0,f1,f2,f3,f4,f5⟩:=hf it '$';have hl:=rv.length;show wpAny_pyNext_tuple_end (I.ok.hd hc) st (show s.heap.IsTuple a its.toArray from p) '¶' λh' eb=>#[A5,I.turned (t':=s.toks) (λb o q e=>eb b o q e) f0 f1 f3 f4 f5]
 self:=λ_ _ _ _ _ st h=>wpAny_pyIter_tupleiter st h
def zh8{P:Aa}{w:Ab}{K:AH}(it:Addr)(lo:Int)(n:Nat):Turn P w K tg (Itr lo n) [it] it (λi h=>IsRangeIter h it (lo+(i:Nat) * 1) ((n:Int) - (i:Nat)) 1) where
 mem:=by simp
 obj:=λi h st b q=>by right
 keep:=λi h h' st k=>k it '$' _ st
 item:=by intro X F J O U i A6 s G H E I hf st Y;subst F J O;obtain⟨Z,f1,f2,f3,f4,f5⟩:=hf it '$';have W:=Walks.range (prog:=X.prog) (w:=X.w) (I.ok.hd U) it lo 1 n;show W.item i s _ _ Y st λv h' tk hv B kk=>?_;obtain⟨t,rfl⟩:=hv;have I1:Inv X A6 G H 'ǌ':=I.turned (λb o q e=>kk b o (by simpa using q) e) Z f1 f3 f4 f5;show#[_,A5,zlK (s:='ǌ') (n := "range_iterator") B A5 A5 '#' #[.int (lo+i),H,I1,#[t,?_],#[A5,A5],B,λb q=>(hf b q).1]];rw[Int.mul_one]
 done:=by intro X F J O U i A6 s G H E I hf st Y;subst F J O;obtain⟨Z,f1,f2,f3,f4,f5⟩:=hf it '$';show wpAny_pyNext_range_end (I.ok.hd U) st (by have:n<=i:=Y;lia) λh' eb=>#[A5,I.turned (t':=s.toks) (λb o q e=>eb b o q e) Z f1 f3 f4 f5]
 self:=λ_ _ _ _ _ st h=>wpAny_pyIter_rangeiter st h
section
variable {X:Cx}{tg:Expr}
def zoP (K:AH)(tl:TE):TI:=λG H R=>tl G H λx H1=>∃a,x = .ref a/\(∃xs,SqL K H1 a xs)/\R (Itl K a) H1
def zuS (K:AH)(tl:TE):TI:=λG H R=>tl G H λx H1=>∃a,x = .ref a/\(∃xs,SqT K H1 a xs)/\R (Itt K a) H1
def zpQ(F:PE X l tl):PI X tg l (zoP X.K tl):=by
 intro A6 s G H R I h;show thn 'Į'  ?_;rintro v B ⟨x,H1,I1,J,O⟩;obtain⟨a,e,⟨xs,U⟩,q⟩:=O;subst e;cases J;obtain⟨its,Z,p,hz⟩:=I1.list U;show hZ p.isList ?_;show#['Ę',['Ę'],_,_,H1,A5,'ȑ',zk3 a _,#[_,']',A5,A5],λb Y=>?_,q];have e:b=B.heap.objs.size:=by simpa using Y
 subst e;show I1.fpOk '/' 'ī'
def zsI(F:PE X l tl):PI X tg l (zuS X.K tl):=by
 intro A6 s G H R I h;show thn 'Į'  ?_;rintro v B ⟨x,H1,I1,J,O⟩;obtain⟨a,e,⟨xs,U⟩,q⟩:=O;subst e;cases J;obtain⟨its,Z,p,hz⟩:=I1.tuple U;show dw (show B.heap.IsTuple a its.toArray from p) ?_;show#['Ę',['Ę'],_,_,H1,A5,'ȑ',zh9 a _,#[_,']',A5,A5],λb Y=>?_,q];have e:b=B.heap.objs.size:=by simpa using Y
 subst e;show I1.fpOk '/' 'ī'
def zmQ{A6:AB}{G:St}{H:Hp}{s:AZ}{R:It->Hp->Prop}{E:AA}{lo hi:Int}{t u v:Tok}(I:')')(h1:-(2 ^ 62)<=lo)(h2:lo<2 ^ 62)(B:-(2 ^ 62)<=hi)(F:hi<2 ^ 62)(q:R (Itr lo (hi - lo).toNat) H):Af X (pyIter '°') (PIE X A6 G tg R) E { s with heap:=s.heap.push 'Ł',toks:=tk }:=by
 show wpAny_pyIter_range (IsRange.new ..) (small_one h1 h2 B F) ?_;have I1:Inv X A6 G H { s with heap:=s.heap.push 'Ł',toks:=tk }:=I.kept λb o e=>ah _ e
 show#[(s.heap.push 'Ł').objs.size,[(s.heap.push 'Ł').objs.size],_,_,H,A5,
  I1.kept (t':=tk) λb o e=>ah _ e,zh8 _ lo (hi - lo).toNat,?_,λb J=>?_,q]
 ·have O:lo+((0:Nat):Int) * 1=lo:=by simp
  have U:(((hi - lo).toNat:Nat):Int) - ((0:Nat):Int)=Builtin.Range.rangeSize lo hi 1:=by rw[rangeSize_one];split <;> lia
  change IsRangeIter _ _ (lo+((0:Nat):Int) * 1) ((((hi - lo).toNat:Nat):Int) - ((0:Nat):Int)) 1;rw[O,U];show ar _ A5
 have e:b=(s.heap.push 'Ł').objs.size:=by simpa using J
 subst e;show I1.fpOk '/' 'ī'
def zrC (ta:TA):TI:=λG H R=>ta G H λvs H1=>∃j:Int,vs=[.int j]/\-(2 ^ 62)<=j/\j<2 ^ 62/\R (Itr 0 j.toNat) H1
def zkh(F:Gl X "range")(J:X.mg "range" = none)(O:PA X [a] ta)(hs:'ń':=by rfl):PI X tg 'Ȏ' (zrC ta):=by
 intro A6 s G H R I h;show Call_ (zc2 I F J boot_range (cZ (thn (O pos A6 s G H _ I h) λus s1 ⟨vs,H1,I1,U,B⟩=>?_) hs A5));obtain⟨j,e,B,Y,q⟩:=B;subst e
 cases U with
 | cons r Z=>
  cases Z;obtain⟨t,rfl⟩:=r;show call_range_1 (zmQ I1 '!' '!' B Y (by simpa using q))
def zvV (wi:TI)(g:TG)(tb:TS):TS:=λBB G H=>wi G H λJ H1=>∃W:Nat->Nat->St->Hp->Prop,(∃m,W 0 m G H1)/\∀i m G H,W i m G H->
 (J.stop i H/\BB.nx G H)\/(J.go i H/\∃N:St->Hp->Prop,(∀ q H',N q H'->∃F,F<m/\W '(' F q H')/\∀x H',J.yld i H x H'->g x G H' λB H2=>tb 'Ƽ' B H2)
def ze0 (q:AY)(h:Heap):AB:=q.filterMap λb=>(h.get? b).map λo=>(b,o)
def za7(B:b∈q)(e:h.get? b=some o):(b,o)∈ze0 q h:=dB.mpr #[b,B,by rw[e];rfl]
def zj8(hp:p∈ze0 B h):p.1∈B/\h.get? p.1=some p.2:=by
 obtain⟨b,F,e⟩:=dB.mp hp
 cases q:h.get? b with
 | none=>rw[q] at e;cases e
 | some o=>
  grind
def Inv.pinned {A6:AB}{G:St}{H:Hp}{s:AZ}{q:AY}(I:')')(hf:∀b∈q,zfl X A6 H b)(F:∀b∈q,∃o,s.heap.get? b=some o/\∀v,o.data≠.cell v):Inv X (A6++ze0 q s.heap) G H s:=
 I.pins_of λp hp=>(aC.mp hp).elim (λz=>I.pin p (a8 _ z)) λz=>by
  obtain⟨B,e⟩:=zj8 z;obtain⟨J,f1,f2,_⟩:=hf p.1 B;obtain⟨o,O,d⟩:=F p.1 B;right
def Inv.unpinned{A6 pl:AB}{G:St}{H:Hp}(I:Inv X (A6++pl) G H s):Inv X A6 G H s:=I.pins_of λp hp=>I.pin p (a8 _ (cC _ hp))
def zsK(hp:PassesOwn 'N' X.A X.env X.xe)(hc:'D')(hi:'Ļ')(hg:PG X tg g)(B:PSs X body tb)(hs:'w':=by intro _;rfl):PS X (.For tg iter body [] pos) (zvV wi g tb):=by
 intro A6 s G H BB I h;show wpAny_For (thn (hi A6 s G H _ I h) λv s1 h1=>thn h1 λa0 s2 h2=>?_) hs;obtain⟨it,fp,tn,J,H2,e,I2,T,al,f2,W,⟨m0,w0⟩,ac⟩:=h2;subst e;have F:∀ {H':Hp},(∀b∈fp,H' b=none)->∀b∈fp,zfl X A6 H' b:=λhn b B=>#[hn b B,(f2 b B).2];show codeAny_forLoop_any (λn s'=>∃i O H',Inv X A6 O H' s'/\tn i s'.heap/\(∀b∈fp,H' b=none)/\W i n O H') ?_ m0 #[0,G,H2,I2,al,λb B=>(f2 b B).1,w0];rintro n s3 ⟨i,U,H3,I3,ad,ag,w3⟩;rcases ac i n U H3 w3 with ⟨stop,qn⟩ | ⟨go,N,hN,step⟩
 ·show eU hp (thn (T.done X A5 A5 A5 hc i A6 s3 U H3 X.xe I3 (F ag) ad stop)  ?_);rintro r s4 ⟨hr,I4⟩;subst hr;show gu #[U,H3,I4,qn]
 ·show eU hp (thn (T.item X A5 A5 A5 hc i A6 s3 U H3 X.xe I3 (F ag) ad go)  ?_);rintro r s4 ⟨u,hr,h4⟩;subst hr;show eU hp (thn h4  ?_);rintro _ s5 ⟨x,H5,I5,r5,y5,ab,an⟩;have I5':=I5.pinned (F an) (T.obj _ _ ab);show eU hp (thn (hg _ s5 U H5 x u _ I5' r5 (step x H5 y5))  ?_);rintro _ s6 ⟨as,H6,I6,q6⟩;show eU hp (thn (B _ s6 as H6 _ I6 q6) λf s7 Z=>?_);have Y:∀ {q:St} {H7:Hp},Inv X (A6++ze0 fp s5.heap) q H7 s7->N q H7->∃m,m<n/\∃i O H',Inv X A6 O H' s7/\tn i s7.heap/\(∀b∈fp,H' b=none)/\W i m O H':=λ{q H7} I7 n7=>by obtain⟨m',hm,w7⟩:=hN q H7 n7;show#[m',hm,i+1,q,H7,I7.unpinned,T.keep _ _ _ ab λb B o e=>(I7.pin (b,o) (a8 _ (a8 _ (za7 B e)))).1,λb B=>?_,w7];obtain⟨o,e,d⟩:=T.obj _ _ ab b B;show (I7.pin (b,o) (a8 _ (a8 _ (za7 B e)))).2.1
  cases f with
  | next=>obtain⟨q,H7,I7,n7⟩:=Z;show Y I7 n7
  | cont=>obtain⟨q,H7,I7,n7⟩:=Z;show Y I7 n7
  | brk=>obtain⟨q,H7,I7,Z⟩:=Z;show#[q,H7,I7.unpinned,Z]
  | ret v=>obtain⟨x7,q,H7,I7,r7,Z⟩:=Z;show#[x7,q,H7,I7.unpinned,r7,Z]
end
def zlI {K:AH}{a:Addr}{xs:AT}{g:TG}{tb:TS}{BB:Ends}{G:St}{H:Hp}(Pv:Nat->St->Hp->Prop)(O:Pv 0 G H)(U:'Ǿ')
  (hs:'ȡ') (Y:∀ G H,Pv xs.length G H->BB.nx G H) :
  ∃W:Nat->Nat->St->Hp->Prop,'ę'/\∀i m G H,W i m G H->
   ((Itl K a).stop i H/\BB.nx G H)\/((Itl K a).go i H/\∃N:St->Hp->Prop,(∀ F H',N F H'->∃J,J<m/\W '(' J F H')/\∀x H',(Itl K a).yld i H x H'->g x G H' λB H2=>tb 'Ƽ' B H2):=by
 show#['Ɲ',#[xs.length,'4',aP _,O],?_];rintro i m G H ⟨rfl,hi,p⟩;have q:=U i G H hi p;by_cases I:i<xs.length;show .inr 'Ȫ';obtain⟨e,y⟩:=y;subst e;show hs i x G _ (y xs q) p;have e:i=xs.length:=by lia
 subst e;show .inl #[#[xs,q,aj _],Y G H p]
def zoH {K:AH}{a:Addr}{xs:AT}{g:TG}{tb:TS}{BB:Ends}{G:St}{H:Hp}(Pv:Nat->St->Hp->Prop)(O:Pv 0 G H)(U:∀i G H,i<=xs.length->Pv i G H->SqT K H a xs)
  (hs:'ȡ') (Y:∀ G H,Pv xs.length G H->BB.nx G H) :
  ∃W:Nat->Nat->St->Hp->Prop,'ę'/\∀i m G H,W i m G H->
   ((Itt K a).stop i H/\BB.nx G H)\/((Itt K a).go i H/\∃N:St->Hp->Prop,(∀ F H',N F H'->∃J,J<m/\W '(' J F H')/\∀x H',(Itt K a).yld i H x H'->g x G H' λB H2=>tb 'Ƽ' B H2):=by
 show#['Ɲ',#[xs.length,'4',aP _,O],?_];rintro i m G H ⟨rfl,hi,p⟩;have q:=U i G H hi p;by_cases I:i<xs.length;show .inr 'Ȫ';obtain⟨e,y⟩:=y;subst e;show hs i x G _ (y xs q) p;have e:i=xs.length:=by lia
 subst e;show .inl #[#[xs,q,aj _],Y G H p]
abbrev R2:=V->V->Hp->VK->Prop
def OpR (X:Cx)(f:Value->Value->Sem Value)(r:R2):Prop:=
 ∀ (A6:AB) (s:AZ) (G:St) (H:Hp) (x y:V) (v u:Value) (Q:VK),Inv X A6 G H s->ye x v->ye y u->r x y H Q->
  Af X (f v u) 'Â' X.xe s
def UnR (X:Cx)(f:Value->Sem Value)(r:V->Hp->VK->Prop):Prop:=
 ∀ (A6:AB) (s:AZ) (G:St) (H:Hp) (x:V) (v:Value) (Q:VK),Inv X A6 G H s->ye x v->r x H Q->
  Af X (f v) 'Â' X.xe s
def zec (X:Cx)(f:Value)(r:AT->Hp->VK->Prop):Prop:=
 ∀ (A6:AB) (s:AZ) (G:St) (H:Hp) (xs:AT) (us:AN) (Q:VK),Inv X A6 G H s->yi xs us->r xs H Q->
  Af X (call f us) 'Â' X.xe s
def tOp (r:R2)(ta tb:TE):TE:=λG H Q=>ta G H λx H1=>tb G H1 λy H2=>r x y H2 Q
def tUn (r:V->Hp->VK->Prop)(ta:TE):TE:=λG H Q=>ta G H λx H1=>r x H1 Q
def rI (C:Int->Int->Prop)(g:Int->Int->V):R2:=λx y H Q=>∃i j,x = .int i/\y = .int j/\C i j/\Q (g i j) H
def rI0 (g:Int->Int->V):R2:=λx y H Q=>∃i j,x = .int i/\y = .int j/\Q (g i j) H
def rU (g:Int->V):V->Hp->VK->Prop:=λx H Q=>∃i,x = .int i/\Q (g i) H
section
variable {X:Cx}{a b c:Expr}{ta tb tc:TE}{pos:Pos}
def zum(J:PE X a ta)(O:PE X b tb){A6:AB}{G:St}{H:Hp}{R:V->V->Hp->Prop}(I:')')(h:ta G H λx H1=>tb G H1 λy H2=>R x y H2){Q:AA}{f:Value->Value->Sem Value}(hf:∀v u F x y H2,Inv X A6 G H2 F->ye x v->ye y u->R x y H2->Af X (f v u) Q X.xe F) :
  Af X (eval a X.env) (λv q=>Af X (eval b X.env) (λu B=>Af X (f v u) Q X.xe B) X.xe q) X.xe s:=by
 show thn (J A6 s G H _ I h)  ?_;rintro v U ⟨x,H1,I1,Y,Z⟩;show thn (O A6 U G H1 _ I1 Z)  ?_;rintro u F ⟨y,H2,I2,r2,q2⟩;show hf v u F x y H2 I2 Y r2 q2
def zvD(B:OpR X (binaryOp op) r)(F:PE X a ta)(J:PE X b tb):PE X (.BinOp a op b pos) 'Ă':=by intro A6 s G H Q I h;show wpAny_BinOp (zum F J I h λv u O x y H2 I2 U Y q=>B A6 O G H2 x y v u Q I2 U Y q)
def zsB(q:UnR X (unaryOp op) r)(B:PE X a ta):PE X (.UnaryOp op a pos) (tUn r ta):=by intro A6 s G H Q I h;show UnaryOp_ (thn 'į' <| by rintro v F ⟨x,H1,I1,J,O⟩;show q A6 F G H1 x v Q I1 J O)
def opI{C:Int->Int->Prop}{g:Int->Int->Int}(B:∀ (i j:Int) (t u:Tok) (s:AZ) (Q:AA) (E:AA),C i j->Q (.int (g i j) s.toks) 'ŵ'->Af X (f (.int i t) (.int j u)) Q E s) :
  OpR X f (rI C λi j=>.int (g i j)):=by
 intro A6 s G H x y v u Q I F J h;obtain⟨i,j,rfl,rfl,O,q⟩:=h;obtain⟨t,rfl⟩:=F;obtain⟨t',rfl⟩:=J;show B i j t t' s _ _ O #[.int (g i j),H,I.tok _,';',q]
def opI0{g:Int->Int->Int}(B:∀ (i j:Int) (t u:Tok) (s:AZ) (Q:AA) (E:AA),Q (.int (g i j) s.toks) 'ŵ'->Af X (f (.int i t) (.int j u)) Q E s) :
  OpR X f (rI0 λi j=>.int (g i j)):=by
 intro A6 s G H x y v u Q I F J h;obtain⟨i,j,rfl,rfl,q⟩:=h;obtain⟨t,rfl⟩:=F;obtain⟨t',rfl⟩:=J;show B i j t t' s _ _ #[.int (g i j),H,I.tok _,';',q]
def zt7{g:Int->Int->Bool}(B:∀ (i j:Int) (t u:Tok) (s:AZ) (Q:AA) (E:AA),Q (.bool (g i j)) s->Af X (f (.int i t) (.int j u)) Q E s) :
  OpR X f (rI0 λi j=>.bl (g i j)):=by
 intro A6 s G H x y v u Q I F J h;obtain⟨i,j,rfl,rfl,q⟩:=h;obtain⟨t,rfl⟩:=F;obtain⟨t',rfl⟩:=J;show B i j t t' s _ _ #[.bl (g i j),H,I,A5,q]
def CDiv (i j:Int):Prop:=0<j/\j<1073741824
def CPow (i j:Int):Prop:=0<=j/\j<=1000000/\i.natAbs<2 ^ 64
def znl (i j:Int):Prop:=(-(2 ^ 64)<i/\i<2 ^ 64)\/(-(2 ^ 64)<j/\j<2 ^ 64)
def znl.ok {i j:Int}(h:znl i j):IntMulOk i j:=by
 rcases h with ⟨h1,h2⟩ | ⟨h1,h2⟩;show .of_left (intBits_le_64 h1 h2);show .of_right (intBits_le_64 h1 h2)
def zsg:OpR X (binaryOp .Add) (rI0 λi j=>.int (i+j)):=opI0 λ_ _ _ _ _ _ _ q=>add_int q
def zsm:OpR X (binaryOp .Sub) 'ǐ':=opI0 λ_ _ _ _ _ _ _ q=>sub_int q
def zsj:OpR X (binaryOp .Mult) 'Ǌ':=opI λ_ _ _ _ _ _ _ B q=>mul_int q B.ok
def zpB:OpR X (binaryOp .FloorDiv) (rI CDiv λi j=>.int (i / j)):=opI λi j _ _ _ _ _ B q=>by have h1:(0:Int)<j:=B.1;have h2:j<1073741824:=B.2;show floordiv_int '!' (by rw[Int.fdiv_eq_ediv_of_nonneg i '!'];show q) (.inl (PyProof.noPylong_small '!'))
def zsi:OpR X (binaryOp .Mod) 'ư':=opI λi j _ _ _ _ _ B q=>by have h1:(0:Int)<j:=B;show mod_int' '!' (by rw[Int.fmod_eq_emod_of_nonneg i '!'];show q)
def zsl:OpR X (binaryOp .Pow) (rI CPow λi j=>.int (i ^ j.toNat)):=opI λ_ _ _ _ _ _ _ B q=>pow_int_small B.1 B.2.1 B.2.2 q
def unI{g:Int->Int}(B:∀ (i:Int) (t:Tok) (s:AZ) (Q:AA) (E:AA),Q (.int (g i) s.toks) 'ŵ'->Af X (f (.int i t)) Q E s) :
  UnR X f (rU λi=>.int (g i)):=by
 intro A6 s G H x v Q I F h;obtain⟨i,rfl,q⟩:=h;obtain⟨t,rfl⟩:=F;show B i t s _ _ #[.int (g i),H,I.tok _,';',q]
def zn8:UnR X (unaryOp .USub) (rU λi=>.int (-i)):=unI λ_ _ _ _ _ q=>neg_int q
end
def zvR:V->V->Bool
 | .non,.non=>true | .non,.int _=>true | .int _,.non=>true | .non,.bl _=>true | .bl _,.non=>true | .non,.str _=>true | .str _,.non=>true
 | .int _,.int _=>true | .bl _,.bl _=>true | .str _,.str _=>true | .byt _,.byt _=>true
 | .int _,.str _=>true | .str _,.int _=>true | .bl _,.str _=>true | .str _,.bl _=>true
 | _,_=>false
def rEq:R2:=λx y H Q=>zvR x y=true/\Q (.bl (decide (x=y))) H
def rNe:R2:=λx y H Q=>zvR x y=true/\Q (.bl (!decide (x=y))) H
def ziP {i j:Int}:decide (V.int i=V.int j)=(i==j):=by rw[bR];simp
def znz:decide (V.bl i=V.bl j)=(i==j):=by rw[bR];simp
def ziQ:decide (V.str i=V.str j)=(i==j):=by rw[bR];simp
def ziO:decide (V.byt i=V.byt j)=(i.toList==j.toList):=by
 rw[bR];right
section
variable {X:Cx}{a b c:Expr}{ta tb tc:TE}{pos:Pos}
def zR{A6:AB}{G:St}{H:Hp}{Q:VK}(I:')')(q:Q (.bl k) H)(e:k=B):EP X A6 G Q (.bool B) s:=by subst e;show#[.bl k,H,I,A5,q]
def zvt:OpR X (compareOp .Eq) rEq:=by
 intro A6 s G H x y v u Q I F B h;obtain⟨hs,q⟩:=h
 cases x with
 | non=>
  cases F
  cases y with
  | non=>cases B;show PySem.EqNone.eq_none_none '`'
  | bl j=>cases B;show PySem.EqNone.eq_none_bool '`'
  | int j=>obtain⟨t',rfl⟩:=B;show PySem.EqNone.eq_none_int '`'
  | str j=>obtain⟨t',rfl⟩:=B;show PySem.EqNone.eq_none_str '`'
  | _=>show absurd 'Æ' ax
 | bl i=>
  cases F
  cases y with
  | non=>cases B;show PySem.EqNone.eq_bool_none '`'
  | bl j=>cases B;show eq_bool (zR I q znz)
  | str j=>obtain⟨t',rfl⟩:=B;show PySem.EqMixed.eq_bool_str '`'
  | _=>show absurd 'Æ' ax
 | int i=>
  obtain⟨t,rfl⟩:=F
  cases y with
  | non=>cases B;show PySem.EqNone.eq_int_none '`'
  | int j=>obtain⟨t',rfl⟩:=B;show eq_int (zR I q ziP)
  | str j=>obtain⟨t',rfl⟩:=B;show PySem.EqMixed.eq_int_str '`'
  | _=>show absurd 'Æ' ax
 | str i=>
  obtain⟨t,rfl⟩:=F
  cases y with
  | non=>cases B;show PySem.EqNone.eq_str_none '`'
  | bl j=>cases B;show PySem.EqMixed.eq_str_bool '`'
  | int j=>obtain⟨t',rfl⟩:=B;show PySem.EqMixed.eq_str_int '`'
  | str j=>obtain⟨t',rfl⟩:=B;show eq_str (zR I q ziQ)
  | _=>show absurd 'Æ' ax
 | byt i=>
  obtain⟨t,rfl⟩:=F
  cases y with
  | byt j=>obtain⟨t',rfl⟩:=B;show PySem.W.eq_bytes (zR I q ziO)
  | _=>show absurd 'Æ' ax
 | _=>cases y <;> show absurd 'Æ' ax
def zvy:OpR X (compareOp .NotEq) rNe:=by
 intro A6 s G H x y v u Q I F B h;obtain⟨hs,q⟩:=h
 cases x with
 | non=>
  cases F
  cases y with
  | non=>cases B;show PySem.EqNone.ne_none_none '`'
  | bl j=>cases B;show PySem.EqNone.ne_none_bool '`'
  | int j=>obtain⟨t',rfl⟩:=B;show PySem.EqNone.ne_none_int '`'
  | str j=>obtain⟨t',rfl⟩:=B;show PySem.EqNone.ne_none_str '`'
  | _=>show absurd 'Æ' ax
 | bl i=>
  cases F
  cases y with
  | non=>cases B;show PySem.EqNone.ne_bool_none '`'
  | bl j=>cases B;show ne_bool (zR I q (congrArg not znz))
  | str j=>obtain⟨t',rfl⟩:=B;show PySem.EqMixed.ne_bool_str '`'
  | _=>show absurd 'Æ' ax
 | int i=>
  obtain⟨t,rfl⟩:=F
  cases y with
  | non=>cases B;show PySem.EqNone.ne_int_none '`'
  | int j=>obtain⟨t',rfl⟩:=B;show ne_int (zR I q (congrArg not ziP))
  | str j=>obtain⟨t',rfl⟩:=B;show PySem.EqMixed.ne_int_str '`'
  | _=>show absurd 'Æ' ax
 | str i=>
  obtain⟨t,rfl⟩:=F
  cases y with
  | non=>cases B;show PySem.EqNone.ne_str_none '`'
  | bl j=>cases B;show PySem.EqMixed.ne_str_bool '`'
  | int j=>obtain⟨t',rfl⟩:=B;show PySem.EqMixed.ne_str_int '`'
  | str j=>obtain⟨t',rfl⟩:=B;show ne_str (zR I q (congrArg not ziQ))
  | _=>show absurd 'Æ' ax
 | byt i=>
  obtain⟨t,rfl⟩:=F
  cases y with
  | byt j=>obtain⟨t',rfl⟩:=B;show PySem.W.ne_bytes (zR I q (congrArg not ziO))
  | _=>show absurd 'Æ' ax
 | _=>cases y <;> show absurd 'Æ' ax
def zvx:OpR X (compareOp .Lt) 'ǁ':=zt7 λ_ _ _ _ _ _ _ q=>lt_int q
def zvw:OpR X (compareOp .LtE) 'ƾ':=zt7 λ_ _ _ _ _ _ _ q=>le_int q
def zvv:OpR X (compareOp .Gt) (rI0 λi j=>.bl (decide (j<i))):=zt7 λ_ _ _ _ _ _ _ q=>gt_int q
def zvu:OpR X (compareOp .GtE) (rI0 λi j=>.bl (decide (j<=i))):=zt7 λ_ _ _ _ _ _ _ q=>ge_int q
def zI(b:Expr)(h:op≠.In:=by ext)(h2:op≠.NotIn:=by ext):behindInMarks op b=false:=by
 have q:(op==CmpOp.In)=false:=by cases op <;> first | rfl | show absurd A5 h
 have B:(op==CmpOp.NotIn)=false:=by cases op <;> first | rfl | show absurd A5 h2
 cases b <;> simp[behindInMarks,q,B]
def zpE(B:OpR X 'Ƕ' r)(F:PE X a ta)(J:PE X b tb)(O:'č'):PE X 'Č' 'Ă':=by intro A6 s G H Q I h;show wpAny_Compare1 (zum F J I h λv u U x y H2 I2 Y Z q=>B A6 U G H2 x y v u Q I2 Y Z q) O
def zqH (t:TE):TT:=λG H Q=>t G H λx H'=>∃k,x = .bl k/\Q k H'
def zpZ(q:OpR X 'Ƕ' r)(B:PE X a ta)(F:PE X b tb)(J:'č'):PT X 'Č' (zqH 'Ă'):=by
 intro A6 s G H Q I h
 show wpAny_isTrue_Compare1 (thn 'į' λv O ⟨x,H1,I1,U,Y⟩=>thn (F A6 O G H1 _ I1 Y) λu Z ⟨y,H2,I2,r2,q2⟩=>
  thn (q A6 Z G H2 x y v u _ I2 U r2 q2) λc s3 ⟨z,H3,I3,r3,k,e,q3⟩=>?_) J
 subst e;cases r3;show cU #[H3,I3,q3]
def zkU (r q:R2)(ta tb tc:TE):TE:=λG H Q=>ta G H λx H1=>tb G H1 λy H2=>r x y H2 λz H3=>∃k,z = .bl k/\
 (if k=true then tc G H3 λw' H4=>q y w' H4 Q else Q (.bl false) H3)
def zmw(U:OpR X 'Ƕ' r)(B:OpR X (compareOp q) F)(Y:PE X a ta)(Z:PE X b tb)(hc:PE X c tc)(hm:lastMarks [op,q] [b,c]=false:=by with_unfolding_all rfl):PE X (.Compare a [op,q] [b,c] pos) (zkU r F ta tb tc):=by
 intro A6 s G H Q I h
 show Compare_chain (thn (Y A6 s G H _ I h) λv s1 ⟨x,H1,I1,r1,q1⟩=>chain_link (thn (Z A6 s1 G H1 _ I1 q1) λu s2 ⟨y,H2,I2,J,q2⟩=>
  thn (U A6 s2 G H2 x y v u _ I2 r1 J q2) λd s3 ⟨z,H3,I3,r3,k,e,O⟩=>?_)) hm
 subst e;cases r3;show cU ?_
 cases k with
 | false=>show ite_ff #[.bl false,H3,I3,A5,O]
 | true=>show ite_tt (chain_last (thn (hc A6 s3 G H3 _ I3 O) <| by rintro w' s4 ⟨z',H4,I4,r4,q4⟩;show B A6 s4 G H4 y z' u w' Q I4 J r4 q4))
def zjM:(sizeLine:Nat)<2 ^ 63:=by rw[cH];decide
def zea(r:yi [x] us):∃u,us=[u]/\ye x u:=by
 cases r with
 | cons q B=>cases B;show#[_,A5,q]
def zk9(r:yi [x,y] us):∃u w',us=[u,w']/\ye x u/\ye y w':=by
 cases r with
 | cons q B=>
  cases B with
  | cons F I=>cases I;show#[_,_,A5,q,F]
def zlo:zec X (.builtin "abs") (λxs H Q=>∃i,xs=[.int i]/\Q (.int (if i<0 then -i else i)) H):=by intro A6 s G H xs us Q I r h;obtain⟨i,rfl,q⟩:=h;obtain⟨u,rfl,t,rfl⟩:=zea r;show call_abs_int λu tk=>#[.int (if i<0 then -i else i),H,I.tok _,';',q]
def ztP (K:AH)(x:V)(H:Hp)(n:Nat):Prop:=
 match x with
 | .str y=>y.length<=sizeLine/\n=y.length
 | .byt y=>y.size<=sizeLine/\n=y.size
 | .ref p=>(∃xs,SqL K H p xs/\n=xs.length)\/∃xs,SqT K H p xs/\n=xs.length
 | _=>False
def zlq:zec X (.builtin "len") (λxs H Q=>∃x n,xs=[x]/\ztP X.K x H n/\Q (.int n) H):=by
 intro A6 s G H xs us Q I r h;obtain⟨x,n,rfl,e,q⟩:=h;obtain⟨u,rfl,rx⟩:=zea r;have hl:=zjM;have hs:sizeLine=16777216:=cH
 cases x with
 | str y=>
  obtain⟨t,rfl⟩:=rx;obtain⟨hy,e'⟩:y.length<=sizeLine/\n=y.length:=e;subst e';show len_str '!' #[.int _,H,I.tok _,';',q]
 | byt y=>
  obtain⟨t,rfl⟩:=rx;obtain⟨hy,e'⟩:y.size<=sizeLine/\n=y.size:=e;subst e';show PySem.W.len_bytes '!' #[.int _,H,I.tok _,';',q]
 | ref p=>
  cases rx;have e':(∃xs,SqL X.K H p xs/\n=xs.length)\/∃xs,SqT X.K H p xs/\n=xs.length:=e;rcases e' with ⟨xs,hx,e'⟩ | ⟨xs,hx,e'⟩;subst e';obtain⟨its,r',pl,hz⟩:=I.list hx;have hlen:=r'.length;show Calls.call_len_list pl.isList (by simp only[aV];lia) #[.int xs.length,H,I.tok _,#[_,by simp only[aV];rw[hlen]],q];subst e';obtain⟨its,r',pl,hz⟩:=I.tuple hx;have hlen:=r'.length;show len_tuple pl (by simp only[aV];lia) #[.int xs.length,H,I.tok _,#[_,by simp only[aV];rw[hlen]],q]
 | _=>show (show False from e).elim
end
structure ObjM (h:Heap)(x dx C:Addr)(mA:AI):Prop where
 obj:h.get? x=some (PySem.W.instObj C dx)
 ns:h.Ns1 dx mA
 ne:dx≠x
def zjQ {h:Heap}{dx:Addr}{mA:AI}(n:h.Ns1 dx mA):∃F,h.get? dx=some F/\∀name,PySem.W.lookIn name F=some (mA name):=by
 obtain⟨o,es,ep,I,J,O,_,U⟩:=n;show#[o,I,λname=>?_];have e:=U name;unfold nsFind findBy at e;rw[<- Array.find?_toList] at e;unfold PySem.W.lookIn;rw[J];dsimp only;split;right
 ·rename_i q;rw[q] at e
  have a:es.toList.any (·.refKey)=false:=by rw[List.any_eq_false];intro y Y;obtain⟨z,t,B⟩:=O y (bZ.mp Y);simp[DictEntry.refKey,B]
  grind
def ObjM.look(I:ObjM h x dx C mA):∃q,PySem.W.InstAt h x (PySem.W.instObj C dx) C (some q)/\∀name,PySem.W.lookIn name q=some (mA name):=
 let ⟨q,ho,hl⟩:=zjQ I.ns
 #[q,#[I.obj,A5,A5,ho],hl]
section
variable {prog:Aa}{w:Ab}{A:Ae}{E:AA}{s:AZ}{K:AH}{x dx C f:Addr}{mA:AI}{name:Str}{v:Value}
end
def zib.some_of(r:zib '¬' o):∃u,o=some u/\ye v u:=by
 cases o with
 | none=>show (show False from r).elim
 | some u=>show#[u,A5,r]
section
variable {P:Aa}{w:Ab}{H H':Hp}{h h':Heap}{a C dx:Addr}{fs fs':List (Str×V)}
def zoR (B:'»')(e:H a=some (.ins C dx fs)):∃mA,ObjM h a dx C mA/\(∀f,zib (fs.lookup f) (mA f))/\PySem.Within mA (fs.map '%')/\fs.length<=1000/\H dx=some (.own a):=by obtain⟨d,z,F,ob,mA,n,r,q⟩:=(show zJ P w H h a (.ins C dx fs) from B a _ e);show#[mA,#[ob,n,F],r,q,z,d]
end
structure Cls (K:AH)(C:Addr):Prop where
 pg:PySem.W.plainGet K C Str.empty=true
 hd:PySem.W.hasDictIn K C=true
 po:PySem.W.plainOver K C=true
 sa:PySem.W.findIn K (.ref C) "__setattr__" = some (some (.builtin "object.__setattr__"))
def Cls.get {K:AH}{C:Addr}(c:Cls K C)(f:Str):PySem.W.plainGet K C f=true:=c.pg
section
variable {X:Cx}{A6:AB}{G:St}{H:Hp}{s:AZ}{a C dx:Addr}{fs:List (Str×V)}{f:Str}{v:V}{A:Ae}{E:AA}
variable {o e value:Expr}{pos pos' tpos:Pos}{ta tv:TE}
variable {Q:AA}{c:Value}{b:Bool}
inductive TyOf (K:AH) (H:Hp):V->Value->Prop where
 | non:TyOf K H .non (.type "NoneType")
 | bl (x:Bool):TyOf K H (.bl x) (.type "bool")
 | int (i:Int):TyOf K H (.int i) (.type "int")
 | str (x:Str):TyOf K H (.str x) (.type "str")
 | flt (x:UInt64):TyOf K H (.flt x) (.type "float")
 | lst {a:Addr} {xs:AT} (e:H a=some (.lst xs)):TyOf K H (.ref a) (.type "list")
 | frz {a:Addr} {o:Obj} {xs:AT} (e:H a=some (.frz o (.lst xs))):TyOf K H (.ref a) (.type "list")
 | tup {a:Addr} {xs:AT} (e:H a=some (.tup xs)):TyOf K H (.ref a) (.type "tuple")
 | dK {a:Addr} {A7:List (Key×V)} (e:H a=some (.dK A7)):TyOf K H (.ref a) (.type "dict")
 | dT {a:Addr} {A7:List (List Key×V)} (e:H a=some (.dT A7)):TyOf K H (.ref a) (.type "dict")
 | ins {a C dx:Addr} {fs:List (Str×V)} (e:H a=some (.ins C dx fs)) (cl:Cls K C) (ha:PySem.W.findIn K (.ref C) "__class__" = some (some (.builtin "object.__class__")))
   (hn:PySem.W.specialIn K (.builtin "object.__class__") "__get__" = some (some (.builtin "getset_descriptor.__get__"))) (htk:PySem.W.takesIn K (.builtin "object.__class__")=some true)
   (hm:PySem.W.mroIn K C (.type "object")=some true):TyOf K H (.ref a) (.ref C)
def zjm(I:')')(B:ye x u)(ty:TyOf X.K H x t)(e:PySem.W.kitOne X.K t c=some b)(h:∀tk,Q (.bool b) { s with toks:=tk }) :
  wpAny 'N' A (call 'ŏ' [u,c]) Q E s:=by
 cases ty with
 | non=>cases (show u=Value.none from B);show bS PySem.W.kitx_none I.kIn True.intro e 'À' h
 | bl y=>cases (show u=Value.bool y from B);show bS PySem.W.kitx_bool I.kIn True.intro e 'À' h
 | int i=>obtain⟨t,q⟩:=(show ∃t,u=Value.int i t from B);cases q;show bS PySem.W.kitx_int I.kIn True.intro e 'À' h
 | str y=>obtain⟨t,q⟩:=(show ∃t,u=Value.str y t from B);cases q;show bS PySem.W.kitx_str I.kIn True.intro e 'À' h
 | flt y=>obtain⟨t,q⟩:=(show ∃t,u=Value.float y t from B);cases q;show bS PySem.W.kitx_float I.kIn True.intro e 'À' h
 | @lst a xs F=>
  cases 'Ô';obtain⟨_,_,n,_,h1⟩:=(show zJ X.prog X.w H s.heap a '+' from I.hok a _ F);show bS fH I.kIn #[_,h1,A5] e 'À' h
 | @frz a ob xs F=>
  cases 'Ô';obtain⟨_,_,_,n,_,h1⟩:=(show zJ X.prog X.w H s.heap a (.frz ob '+') from I.hok a _ F);show bS fH I.kIn #[_,h1,A5] e 'À' h
 | @tup a xs F=>
  cases 'Ô';obtain⟨_,_,_,p⟩:=(show zJ X.prog X.w H s.heap a 'R' from I.hok a _ F);obtain⟨o,h1,h2,_⟩:=p;show bS PySem.W.kitx_tuple I.kIn #[o,h1,h2] e 'À' h
 | @dK a A7 F=>
  cases 'Ô';obtain⟨_,_,vs,_,p⟩:=(show zJ X.prog X.w H s.heap a (.dK A7) from I.hok a _ F);obtain⟨o,es,ep,h1,h2,_⟩:=p;show bS fJ I.kIn #[o,h1,h2.1] e 'À' h
 | @dT a A7 F=>
  cases 'Ô';obtain⟨_,_,xs,_,o,es,ep,h1,h2,_⟩:=(show zJ X.prog X.w H s.heap a (.dT A7) from I.hok a _ F);show bS fJ I.kIn #[o,h1,h2.1] e 'À' h
 | @ins a C dx fs F cl Y Z U hm=>
  cases 'Ô';obtain⟨mA,O,_⟩:=zoR I.hok F;obtain⟨od,J,_⟩:=O.look;show bS (PySem.W.kitx_own (cl.get _) cl.hd Y Z U hm) I.kIn J e 'À' h
end
structure Room (k:Nat)(A:Ae):Prop where
 hd:A.handled=none
 dp:A.depth+3 * k+5<recursionLimit
 un:A.units+16 * k+200<cLine
 gd:A.guards=some []:=by rfl
def Room.mono {j k:Nat}{A:Ae}(r:Room k A)(h:j<=k):Room j A:=#[r.hd,by have:=r.dp;lia,by have:=r.un;lia,r.gd]
def Room.deeper(r:Room (k+1) A)(env:Env):Room k (A.deeper env):=
 #[r.hd,by have:=r.dp;change A.depth+1+3 * k+5<_;lia,by have:=r.un;change A.units+3+16 * k+200<_;lia,r.gd]
def Room.depth(r:Room k A):A.depth<recursionLimit:=by have:=r.dp;lia
def Room.units(r:Room k A):A.units+64<cLine:=by have:=r.un;lia
def zqF:TA:=λ_ H Q=>Q [] H
def zfd (ta:TE)(q:TA):TA:=λG H Q=>ta G H λx H1=>q G H1 λxs H2=>Q (x::xs) H2
section
variable {X:Cx}{e:Expr}{es:AO}{te:TE}{t:TA}{pos:Pos}
def zsq:PA X [] zqF:=λ_ _ _ _ H Q I h=>fK #[[],H,I,.nil,h]
def zpC (q:PE X e te)(B:PA X es t)(hs:'g':=by rfl):PA X '=' (zfd te t):=by intro pos A6 s G H Q I h;rw[hs];change wpAny _ _ (spliced ('à'::backTo pos 'ř')) _ _ s;show gM (thn (q A6 s G H _ I h)  ?_);rintro u F ⟨x,H1,I1,J,O⟩;show thn (B pos A6 F G H1 _ I1 O) <| by rintro us Z ⟨xs,H2,I2,U,Y⟩;show#[x::xs,H2,I2,.cons J U,Y]
def tTup (t:TA):TE:=λG H Q=>t G H λxs H1=>xs.length<=sizeLine/\∀p,H1 p=none->Q 'p' (upd H1 p 'R')
def zsA {x1}(h:PA X es t):PE X (.Tuple es x1 pos) (tTup t):=by intro A6 s G H Q I F;show wpAny_Tuple_spliced (thn (h pos A6 s G H _ I F) λus B ⟨xs,H1,I1,r,z,q⟩=>#[by rw[<- r.length];show z,?_]);have hf:H1 B.heap.objs.size=none:=I1.hok.fresh '/';show#['Ɓ',upd H1 B.heap.objs.size 'R','ǻ',A5,q _ hf];show#[z,us,r,#[_,']',A5,';',A5]]
end
abbrev Sp:=AT->Hp->VK->XK->Prop
abbrev CXT:=List Env->Hp->AZ->XK->AA
structure Env0 (P:Aa)(w:Ab)(K:AH)(mg:AI)(base:Heap)(A:Ae)(outer:List Env)(s:AZ)(H:Hp):Prop where
 frames:A.frames=some outer
 mod:Mod K mg base
 bs:∀b o,base.get? b=some o->s.heap.get? b=some o/\H b=none
 bsz:base.objs.size<=s.heap.objs.size
 funs:s.heap.FunFrames base outer
 frf:∀b∈frs outer,H b=none
 hok:HOk P w H s.heap
 bare:AllBare s.gens
def CE (outer:'[')(P:Aa)(w:Ab)(H:Hp)(s:AZ)(Q:VK)(u:Value)(s':AZ):Prop:=
 ∃v H',s'.os=s.os/\AllBare s'.gens/\Un (frs outer) [] H H' s.heap s'.heap/\HOk P w H' s'.heap/\ye v u/\Q v H'
def CR (CX:CXT)(outer:'[')(P:Aa)(w:Ab)(H:Hp)(s:AZ)(Q:VK)(E:XK)(r:Result)(s':AZ):Prop:=
 match r with
 | .ok (.ret u)=>CE outer P w H s Q u s'
 | .ok _=>False
 | .error e=>CX outer H s E e s'
structure FnOk (P:Aa)(w:Ab)(K:AH)(mg:AI)(base:Heap)(CX:CXT)(k:Nat)(f:Addr)(fd:Ac)(ps:AM)(sp:Sp):Prop where
 len:∀vs H Q E,sp vs H Q E->vs.length=ps.length
 run:∀ (A:Ae) (outer:List Env) (s:AZ) (H:Hp) (args:Args) (us:AN) (vs:AT) (Q:VK) (E:XK),Room k A->Env0 P w K mg base A outer s H->BindsTo s fd args (ps.zip us)->yi vs us->sp vs H Q E->
  codeAny (model P w) A (.call (.ref f) args) (CR CX outer P w H s Q E) s
def FnOk.mono{P:Aa}{w:Ab}{K:AH}{mg:AI}{base:Heap}{CX:CXT}{f:Addr}{fd:Ac}{ps:AM}(F:FnOk P w K mg base CX j f fd ps sp)(h:j<=k) :
  FnOk P w K mg base CX k f fd ps sp:=#[F.len,λA outer s H args us vs Q E q=>F.run A outer s H args us vs Q E (q.mono h)]
def FnOk.imp{P:Aa}{w:Ab}{K:AH}{mg:AI}{base:Heap}{CX:CXT}{f:Addr}{fd:Ac}{ps:AM}{sp B:Sp}(F:FnOk P w K mg base CX k f fd ps sp)(h:∀vs H Q E,B vs H Q E->sp vs H Q E):FnOk P w K mg base CX k f fd ps B:=
 #[λvs H Q E q=>F.len vs H Q E (h _ _ _ _ q),λA outer s H args us vs Q E I J O U hs=>F.run A outer s H args us vs Q E I J O U (h _ _ _ _ hs)]
section
variable {X:Cx}{A6:AB}{G:St}{H:Hp}{s s':AZ}
def Inv.env0 (I:')'):Env0 X.prog X.w X.K X.mg X.base X.A X.stack s H:=
 #[I.ok.frames,I.ok.mod,I.bs,aw I.ok.bsz I.sz,I.stack,I.stkFree,I.hok,I.bare]
def Inv.after(I:')')(h:CE X.stack X.prog X.w H s Q u s'):EP X A6 G Q u s':=by obtain⟨v,H',O,B,U,F,r,q⟩:=h;obtain⟨Y,g,d,t,J⟩:=s';obtain rfl:J=s.os:=O;show#[v,H',I.call (h':=Y) (g':=g) (d':=d) (t':=t) (ch:=[]) U F B (λb z=>absurd z '$'),r,q]
end
def zgn (sp:Sp)(dvs:AT)(E:XK)(t:TA):TE:=λG H Q=>t G H λvs H1=>sp (vs++dvs) H1 Q E
def zcz (K:AH)(fd:Ac)(ps:AM)(ds:AN):Prop:=
 ∀ (s:AZ) (us:AN),K.In s.heap->(us++ds).length=ps.length->BindsTo s fd #[us,[]] (ps.zip (us++ds))
def zcz.all {K:AH}{fd:Ac}{ps:AM}(h:∀us:AN,us.length=ps.length->bindArgs fd #[us,[]]=pure (ps.zip us)):zcz K fd ps []:=λs us _ q=>by rw[bT] at q ⊢;show .of_eq (h us q)
def zgu (CX:CXT)(X:Cx)(E:XK):Prop:=∀ (A6:AB) (G:St) (H:Hp) (s:AZ) (e:Value) (s':AZ),Inv X A6 G H s->CX X.stack H s E e s'->X.xe e s'
section
variable {X:Cx}{CX:CXT}{k:Nat}{f C:Addr}{fd:Ac}{ps:AM}{sp:Sp}{dvs:AT}{ds:AN}{E:XK}{x m:Str}{p pos apos:Pos}{e o:Expr}{es:AO}{ta:TE}{t:TA}
def ztm{A6:AB}{G:St}{H:Hp}{s:AZ}{Q:VK}{vs:AT}(F:FnOk X.prog X.w X.K X.mg X.base CX k f fd ps sp)(J:Room k X.A)(O:zcz X.K fd ps ds)(U:yi dvs ds)(Y:zgu CX X E)(I:')')(r:yi vs us)(h:sp (vs++dvs) H Q E):Af X (call '½' us) 'Â' X.xe s:=by
 have B:yi (vs++dvs) (us++ds):=r.append U;have Z:(us++ds).length=ps.length:=by rw[<- B.length];show F.len _ _ _ _ h
 show wpAny_call (dW (F.run X.A X.stack s H #[us,[]] (us++ds) (vs++dvs) Q E J I.env0 (O s us I.kIn Z) B h) λr s' q=>?_)
 cases r with
 | error e=>show Y A6 G H s e s' I q
 | ok fl=>
  cases fl with
  | ret u=>show I.after q
  | next=>show False.elim q
  | brk=>show False.elim q
  | cont=>show False.elim q
def zcd (F:FnOk X.prog X.w X.K X.mg X.base CX k f fd ps sp)(O:Room k X.A)(U:Gl X x)(Y:X.mg x=some '½')(Z:PySem.W.keepIn X.K '½'=true)(hb:zcz X.K fd ps ds)(hd:yi dvs ds)(hx:zgu CX X E)
  (ha:PA X '=' t) (B:Ah x:=by ext) (he:'g':=by rfl) (J:'¯':=by rfl) :
  PE X '¢' (zgn sp dvs E t):=by
 intro A6 s G H Q I h;show dS (zdz I U Y ?_ B);show PySem.W.callWith_K (h₀:=X.base) I.ok.mod.kin Z (thn (ha pos A6 s G H _ I h) λus s1 ⟨vs,H1,I1,r,q⟩=>#[I1.kIn,?_]) he J;show ztm F O hb hd hx I1 r q
variable {ks:AM}{kpos:Pos}{kws:List Keyword}{te:TE}{tk:TA}{nm:Option Str}
variable {g:AN->AN->AN}{gV:AT->AT->AT}
end
structure FnScope (N P:AM)(sc:Scope):Prop where
 kind:sc.kind = .function
 co:sc.isCoroutine=false
 gen:sc.isGenerator=false
 nd:N.Nodup
 pre:N.take P.length=P
 par:∀x∈P,sc.names.lookup x=some .local\/sc.names.lookup x=some .cell
 nofree:∀y∈sc.names,y.2≠.free
theorem zel {B:Str->Option NameKind}{x:Str}:∀ {q:List (Str×Value)} {m:AI},(∀v,(x,v)∉q)->bindL B q m x=m x
 | [],_,_=>rfl
 | (n,v)::r,m,h=>by
  unfold bindL;rw[zel λw F=>h w (ak _ F)];split
  all_goals grind
theorem zej {B:Str->Option NameKind}{x:Str}:∀ {q:List (Str×Value)} {m:AI},(∀v,(x,v)∉q)->bindC B q m x=m x
 | [],_,_=>rfl
 | (n,v)::r,m,h=>by
  unfold bindC;rw[zej λw F=>h w (ak _ F)];split
  all_goals grind
theorem zek {q:Str->Option NameKind}{x:Str}{v:Value}:∀ {P:AM} {vs:AN} {i:Nat} {m:AI},P.Nodup->P[i]?=some x->vs[i]?=some v->q x=some .local->
  bindL q (P.zip vs) m x=some v
 | [],_,_,_,_,h,_,_=>by simp at h
 | _::_,[],_,_,_,_,h,_=>by simp at h
 | p::P,w::vs,0,m,B,h1,h2,F=>by simp at h1 h2;subst h1;subst h2;change bindL q ((p,w)::P.zip vs) m p=_;unfold bindL;rw[zel λv I=>(dG.mp B).1 (gy I).1,if_pos F];simp
 | p::P,w::vs,i+1,m,B,h1,h2,F=>by change bindL q ((p,w)::P.zip vs) m x=_;unfold bindL;show zek (i:=i) (dG.mp B).2 (by simpa using h1) (by simpa using h2) F
theorem zei {q:Str->Option NameKind}{x:Str}{v:Value}:∀ {P:AM} {vs:AN} {i:Nat} {m:AI},P.Nodup->P[i]?=some x->vs[i]?=some v->q x≠some .local->
  bindC q (P.zip vs) m x=some v
 | [],_,_,_,_,h,_,_=>by simp at h
 | _::_,[],_,_,_,_,h,_=>by simp at h
 | p::P,w::vs,0,m,B,h1,h2,F=>by simp at h1 h2;subst h1;subst h2;change bindC q ((p,w)::P.zip vs) m p=_;unfold bindC;rw[zej λv I=>(dG.mp B).1 (gy I).1,if_neg F];simp
 | p::P,w::vs,i+1,m,B,h1,h2,F=>by change bindC q ((p,w)::P.zip vs) m x=_;unfold bindC;show zei (i:=i) (dG.mp B).2 (by simpa using h1) (by simpa using h2) F
def yT (N:AM)(vs:AT):St:=vs.map some++List.replicate (N.length - vs.length) none
def zbC (CX:CXT)(P:Aa)(w:Ab)(K:AH)(mg:AI)(base:Heap)(N:AM)(qual:Str)(scope:Scope)(f:Addr)(B:Value)(A:Ae)(outer:'[')(s:AZ)(H:Hp)(E:XK):Cx where
 prog:=P
 w:=w
 K:=K
 mg:=mg
 base:=base
 A:=A.deeper 'Ŧ'
 N:=N
 s₀:=s
 H₀:=H
 env:=envOfC qual scope s.heap.objs.size f B
 outer:=outer
 stack:=envOfC qual scope s.heap.objs.size f B::outer
 ex:=[]
 calm:=true
 fn:=λ_=>true
 pn:=[]
 xe:=λe s'=>wpAny 'Ò' (A.deeper 'Ŧ') (leaving 'Ŧ' e) (λ_ q=>CX outer H s E e q) (λF q=>CX outer H s E F q) s'
def zgD{B:Scope}(h:B.names.lookup x=some .cell):∃c,(cellsFrom n B.names []).lookup x=some c:=by have q:=fE B.names n [] (.inl h);show Option.isSome_iff_exists.mp q
def zeB{CX:CXT}{P:Aa}{w:Ab}{K:AH}{mg:AI}{base:Heap}{N ps:AM}{qual:Str}{scope:Scope}{f:Addr}{O:Value}{A:Ae}{outer:List Env}{s U:AZ}{H:Hp}{E:XK}{vs:AT}(S:FnScope N ps scope)(hd:'ë')(B:Env0 P w K mg base A outer s H)(hl:vs.length=ps.length)(r:yi vs us)(x:InCallC s s.heap.objs.size (bindL (envOfC qual scope s.heap.objs.size f O).kindOf (ps.zip us) λ_=>none) (cellsFrom 'ø' scope.names []) (bindC (envOfC qual scope s.heap.objs.size f O).kindOf (ps.zip us) λ_=>none) U) :
  Inv (zbC CX P w K mg base N qual scope f O A outer s H E) [] (yT N vs) H U:=by
 have ab:ps.length<=N.length:=by have:=congrArg List.length S.pre;rw[bi] at this;lia
 obtain⟨h1,tk,rfl,Y⟩:=x.done;have F:∀b:Addr,b∉(zbC CX P w K mg base N qual scope f O A outer s H E).ex:=λb z=>absurd (show b∈([]:AY) from z) '$'
 show#[#[B.mod,S.kind,A5,A5,aj _,λy z c h1 h2=>?_,λy I=>?_,λy c _ h=>?_,λ_=>hd,Around.frames_deeper B.frames,.inr #[A5,A5],λb z=>absurd z (F b),B.bs,B.bsz,λb _ _=>F b,λb z=>absurd z (F b),B.funs,B.frf],
  rfl,B.bare,Un.kept Y,#[_,x.toInCall.ns,λi y v h1 h2 h3=>?_],λy c h=>#[_,x.cell y c h],B.hok.fresh '/',λy c h=>?_,λp hp=>absurd (show p∈([]:AB) from hp) '$',B.hok.kept Y,?_]
 show name_of_addr x.apart (c7 h1) (c7 h2);have I:scope.names.lookup y=some .cell\/scope.names.lookup y=some .free:=I;rcases I with I | I;show zgD I;show absurd A5 (S.nofree _ (c7 I));show dq (x.above y c (c7 h))
 have hi:i<vs.length:=by
  unfold yT at h2;by_cases hi:i<vs.length;show hi;rw[bp (by simpa using hi)] at h2;rw[List.getElem?_replicate] at h2;right
 have ha:vs[i]?=some v:=by
  unfold yT at h2;rw[bD (by simpa using hi),aF] at h2;right
 obtain⟨u,Z,rv⟩:=r.get ha;have hp:ps[i]?=some y:=by rw[<- S.pre,cm '!'];show h1
 have J:ps.Nodup:=by rw[<- S.pre];show S.nd.sublist (cV _ _)
 show#[u,rv,?_];rcases S.par y (aB hp) with k | k;show .inl #[k,zek J hp Z k];obtain⟨c,e⟩:=zgD (n:=s.heap.objs.size+1) k;show .inr #[.inl k,c,e,?_];have q:=x.cell y c e;rw[zei J hp Z (by change scope.names.lookup y≠_;rw[k];decide)] at q;show q;show B.hok.fresh (dq (x.above y c (c7 h)));unfold yT;change _=N.length;grind
def zlG{CX:CXT}{P:Aa}{w:Ab}{K:AH}{mg:AI}{base:Heap}{f:Addr}{name qual:Str}{params:Arguments}{body:List Stmt}{scope:Scope}{dV kV Y pm B ct oc:Value}{an od:Option Addr}{N ps:AM}{sp:Sp}(lk:K.lookup f=some #[oc,od,.func 'ƕ',ac])(ad:PySem.W.codeIn K B qual=true)(S:FnScope N ps scope)(Z:'ƣ')(O:∀ (A:Ae) (outer:'[') (s:AZ) (H:Hp) (vs:AT) (Q:VK) (E:XK),Room k (A.deeper 'Ŧ')->sp vs H Q E->
   ∃t,PSs 'Ń' body t/\t { nx:=λ_ H'=>Q .non H',rt:=Q } (yT N vs) H) :
  FnOk P w K mg base CX (k+1) f 'ƕ' ps sp:=by
 show#[Z,λA outer s H args us vs Q E hr e0 hb r ab=>?_];have hl:=Z _ _ _ _ ab;have KX:K.In s.heap:=e0.mod.kin.keeps λb o e=>(e0.bs b o e).1;have lim:s.heap.NoLimit:=e0.mod.nolimit.keeps λb o e=>(e0.bs b o e).1
 have U:∀y∈ps.zip us,scope.names.lookup y.1=some .local\/'Ȩ':=by
  rintro⟨n,v⟩ hy;rcases S.par n (gy hy).1 with q | q;show .inl q;show .inr #[q,fE _ _ _ (.inl q)]
 show codeAny_call_function hr.depth (KX _ _ lk) A5 S.co S.gen A5 (PySem.W.codeRec_of KX ad) (hb _ _ _ _ ?_);show wpAny_newFunctionEnv_cells S.kind U λenv he s1 x=>?_;subst he;show#[lim.keeps x.toInCall.keep,codeAny_func ?_];obtain⟨t,ht,hq⟩:=O A outer s H vs Q E (hr.deeper _) ab;have I:Inv 'Ń' [] (yT N vs) H s1:=zeB S hr.hd e0 hl r x;show aE (ht [] s1 (yT N vs) H _ I hq) (λfl s' hs=>?_) λe s' hs=>hs
 have fin:∀ {F:St} {H':Hp} {v:V} {u:Value},Inv 'Ń' [] F H' s'->ye v u->Q v H'->CE outer P w H s Q u s':=
  λ{F H' v u} J rv q=>#[v,H',J.os,J.bare,J.base,J.hok,rv,q]
 cases fl with
 | ret u=>
  obtain⟨v,F,H',J,rv,q⟩:=hs;show fin J rv q
 | next=>
  obtain⟨F,H',J,q⟩:=hs;show fin (v:=V.non) (u:=Value.none) J A5 q
 | brk=>
  obtain⟨_,_,_,q⟩:=hs;show False.elim q
 | cont=>
  obtain⟨_,_,_,q⟩:=hs;show False.elim q
section
variable {X:Cx}{x:Str}{p pos:Pos}{e:Expr}{es:AO}{t:TA}{id T:String}{r:AT->Hp->VK->Prop}
def tCB (r:AT->Hp->VK->Prop)(t:TA):TE:=λG H Q=>t G H λvs H1=>r vs H1 Q
def zmv (F:zec X 'Ï' r)(J:Gl X x)(O:'ñ')(U:bootBuiltins x=some 'Ï')(Y:PA X '=' t)(Z:'ç' := by ext)(q:Ah x:=by ext)
  (he:'g':=by rfl) (B:'¯':=by rfl):PE X '¢' (tCB r t):=by
 intro A6 s G H Q I h;show dS (zc2 I J O U ?_ Z q);show PyProof.Rows.callWith_builtin1 'ȟ' he B
def zkd (F:zec X '¼' r)(J:Gl X x)(O:'ñ')(U:bootBuiltins x=some '¼')(Y:PA X '=' t)(Z:'ç' := by ext)(q:Ah x:=by ext)
  (he:'g':=by rfl) (B:'¯':=by rfl):PE X '¢' (tCB r t):=by
 intro A6 s G H Q I h;show dS (zc2 I J O U ?_ Z q);show cZ 'ȟ' he B
end
section
variable {κ:Type}[DecidableEq κ]
def zby (A7:List (κ×V))(k:κ):Option V:=(A7.find? λkv=>decide (kv.1=k)).map 'Ã'
def u7 (A7:List (κ×V))(k:κ)(v:V):List (κ×V):=
 if 'Ŭ'=true then A7.map (λkv=>if kv.1=k then (kv.1,v) else kv) else A7++[(k,v)]
def xm{p:κ×V}(e:p.1=k):zby (p::r) k=some p.2:=by simp[zby,bU,e]
def xl{p:κ×V}{r:List (κ×V)}(e:¬ p.1=k):zby (p::r) k=zby r k:=by simp[zby,bU,e]
theorem zhs (k:κ):∀A7:List (κ×V),'Ŭ'=(zby A7 k).isSome
 | []=>rfl
 | p::r=>by
  rw[dC];by_cases e:p.1=k;simp only[xm e,aA e,Bool.true_or,Option.isSome_some];rw[xl e,aG e,Bool.false_or];show zhs k r
def xu (A7:List (κ×V))(k:κ)(v:V):(u7 A7 k v).length<=A7.length+1:=by
 unfold u7;split
 all_goals right
def zib.isSome_eq(r:zib o u):o.isSome=u.isSome:=by
 cases o with
 | none=>cases u with
  | none=>rfl
  | some _=>show (show False from r).elim
 | some _=>cases u with
  | none=>show (show False from r).elim
  | some _=>rfl
def KV.val(r:KV A7 vs)(k:κ):zib (zby A7 k) (valueAt vs k):=by
 unfold KV at r
 induction r with
 | nil=>show True.intro
 | @cons p q ps B h t I=>
  obtain⟨h1,h2⟩:=h;by_cases e:p.1=k;have F:q.1=k:=h1.symm.trans e;have b:valueAt (q::B) k=some q.2:=by simp[valueAt,bU,F]
  rw[xm e,b];show h2;have F:¬ q.1=k:=λz=>e (h1.trans z);have b:valueAt (q::B) k=valueAt B k:=by simp[valueAt,bU,F]
  rw[xl e,b];show I
def KV.any(r:KV A7 vs)(k:κ):'Ŭ'=vs.any λkv=>decide (kv.1=k):=by
 unfold KV at r
 induction r with
 | nil=>rfl
 | cons h t q=>rw[dC,dC,q,h.1]
def KV.repl {A7:List (κ×V)}{vs:List (κ×Value)}(r:KV A7 vs)(k:κ){y:V}{u:Value}(F:ye y u) :
  KV (A7.map λkv=>if kv.1=k then (kv.1,y) else kv) (vs.map λkv=>if kv.1=k then (kv.1,u) else kv):=by
 unfold KV at r ⊢
 induction r with
 | nil=>show .nil
 | @cons p q ps I h t B=>
  rw[az,az];show .cons ?_ B;grind
def KV.put(r:KV A7 vs)(k:κ)(q:ye y u):KV (u7 A7 k y) (stored vs k u):=by
 unfold u7 stored;rw[r.any k];by_cases e:(vs.any λkv=>decide (kv.1=k))=true;rw[if_pos e,if_pos e];show r.repl k q;rw[if_neg e,if_neg e];show Paired.snoc r #[A5,q]
def KV.length {A7:List (κ×V)}{vs:List (κ×Value)}(r:KV A7 vs):A7.length=vs.length:=gg r
end
def zjy(r:ye (kV k) u):(zV P w).is k u=true:=by
 cases k with
 | inl i=>obtain⟨t,e⟩:=(show ∃t,u=Value.int i t from r);subst e;show zfZ P w i t
 | inr x=>obtain⟨t,e⟩:=(show ∃t,u=Value.str x t from r);subst e;show zf0 P w x t
theorem zeD:∀ {ks:List Key} {us:AN},yi (ks.map kV) us->ItemsAre (zV P w) ks us
 | [],_,r=>by rw[dX] at r;cases r;show .nil
 | k::ks,_,r=>by
  rw[az] at r
  cases r with
  | cons h t=>show .cons (zjy h) (zeD t)
abbrev KT (H:Hp):List (List Key×V)->List (List Key×Addr×Value)->Prop:=Paired λp q=>p.1=q.1/\H q.2.1=some (.tup (p.1.map kV))/\ye p.2 q.2.2
def KT.val(r:KT H A7 xs)(k:List Key):zib (zby A7 k) ((atKey xs k).map 'Ã'):=by
 induction r with
 | nil=>show True.intro
 | @cons p q ps B h t I=>
  obtain⟨h1,_,h2⟩:=h;by_cases e:p.1=k;have F:q.1=k:=h1.symm.trans e;have b:atKey (q::B) k=some q.2:=by simp[atKey,bU,F]
  rw[xm e,b];show h2;have F:¬ q.1=k:=λz=>e (h1.trans z);have b:atKey (q::B) k=atKey B k:=by simp[atKey,bU,F]
  rw[xl e,b];show I
def KT.repl(r:KT H A7 xs)(k:List Key)(F:ye y u) :
  KT H (A7.map λkv=>if kv.1=k then (kv.1,y) else kv) (xs.map (putAt k u)):=by
 induction r with
 | nil=>show .nil
 | @cons p q ps I h t B=>
  rw[az,az];show .cons ?_ B;obtain⟨h1,h2,J⟩:=h;unfold putAt;by_cases e:p.1=k
  all_goals right
def KT.put(r:KT H A7 xs)(k:List Key)(F:H b=some (.tup (k.map kV)))(B:ye y u) :
  KT H (u7 A7 k y) (storedH xs k b u):=by
 have e:'Ŭ'=(atKey xs k).isSome:=by rw[zhs,(r.val k).isSome_eq,en]
 unfold u7 storedH;rw[e];by_cases q:(atKey xs k).isSome=true;rw[if_pos q,if_pos q];show r.repl k B;rw[if_neg q,if_neg q];show Paired.snoc r #[A5,F,B]
def KT.keeps(r:KT H A7 xs)(q:∀b ys,H b=some (.tup ys)->H' b=some (.tup ys)):KT H' A7 xs:=
 Paired.mapP r λ_ _ z=>#[z.1,q _ _ z.2.1,z.2.2]
section
variable {P:Aa}{w:Ab}{H:Hp}{h:Heap}{a:Addr}
def zql(q:'»')(e:Rd H a u):zJ P w H h a u:=e.ok q
def zov(q:'»')(e:Rd H a (.dK A7)):A7.length<=sizeLine/\'ý'=false/\∃vs,KV A7 vs/\h.DictOf (zV P w) a vs:=
 show zJ P w H h a (.dK A7) from zql q e
def zou(q:'»')(e:H a=some (.dK A7)):A7.length<=sizeLine/\'ý'=false/\∃vs,KV A7 vs/\h.DictOf (zV P w) a vs:=zov q (.inl e)
def zgY(q:'»')(e:H a=some (.tup (ks.map kV))):'Ƃ'.is h ks a:=by obtain⟨_,its,r,o,h1,h2,⟨n,B⟩,_⟩:=(show zJ P w H h a (.tup (ks.map kV)) from q a _ e);show#[o,its.toArray,n,h1,h2,B,by simpa using zeD r]
def zow(F:'»')(e:Rd H a (.dT A7)):A7.length<=sizeLine/\'ý'=false/\
  ∃xs,KT H A7 xs/\h.DictOfH 'Ƃ' a xs:=by
 obtain⟨z,y,xs,r,o,es,ep,h1,h2,I,J,O⟩:=(show zJ P w H h a (.dT A7) from zql F e);show#[z,y,xs,r,o,es,ep,h1,h2,I,J,λx B=>?_,O]
 have all:∀ {l:List (List Key×V)} {m:List (List Key×Addr×Value)},KT H l m->∀x∈m,'Ƃ'.is h x.1 x.2.1:=by
  intro l m q
  induction q with
  | nil=>intro x B;show nomatch B
  | @cons p q ps Y Z t U=>
   intro x B;rcases au.mp B with e | B;subst e;show zgY F 'I';show U x B
 show all r x B
def zrr(q:'»')(e:H a=some (.dT A7)):A7.length<=sizeLine/\'ý'=false/\
  ∃xs,KT H A7 xs/\h.DictOfH 'Ƃ' a xs:=zow q (.inl e)
end
def zgt (H:Hp)(a:Addr)(y:V)(r:Option V):Prop:=
 (∃A7 k,Rd H a (.dK A7)/\y=kV k/\r=zby A7 k)\/∃A7 k b,Rd H a (.dT A7)/\y = .ref b/\H b=some (.tup (k.map kV))/\r=zby A7 k
def zed (H:Hp)(a:Addr)(y v:V)(H':Hp):Prop:=
 (∃A7 k,H a=some (.dK A7)/\y=kV k/\A7.length<sizeLine/\H'=upd H a (.dK (u7 A7 k v)))\/
 ∃A7 k b,H a=some (.dT A7)/\y = .ref b/\H b=some (.tup (k.map kV))/\A7.length<sizeLine/\H'=upd H a (.dT (u7 A7 k v))
def zgt.k {H:Hp}{a:Addr}{A7:List (Key×V)}{k:Key}(e:H a=some (.dK A7)):zgt H a (kV k) (zby A7 k):=.inl #[A7,k,.inl e,A5,A5]
def zed.k {H:Hp}{a:Addr}{A7:List (Key×V)}{k:Key}{v:V}(e:H a=some (.dK A7))(q:A7.length<sizeLine):zed H a (kV k) v (upd H a (.dK (u7 A7 k v))):=.inl #[A7,k,e,A5,q,A5]
def zed.t {H:Hp}{a b:Addr}{A7:List (List Key×V)}{k:List Key}{v:V}(e:H a=some (.dT A7))(q:H b=some (.tup (k.map kV)))(B:A7.length<sizeLine) :
  zed H a 'q' v (upd H a (.dT (u7 A7 k v))):=.inr #[A7,k,b,e,A5,q,B,A5]
section
variable {X:Cx}{A6:AB}{G:St}{H:Hp}{s:AZ}{a:Addr}{y v:V}{u r:Value}{o:Option V}{A:Ae}{E:AA}
def Inv.big (I:')'):sysModules<s.heap.objs.size:=by have h:mainGlobals<s.heap.objs.size:=(I.mod.glob.keeps I.bk).lt;show Nat.lt_trans '#' h
def ziK(U:A.units+1<cLine)(I:')')(g:zgt H a y '¬')(O:ye y u)(h:∀w' s',Inv X A6 G H s'->ye v w'->Q w' s') :
  wpAny 'N' A (getItem 'J' u) Q E s:=by
 rcases g with ⟨A7,k,e,ey,l⟩ | ⟨A7,k,b,e,ey,eb,l⟩;subst ey;obtain⟨z,Y,vs,q,dd⟩:=zov I.hok e;obtain⟨w',F,B⟩:=zib.some_of (v:=v) (o:=valueAt vs k) (by rw[l];show q.val k);show wpAny_getItem_of (zjy O) dd.mapOf F (h w' _ (I.tok _) B);subst ey;cases (show u=Value.ref b from O);obtain⟨z,Y,xs,q,dd⟩:=zow I.hok e;obtain⟨w',F,B⟩:=zib.some_of (v:=v) (o:=(atKey xs k).map 'Ã') (by rw[l];show q.val k);obtain⟨p,hp,J⟩:=aI.mp F;show wpAny_getItem_heap (tupleKind_room_in1 U) (zgY I.hok eb) dd hp ?_;rw[J];show h w' _ (I.tok _) B
def zaX(I:')')(F:Mut (H a))(hs:Heap.SameBut a s.heap h')(J:∃q,h'.get? a=some q)(B:zJ X.prog X.w (upd H a ob) h' a ob) :
  Inv X A6 G (upd H a ob) 'Ģ':=
 I.write (x:=a) (e:=a) F 'h' (λb q O z=>(hs.2 b O).trans z) J B
def ziT(z:A7.length<=sizeLine)(B:'ý'=false)(q:KV A7 vs)(dd:h'.DictOf (zV P w) a vs) :
  zJ P w H' h' a (.dK A7):=#[z,B,vs,q,dd]
def ziL(hu:A.units+1<cLine)(I:')')(g:zed H a y v H')(Z:ye y u)(rv:ye v r)(h:∀s',Inv X A6 G H' s'->Q () s') :
  wpAny 'N' A (setItem 'J' u r) Q E s:=by
 rcases g with ⟨A7,k,e,ey,l,eH⟩ | ⟨A7,k,b,e,ey,eb,l,eH⟩;subst ey eH;obtain⟨z,O,vs,B,dd⟩:=zou I.hok e;have U:vs.length<=sizeLine:=by rw[<- B.length];show z
 have Y:(u7 A7 k v).length<=sizeLine:=by have:=xu A7 k v;lia
 show wpAny_setItem_pairs (hsz:=U) (zjy Z) dd λh' F hs=>h _ ?_;have he:∃q,h'.get? a=some q:=let ⟨q,_,_,J,_⟩:=F;#[q,J];show zaX I 'Ŋ' hs he (ziT Y O (B.put k rv) F);subst ey eH;cases (show u=Value.ref b from Z);obtain⟨z,O,xs,B,dd⟩:=zrr I.hok e;have U:xs.length<=sizeLine:=by rw[<- gg B];show z
 have Y:(u7 A7 k v).length<=sizeLine:=by have:=xu A7 k v;lia
 show wpAny_setItem_heap (hsz:=U) (tupleKind_room_in1 hu) (zgY I.hok eb) dd λh' F hs=>h _ ?_;obtain⟨q,es,ep,J,h2,h3,h4,_,h5⟩:=F;show zaX I 'Ŋ' hs #[q,J] #[Y,O,_,(B.put k eb rv).keeps λc ys ec=>?_,q,es,ep,J,h2,h3,h4,h5];rw[zc '?'];show ec
variable {A7:List (Key×V)}{k:Key}
end
def ztR (i:Expr):Prop:=∀q B,subscripted i false q B=operate [q,B] (getItem q B)
def zqD {prog:Aa}{w:Ab}{A:Ae}{E:AA}{s:AZ}{env:Env}{value q:Expr}{pos:Pos}{T id:String}{Q:AA}
  (Z:typeLookup '¼' "__getitem__" = pure (some 'Ï')) (hs:ztR q)
  (h:Ag prog w A (eval value env) (λo I=>Ag prog w A (eval q env) (λi B=>B.TypeIs o T/\Ag prog w A (getItem o i) Q E B) E I) E s) :
  Ag prog w A (eval (.Subscript value q pos) env) Q E s:=by
 show Subscript_ (aE h (λo I O=>aE O (λi B F=>?_) λ_ _ x=>x) λ_ _ x=>x);obtain⟨Y,F⟩:=F;unfold subscriptTail;show aa ?_;rw[getitemInPython_of_ne Y.not_modules];show aa (dY Y Z ?_);have fin:Ag prog w A (subscripted q false o i) (λr J=>Ag prog w A (letTemporaryGo value o r >>= λ_=>pure r) Q E J) E B:=by rw[hs o i];show wpAny_operating (aE F (λr J U=>aa (wpAny_letTemporaryGo (af U))) λ_ _ x=>x)
 first
  | show af (aa fin)
  | show aa '?'
  | show aa fin
def zfz{X:Cx}{A6:AB}{G:St}{H:Hp}{s:AZ}{a:Addr}{y:V}(I:')')(g:zgt H a y o):s.TypeIs 'J' "dict" := by
 rcases g with ⟨A7,k,e,_,_⟩ | ⟨A7,k,b,e,_,_,_⟩;obtain⟨_,_,vs,_,dd⟩:=zov I.hok e;show dd.typeIs;obtain⟨_,_,xs,_,dd⟩:=zow I.hok e;show dd.typeIs
def ztr (td ty:TE):TE:=λG H Q=>td G H λx H1=>ty G H1 λy H2=>∃a v,x = .ref a/\zgt H2 a y '¬'/\Q v H2
def ztn (td ty tv:TE):TS:=λBB G H=>tv G H λv H1=>td G H1 λx H2=>ty G H2 λy H3=>∃a H4,x = .ref a/\zed H3 a y v H4/\BB.nx G H4
section
variable {X:Cx}{o i e value:Expr}{pos pos' tpos:Pos}{td ty tv:TE}
def zpF (B:'Ë')(J:PE X o td)(hi:PE X i ty)(hs:ztR i):PE X (.Subscript o i pos) (ztr td ty):=by intro A6 s G H Q I h;show zqD PySem.F.slot_dict_getitem.lookup hs (thn (J A6 s G H _ I h) λu O ⟨x,H1,I1,U,Y⟩=>thn (hi A6 O G H1 _ I1 Y)  ?_);rintro iv s2 ⟨y,H2,I2,Z,a,v,ex,g,q2⟩;subst ex;obtain rfl:u=Value.ref a:=U;show#[zfz I2 g,ziK B I2 g Z λw' s3 I3 q=>#[v,H2,I3,q,q2]]
def zpW (q:'Ë')(B:PE X o td)(hi:PE X i ty)(F:PE X value tv)(hs:'Ȼ') :
  PS X (.Assign [.Subscript o i pos'] value pos) (ztn td ty tv):=by
 intro A6 s G H BB I h;show wpAny_Assign_Subscript (thn 'Į' λr J ⟨v,H1,I1,O,U⟩=>thn (B A6 J G H1 _ I1 U) λu Y ⟨x,H2,I2,Z,q2⟩=>thn (hi A6 Y G H2 _ I2 q2) λiv s3 ⟨y,H3,I3,ry,a,H4,ex,g,q3⟩=>?_) hs;subst ex;obtain rfl:u=Value.ref a:=Z;show ziL q I3 g ry O λs4 I4=>#[G,H4,I4,q3]
end
def zgK(h:Heap)(q:sysModules<h.objs.size):zJ P w H (h.push 'Ņ') h.objs.size (.dK []):=
 #[aP _,gA.mpr (Ne.symm (aY q)),[],.nil,Heap.DictOf.new h]
def zlA(h:Heap)(q:sysModules<h.objs.size):zJ P w H (h.push 'Ņ') h.objs.size (.dT []):=
 #[aP _,gA.mpr (Ne.symm (aY q)),[],.nil,_,#v[],0,']',#[A5,A5,A5],A5,A5,fN]
section
variable {X:Cx}{pos:Pos}
end
def zkY:List (TE×TE)->St->Hp->(List (V×V)->Hp->Prop)->Prop
 | [],_,H,Q=>Q [] H
 | (tk,tv)::r,G,H,Q=>tk G H λx H1=>tv G H1 λy H2=>zkY r G H2 λps H3=>Q ((x,y)::ps) H3
abbrev VV:List (V×V)->List (Value×Value)->Prop:=Paired λp q=>ye p.1 q.1/\ye p.2 q.2
def PPs (X:Cx)(pos:Pos)(B:List (Option Expr))(q:AO)(F:List (TE×TE)):Prop:=
 ∀ (A6:AB) (s:AZ) (G:St) (H:Hp) (Q:List (V×V)->Hp->Prop),Inv X A6 G H s->zkY F G H Q->
  Af X (evalPairs (pairTrees B q X.env pos)) (λvs s'=>∃ps H',Inv X A6 G H' s'/\VV ps vs/\Q ps H') X.xe s
def zpV:PPs X pos [] [] []:=λA6 s G H Q I h=>pairTrees_nil_walk #[[],H,I,.nil,h]
def zmE(F:PE X k tk)(J:PE X v tv)(O:PPs X pos ks vs q) :
  PPs X pos (some k::ks) (v::vs) ((tk,tv)::q):=λA6 s G H Q I h=>
 pairTrees_cons_walk (thn 'Į' λu U ⟨x,H1,I1,Y,Z⟩=>thn (J A6 U G H1 _ I1 Z) λw2 s2 ⟨y,H2,I2,ry,q2⟩=>
  thn (O A6 s2 G H2 _ I2 q2) <| by rintro ws s3 ⟨ps,H3,I3,B,q3⟩;show#[(x,y)::ps,H3,I3,.cons #[Y,ry] B,q3])
def zb6 (A7 more:List (Key×V)):List (Key×V):=more.foldl (λacc kv=>u7 acc kv.1 kv.2) A7
def KV.merge:∀ {more:List (Key×V)} {B:List (Key×Value)} {A7:List (Key×V)} {vs:List (Key×Value)},KV more B->KV A7 vs->KV (zb6 A7 more) (merged vs B):=by
 intro more B A7 vs r;unfold KV at r
 induction r generalizing A7 vs with
 | nil=>intro q;show q
 | @cons p q ps J h t F=>
  intro I
  have e:KV (u7 A7 p.1 p.2) (stored vs q.1 q.2):=by
   have:=I.put p.1 h.2;right
  show F e
theorem zav:∀ (more A7:List (Key×V)),(zb6 A7 more).length<=A7.length+more.length
 | [],A7=>by change A7.length<=A7.length+0;lia
 | p::r,A7=>by
  have h1:=zav r (u7 A7 p.1 p.2);have h2:=xu A7 p.1 p.2;change (zb6 (u7 A7 p.1 p.2) r).length<=_;grind
theorem zcT:∀ {A7:List (Key×V)} {F:List (Value×Value)},VV (A7.map λkv=>(kV kv.1,kv.2)) F->∃B,Carries (zV P w) F B/\KV A7 B
 | [],_,r=>by rw[dX] at r;cases r;show#[[],True.intro,.nil]
 | p::A7,_,r=>by
  rw[az] at r
  cases r with
  | @cons a b as bs h t=>
   obtain⟨B,c,q⟩:=zcT (P:=P) (w:=w) t;obtain⟨J,I⟩:=b;show#[(p.1,I)::B,#[zjy h.1,A5,c],.cons #[A5,h.2] q]
def zts (q:List (TE×TE)):TE:=λG H Q=>∀p,H p=none->zkY q G (upd H p (.dK [])) λps H2=>H2 p=some (.dK [])/\∃A7:List (Key×V),ps=A7.map (λkv=>(kV kv.1,kv.2))/\A7.length<=15/\Q 'p' (upd H2 p (.dK (zb6 [] A7)))
def zpG(h:PPs X pos B F J)(O:B.all (·.isSome)=true)(hl:B.length=F.length)(h0:B≠[])(Y:B.length<=15):PE X (.Dict B F pos) (zts J):=by
 intro A6 s G H Q I q;have hn:=I.hok.fresh (aj s.heap.objs.size);have I1:=I.laid (a:='ķ') (o:=.dK []) (h':=s.heap.push 'Ņ') (t':=s.toks) (λ_ _ q=>ah _ q) '/' (zgK s.heap I.big);show wpAny_Dict_walk (knd:=zV X.prog X.w) O hl h0 Y (thn (h A6 _ G _ _ I1 (q _ hn))  ?_);rintro ws s2 ⟨ps,H2,I2,Z,e,A7,ep,lk,q2⟩;subst ep;obtain⟨rs,c,rk⟩:=zcT (P:=X.prog) (w:=X.w) Z;obtain⟨z,hd,ab,r0,dd⟩:=zou I2.hok e;cases r0;show#[rs,c,dd,λh' U hs=>#['ú',_,?_,A5,q2]];have hz:(zb6 [] A7).length<=sizeLine:=by have h1:=zav A7 [];rw[List.length_nil] at h1;rw[cH];lia
 have he:∃q,h'.get? s.heap.objs.size=some q:=let ⟨q,_,_,hq,_⟩:=U;#[q,hq];show zaX I2 'Ŋ' hs he (ziT hz hd (rk.merge .nil) U)
section
variable {X:Cx}{A6:AB}{G:St}{H:Hp}{s:AZ}{a:Addr}{y d:V}{u r:Value}{o:Option V}{A:Ae}{E:AA}
variable {o e f:Expr}{apos cpos:Pos}{td ty tx:TE}
variable {A7:List (Key×V)}
end
end L2
namespace HT
open PyProof.Rows
def lexLt:AG->AG->Bool
 | [],[]=>false
 | [],_::_=>true
 | _::_,[]=>false
 | x::xs,y::ys=>if x=y then lexLt xs ys else decide (x<y)
def lexLt_cons (x y:Int)(xs ys:AG):lexLt (x::xs) (y::ys)=if x=y then lexLt xs ys else decide (x<y):=rfl
def lexLt_nil_nil:lexLt [] []=false:=rfl
section
open PySem.SeqAt
open PySem.AutoSeq1 (wpAny_loadPart')
open PySem.MeetsSeq PySem.MeetsSeq2 PySem.MeetsSeq3
variable {prog:Aa}{w:Ab}{A:Ae}{E:AA}{s:AZ}
def cat_tup(ht:IsTup s.heap t vs.toArray)(hb:IsTup s.heap b q.toArray)(hv:vs≠[])(h1:q=[]->Q (.ref t) s)(h2:q≠[]->Q '°' { s with heap:=s.heap.push { cls:=.type "tuple",data:=.seq (vs++q).toArray } })(hsz:vs.length+q.length<=sizeLine):Ag prog w A (binaryOp .Add (.ref t) 'q') Q E s:=by
 obtain⟨⟨cls,dd,data,sl⟩,Y,hc,n,hd⟩:=id ht;obtain⟨⟨ac,I,ab,J⟩,B,O,n2,U⟩:=id hb;simp only at hc hd O U;subst hc hd O U;have e:vs.toArray++q.toArray=(vs++q).toArray:=by simp
 by_cases Z:q=[]
 ·show concat_meets #[_,Y,A5] #[_,B,A5] noFill_tuple_add seq_tuple_add PySem.F.slot_tuple_add PySem.F.entry_tuple_add (PySem.F.args_tuple_add_2 _ _)
   (tuple_addW1 t b vs.toArray q.toArray n n2 dd I sl J (by simpa using hv) (by simp[Z])) #[Y,B,h1 Z]
 ·show concat_meets #[_,Y,A5] #[_,B,A5] noFill_tuple_add seq_tuple_add PySem.F.slot_tuple_add PySem.F.entry_tuple_add (PySem.F.args_tuple_add_2 _ _)
   (tuple_addW2 t b vs.toArray q.toArray n n2 dd I sl J (by simpa using hv) (by simpa using Z) 'I') #[Y,B,?_]
  rw[e];show h2 Z
def sIx (n d:Nat):AQ->Nat
 | none=>d
 | some v=>if v<0 then (v+(n:Int)).toNat else min v.toNat n
def sIx_none (n d:Nat):sIx n d none=d:=rfl
def sIx_nat (n d k:Nat):sIx n d 'ÿ'=min k n:=by change (if (k:Int)<0 then ((k:Int)+(n:Int)).toNat else min (k:Int).toNat n)=min k n;rw[if_neg '!',Int.toNat_natCast]
def zto (n d:Nat)(B:d<=n)(o:AQ):sIx n d o<=n:=by
 cases o with
 | none=>show B
 | some v=>
  change (if v<0 then (v+(n:Int)).toNat else min v.toNat n)<=n;by_cases q:v<0;rw[if_pos q];lia;rw[if_neg q];show Nat.min_le_right _ _
def zit (v:Int)(n d:Nat):(if v<0 then max (v+(n:Int)) 0 else min v (n:Int))=((sIx n d '¬':Nat):Int):=by
 change (if v<0 then max (v+(n:Int)) 0 else min v (n:Int))=(((if v<0 then (v+(n:Int)).toNat else min v.toNat n):Nat):Int);grind
def zhw (lo hi:AQ)(n:Nat):Builtin.Slice.sliceAdjust lo hi 1 (n:Int)=(((sIx n 0 lo:Nat):Int),((sIx n n hi:Nat):Int)):=by
 have h1:¬ ((1:Int)<0):=by lia
 unfold Builtin.Slice.sliceAdjust;simp only[h1,if_false];show Prod.ext ?_ ?_
 cases lo with
 | none=>rfl
 | some v=>show zit v n 0
 cases hi with
 | none=>rfl
 | some v=>show zit v n n
def zhT (i j:Nat):Builtin.Slice.slicePlaces (i:Int) (j:Int) 1=j - i:=by
 unfold Builtin.Slice.slicePlaces;have h1:(1:Int) > 0:=by lia
 simp only[h1,if_true,Int.ediv_one];split <;> lia
def xV{o:AQ}{Q:AQ->AZ->Prop}(p:IsPart v o)(h:Q o s):Ag prog w A (Builtin.Slice.slicePartIndex v) Q E s:=by
 cases p with
 | none=>show slicePart_none h
 | int i t=>show slicePart_int h
def ur{lo hi:AQ}{Q:Int×Int×Nat->AZ->Prop}(hs:s.heap.IsSliceOf J F I .none)(pl:IsPart F lo)(O:IsPart I hi)(h:Q (((sIx n 0 lo:Nat):Int),1,sIx n n hi - sIx n 0 lo) s):Ag prog w A (Builtin.Slice.sliceApplied (.ref J) (pure (n:Int))) Q E s:=by
 obtain⟨Y,q,U,B⟩:=id hs;unfold Builtin.Slice.sliceApplied Builtin.Slice.sliceFields;show wpAny_bind (wpAny_bind (wpAny_field q B (x:=F) A5 (wpAny_bind (wpAny_field q B (x:=I) A5 (wpAny_bind (wpAny_field q B (x:=.none) A5 'Ĺ'))))));show wpAny_bind (slicePart_none ?_);change wpAny _ _ (if ((1:Int)==0)=true then _ else _) _ _ s;rw[if_neg '#'];show wpAny_bind (xV pl (wpAny_bind (xV O (wpAny_bind 'Ĺ'))));change wpAny _ _ (match Builtin.Slice.sliceAdjust lo hi 1 (n:Int) with | (lo,hi)=>pure (lo,(1:Int),Builtin.Slice.slicePlaces lo hi 1)) _ _ s;rw[zhw lo hi n];change wpAny _ _ (pure (((sIx n 0 lo:Nat):Int),(1:Int),Builtin.Slice.slicePlaces ((sIx n 0 lo:Nat):Int) ((sIx n n hi:Nat):Int) 1)) _ _ s;rw[zhT];show wpAny_pure h
def zmC (xs:AK)(i k:Nat):((List.range k).filterMap λ(m:Nat)=>xs[((i:Int)+(m:Int) * 1).toNat]?).toArray=((xs.toList.drop i).take k).toArray:=by
 have e:(λ(m:Nat)=>xs[((i:Int)+(m:Int) * 1).toNat]?)=λm=>xs[i+m]?:=by
  funext m;have:((i:Int)+(m:Int) * 1).toNat=i+m:=by lia
  rw[this]
 rw[e];have:=pick_run xs i k;rw[List.filterMap_map] at this;have q:((λx=>xs[x]?) ∘ λx=>i+x)=λm=>xs[i+m]?:=rfl;right
def getItem_tuple_cut{lo hi:AQ}(F:IsTup s.heap t q)(hs:s.heap.IsSliceOf I Z vu .none)(pl:IsPart Z lo)(pu:IsPart vu hi)(hw:¬ (sIx q.size 0 lo=0/\sIx q.size q.size hi=q.size))(h:Q '°' { s with heap:=s.heap.push { cls:=.type "tuple",data:=.seq 'Ǽ'.toArray } })(hsz:q.size<=sizeLine):Ag prog w A (getItem (.ref t) (.ref I)) Q E s:=by
 have B:sizeOk (.seq 'Ǽ'.toArray):=by change 'Ǽ'.toArray.size<=sizeLine;rw[List.size_toArray,List.length_take,List.length_drop,Array.length_toList];lia
 have hj:sIx q.size q.size hi<=q.size:=zto _ _ (Nat.le_refl _) hi;obtain⟨os,J,O,ab⟩:=id hs;have U:s.TypeIs (.ref I) "slice" := #[os,J,O];unfold getItem;try with_reducible show wpAny_holding ?_
 first | show wpAny_bind 'Ĺ' | skip
 show wpAny_bind (wpAny_sequenceKey F.typeIs '#' ?_)
 show wpAny_bind (wpAny_callSpecial?_slot (name:=Str.ofString "__getitem__") F.typeIs PyProof.Rows.slot_tuple_getitem
  (wpAny_call_entry PyProof.Rows.slot_tuple_getitem F.typeIs entry_tuple_getitem ?_ (args_tuple_getitem _ _)))
 change wpAny _ _ 'Ȁ' _ _ s;show wpAny_bind (tupleItemsOf_ F ?_);show wpAny_bind (wpAny_typeOf U ?_);rw[if_pos '#'];show wpAny_bind (ur hs pl pu ?_);have Y:¬ ('ƌ'=true):=by grind
 change wpAny _ _ (if 'ƌ'=true then _ else _) _ _ s;rw[if_neg Y,zmC]
 first
  | show wpAny_bind (m:=Builtin.Tuple.tupleExact _) (wpAny_newObj_type (wpAny_pure #[_,A5,wpAny_pure h]) B)
  | show wpAny_bind '?' '?'
  | show wpAny_bind '?'
  | show wpAny_bind '?'
end
end HT
namespace L2
open PyProof.Rows
abbrev TO:=St->Hp->(AQ->Hp->Prop)->Prop
def PO (X:Cx)(e:Option Expr)(t:TO):Prop:=
 ∀ (A6:AB) (s:AZ) (G:St) (H:Hp) (Q:AQ->Hp->Prop),Inv X A6 G H s->t G H Q->
  Af X (evalPart e X.env) (λu s'=>∃o H',Inv X A6 G H' s'/\IsPart u o/\Q o H') X.xe s
def zkX:TO:=λ_ H Q=>Q none H
def ztx (t:TE):TO:=λG H Q=>t G H λx H1=>∃i,x = .int i/\Q (some i) H1
section
variable {X:Cx}{e:Expr}{te:TE}{lo hi:Option Expr}{tl th:TO}{pos p2:Pos}
def zpT:PO X none zkX:=by intro A6 s G H Q I h;rw[evalPart_none];show af #[none,H,I,.none,h]
def zpU (h:PE X e te):PO X (some e) (ztx te):=by intro A6 s G H Q I B;rw[evalPart_some];show thn (h A6 s G H _ I B)  ?_;rintro u O ⟨x,H1,I1,F,J⟩;obtain⟨i,rfl,q⟩:=J;obtain⟨t,rfl⟩:=F;show#[some i,H1,I1,.int i t,q]
def SlR (X:Cx)(r:V->AQ->AQ->Hp->VK->Prop):Prop:=
 ∀ (A6:AB) (s:AZ) (G:St) (H:Hp) (x:V) (v q B:Value) (lo hi:AQ) (F:Addr) (Q:VK),Inv X A6 G H s->ye x v->s.heap.IsSliceOf F q B .none->IsPart q lo->IsPart B hi->r x lo hi H Q->
  ∃T id,typeLookup '¼' "__getitem__" = pure (some 'Ï')/\s.TypeIs v T/\Af X (getItem v (.ref F)) 'Â' X.xe s
def tSl (r:V->AQ->AQ->Hp->VK->Prop)(te:TE)(tl th:TO):TE:=λG H Q=>te G H λx H1=>tl G H1 λl H2=>th G H2 λu H3=>r x l u H3 Q
def zmy {r:V->AQ->AQ->Hp->VK->Prop}(O:SlR X r)(U:PE X e te)(Y:PO X lo tl)(Z:PO X hi th):PE X 'Ȅ' (tSl r te tl th):=by intro A6 s G H Q I h;show Subscript_ (thn (U A6 s G H _ I h)  ?_);rintro v s1 ⟨x,H1,I1,r1,q1⟩;show wpAny_Slice (thn (Y A6 s1 G H1 _ I1 q1) λF s2 ⟨l,H2,I2,pl,q2⟩=>thn (Z A6 s2 G H2 _ I2 q2)  ?_);rintro J B ⟨u,H3,I3,pu,q3⟩;rw[evalPart_none];show af ?_;have I4:Inv X A6 G H3 'ǚ':=I3.kept (t':=B.toks) λb ob q=>ah _ q;obtain⟨T,id,hT,ht,hg⟩:=O A6 'ǚ' G H3 x v F J l u B.heap.objs.size Q I4 r1 (Heap.IsSliceOf.new ..) pl pu q3;change Af X (subscriptTail e (.Slice lo hi none p2) v (.ref B.heap.objs.size)) 'Â' X.xe 'ǚ';show tail_any (ops:=['Ɓ',v]) ht hT hg 'ň'
def zcV (xs:AT)(lo hi:AQ):AT:=(xs.drop (HT.sIx xs.length 0 lo)).take 'ƚ'
def zbU (xs:AT)(lo hi:AQ):'ļ'.length<=xs.length:=by unfold zcV;rw[bi,eK];lia
def rSlT (K:AH):V->AQ->AQ->Hp->VK->Prop:=λx lo hi H Q=>∃a xs,x = .ref a/\SqT K H a xs/\
 ¬ (HT.sIx xs.length 0 lo=0/\HT.sIx xs.length xs.length hi=xs.length)/\∀p,H p=none->Q 'p' (upd H p (.tup 'ļ'))
def ztp:SlR X (rSlT X.K):=by
 intro A6 s G H x v vl vu lo hi sl Q I O hs pl U h;obtain⟨a,xs,rfl,Y,Z,q⟩:=h;cases O;obtain⟨its,r,F,J⟩:=I.tuple Y;have B:its.toArray.size=xs.length:=by rw[aV];show r.length.symm
 show#["tuple",_,PyProof.Rows.slot_tuple_getitem.lookup,F.typeIs,?_];show HT.getItem_tuple_cut F hs pl U (by rw[B];show Z) ?_ (by rw[B];show J);rw[B];show#['ú',_,I.laid (t':=s.toks) (o:=.tup 'ļ') (λb ob q=>ah _ q) '/' ?_,A5,q _ 'Ş'];show#[aw (zbU xs lo hi) J,_,(r.drop (HT.sIx xs.length 0 lo)).take 'ƚ',uy.new _ _]
def zvJ (K:AH):R2:=λx y H Q=>∃a b xs ys,x = .ref a/\y = .ref b/\SqT K H a xs/\SqT K H b ys/\xs≠[]/\xs.length+ys.length<=sizeLine/\
 (ys=[]->Q 'J' H)/\(ys≠[]->∀p,H p=none->Q 'p' (upd H p (.tup (xs++ys))))
def yi.nil_iff(r:yi xs us):us=[]↔xs=[]:=by
 cases r with
 | nil=>simp
 | cons _ _=>simp
def zpA:OpR X (binaryOp .Add) (zvJ X.K):=by intro A6 s G H x y v u Q I O U h;obtain⟨a,b,xs,ys,rfl,rfl,Y,Z,hx,hz,q1,q2⟩:=h;cases O;cases U;obtain⟨its,F,p1,_⟩:=I.tuple Y;obtain⟨J,B,p2,_⟩:=I.tuple Z;show HT.cat_tup p1 p2 (λz=>hx (F.nil_iff.mp z)) (λz=>#[.ref a,H,I,A5,q1 (B.nil_iff.mp z)]) (λz=>?_) (by rw[<- F.length,<- B.length];show hz);show#['ú',_,I.laid (t':=s.toks) (o:=.tup (xs++ys)) (λb ob q=>ah _ q) '/' ?_,A5,q2 (λw=>z (B.nil_iff.mpr w)) _ 'Ş'];show#['9',_,F.append B,uy.new _ _]
end
def ixN (n:Nat)(i:Int):Option Nat:=if 0<=i then (if i<n then some i.toNat else none) else if -(n:Int)<=i then some (i+n).toNat else none
def atI {α:Type}(xs:List α)(i:Int):Option α:=(ixN xs.length i).bind λj=>xs[j]?
def zoY {n:Nat}{i:Int}{j:Nat}(h:ixN n i=some j):seqIndex? i n=some j/\j<n/\-(n:Int)<=i/\i<n:=by
 unfold ixN at h;by_cases q:0<=i;rw[if_pos q] at h;by_cases h1:i<n;rw[if_pos h1] at h;have e:i.toNat=j:=bK h;show#[by rw[seqIndex_of q h1,e],by lia,by lia,h1];right;rw[if_neg q] at h;by_cases h1:-(n:Int)<=i;rw[if_pos h1] at h;have e:(i+n).toNat=j:=bK h;show#[by rw[seqIndex_neg '!' h1,e],by lia,h1,by lia];right
def zin {α:Type}{xs:List α}{i:Int}{v:α}(h:atI xs i=some v):∃j,seqIndex? i xs.length=some j/\xs[j]?=some v/\j<xs.length/\-(xs.length:Int)<=i/\i<xs.length:=by
 unfold atI at h
 cases e:ixN xs.length i with
 | none=>rw[e] at h;cases h
 | some j=>
  rw[e] at h;obtain⟨h1,h2,q,B⟩:=zoY e;show#[j,h1,h,h2,q,B]
def zoh {α:Type}{xs:List α}{j:Nat}{v:α}(h:xs[j]?=some v):atI xs (j:Int)=some v:=by
 have q:j<xs.length:=(ai.mp h).1
 have e:ixN xs.length (j:Int)=some j:=by
  unfold ixN;right
 unfold atI;rw[e];show h
def zfm (b:Expr):Prop:=∀o i,subscripted b false o i=operate [o,i] (getItem o i)
def IxR (X:Cx)(r:R2):Prop:=
 ∀ (value q:Expr) (A6:AB) (s:AZ) (G:St) (H:Hp) (x y:V) (v u:Value) (Q:VK),Inv X A6 G H s->ye x v->ye y u->r x y H Q->
  subscripted q false v u=operate [v,u] (getItem v u)->Af X (subscriptTail value q v u) 'Â' X.xe s
def MtR (X:Cx)(id:String)(r:V->AT->Hp->VK->Prop):Prop:=
 ∀ (A6:AB) (s:AZ) (G:St) (H:Hp) (x:V) (xs:AT) (v:Value) (us:AN) (Q:VK),Inv X A6 G H s->ye x v->yi xs us->r x xs H Q->
  Af X (call 'Ï' (v::us)) 'Â' X.xe s
section
variable {X:Cx}{a b:Expr}{ta tb:TE}{pos:Pos}
def zvC(B:IxR X r)(F:PE X a ta)(J:PE X b tb)(hs:zfm b):PE X 'Ƈ' 'Ă':=by intro A6 s G H Q I h;show Subscript_ (zum F J I h λv u O x y H2 I2 U Y q=>B a b A6 O G H2 x y v u Q I2 U Y q (hs _ _))
def zt9 (K:AH):R2:=λx y H Q=>∃p xs i v,x = .ref p/\y = .int i/\SqL K H p xs/\atI xs i=some v/\Q v H
def zua (K:AH):R2:=λx y H Q=>∃p xs i v,x = .ref p/\y = .int i/\SqT K H p xs/\atI xs i=some v/\Q v H
def zoZ:IxR X (zt9 X.K):=by
 intro value B A6 s G H x y v u Q I Y Z h hs;obtain⟨p,xs,i,z,rfl,rfl,hq,he,q⟩:=h;cases Y;obtain⟨t,rfl⟩:=Z;obtain⟨its,r,pl,hz⟩:=I.list hq;obtain⟨j,h1,h2,h3,h4,h5⟩:=zin he;obtain⟨w,O,F⟩:=r.get h2;have hl:=r.length;have hn:=zjM;have fin:EP X A6 G Q w s:=#[z,H,I,F,q];by_cases U:0<=i
 have J:i.toNat=j:=by
  rw[seqIndex_of U h5] at h1;right
 show item_listR pl.isList U '!' (by rw[J];simpa using O) fin hs
 have J:(i+(its.toArray.size:Int)).toNat=j:=by
  rw[seqIndex_neg '!' h4] at h1;right
 show subscriptTail_builtinR (x:=w) pl.isList.typeIs slot_list_getitem.lookup
  (wpAny_getItem_list_neg (Q:=λr s'=>r=w/\EP X A6 G Q r s') pl.isList '!' 'I' '!' (by rw[J];simpa using O) #[A5,fin]) hs
def zrG:IxR X (zua X.K):=by
 intro value B A6 s G H x y v u Q I J O h hs;obtain⟨p,xs,i,z,rfl,rfl,U,Y,q⟩:=h;cases J;obtain⟨t,rfl⟩:=O;obtain⟨its,r,pl,hz⟩:=I.tuple U;obtain⟨j,h1,h2,h3,h4,h5⟩:=zin Y;obtain⟨w,Z,F⟩:=r.get h2;have hl:=r.length;have hn:=zjM;have fin:EP X A6 G Q w s:=#[z,H,I,F,q]
 show subscriptTail_builtinR (x:=w) pl.typeIs slot_tuple_getitem.lookup
  (getItem_tuple (j:=j) (Q:=λr s'=>r=w/\EP X A6 G Q r s') pl '!' '!' 'I' (by simpa using Z) #[A5,fin]) hs
def ze8 (lo hi:AQ)(n:Nat):(sliceBounds lo hi none n).1=((HT.sIx n 0 lo:Nat):Int)/\(sliceBounds lo hi none n).2.1=((HT.sIx n n hi:Nat):Int)/\(sliceBounds lo hi none n).2.2=1:=by
 show#[?_,?_,A5]
 ·cases lo with
  | none=>simp[sliceBounds,HT.sIx]
  | some i=>
   simp only[sliceBounds,HT.sIx,Option.getD_none,show (1:Int) > 0 by ext,if_true];by_cases h:i<0
   ·simp only[h,if_true] <;> lia
   ·simp only[h,if_false] <;> lia
 ·cases hi with
  | none=>simp[sliceBounds,HT.sIx]
  | some i=>
   simp only[sliceBounds,HT.sIx,Option.getD_none,show (1:Int) > 0 by ext,if_true];by_cases h:i<0
   ·simp only[h,if_true] <;> lia
   ·simp only[h,if_false] <;> lia
def zd3 (its:AN)(lo hi:AQ):slicePick its.toArray lo hi none=((its.drop (HT.sIx its.length 0 lo)).take (HT.sIx its.length its.length hi - HT.sIx its.length 0 lo)).toArray:=by obtain⟨h1,h2,q⟩:=ze8 lo hi its.toArray.size;unfold slicePick;rw[h1,h2,q];simp only[sliceRange_one,pick_run,aV] <;> rfl
def rSlL (K:AH):V->AQ->AQ->Hp->VK->Prop:=λx lo hi H Q=>∃a xs,x = .ref a/\SqL K H a xs/\∀p,H p=none->Q 'p' (upd H p (.lst 'ļ'))
def zqw:SlR X (rSlL X.K):=by intro A6 s G H x v Z vu lo hi sl Q I J hs pl O h;obtain⟨a,xs,rfl,U,q⟩:=h;cases J;obtain⟨its,r,F,Y⟩:=I.list U;have B:=r.length;show#["list",_,slot_list_getitem.lookup,F.isList.typeIs,?_];show wpAny_getItem_list_slice F.isList hs pl O .none '$' ?_ '?';rw[zd3,<- B];show#['ú',_,I.laid (t':=s.toks) (o:=.lst 'ļ') (λb ob q=>ah _ q) '/' ?_,A5,q _ 'Ş'];show#[aw (zbU xs lo hi) Y,_,0,(r.drop (HT.sIx xs.length 0 lo)).take 'ƚ',']']
def zdt:V->Bool
 | .non=>true
 | .bl _=>true
 | .int _=>true
 | .str _=>true
 | _=>false
def eqV:V->V->Bool
 | .non,.non=>true
 | .bl a,.bl b=>a==b
 | .bl a,.int b=>(if a then 1 else 0)==b
 | .int a,.bl b=>a==(if b then 1 else 0)
 | .int a,.int b=>a==b
 | .str a,.str b=>a==b
 | _,_=>false
def zrt(B:ye y u)(q:ye x v)(I:zdt y=true)(F:zdt x=true):SeqAt.EqAt A s u v (eqV y x):=by
 cases y with
 | non=>
  cases B
  cases x with
  | non=>cases q;show SeqAt.EqAt.same _
  | bl b=>cases q;show SeqAt.EqAt.none_bool b
  | int b=>obtain⟨t,rfl⟩:=q;show SeqAt.EqAt.none_int b t
  | str b=>obtain⟨t,rfl⟩:=q;show SeqAt.EqAt.none_str b t
  | _=>show absurd (show false=true from F) ax
 | bl a=>
  cases B
  cases x with
  | non=>cases q;show SeqAt.EqAt.bool_none a
  | bl b=>cases q;show SeqAt.EqAt.bool_bool a b
  | int b=>obtain⟨t,rfl⟩:=q;show SeqAt.EqAt.bool_int a b t
  | str b=>obtain⟨t,rfl⟩:=q;show SeqAt.EqAt.bool_str a b t
  | _=>show absurd (show false=true from F) ax
 | int a=>
  obtain⟨t',rfl⟩:=B
  cases x with
  | non=>cases q;show SeqAt.EqAt.int_none a t'
  | bl b=>cases q;show SeqAt.EqAt.int_bool a t' b
  | int b=>obtain⟨t,rfl⟩:=q;show SeqAt.EqAt.int_int a t' b t
  | str b=>obtain⟨t,rfl⟩:=q;show SeqAt.EqAt.int_str a t' b t
  | _=>show absurd (show false=true from F) ax
 | str a=>
  obtain⟨t',rfl⟩:=B
  cases x with
  | non=>cases q;show SeqAt.EqAt.str_none a t'
  | bl b=>cases q;show SeqAt.EqAt.str_bool a t' b
  | int b=>obtain⟨t,rfl⟩:=q;show SeqAt.EqAt.str_int a t' b t
  | str b=>obtain⟨t,rfl⟩:=q;show SeqAt.EqAt.str_str a t' b t
  | _=>show absurd (show false=true from F) ax
 | _=>show absurd (show false=true from I) ax
def eqU (x:V)(u:Value):Bool:=match u with
 | .none=>eqV .non x
 | .bool b=>eqV (.bl b) x
 | .int i _=>eqV 'P' x
 | .str z _=>eqV (.str z) x
 | _=>false
def znA(r:ye y u)(f:zdt y=true):eqU x u=eqV y x:=by
 cases y with
 | non=>cases r;rfl
 | bl b=>cases r;rfl
 | int i=>obtain⟨t,rfl⟩:=r;rfl
 | str z=>obtain⟨t,rfl⟩:=r;rfl
 | _=>show absurd (show false=true from f) ax
theorem zfn:∀ {xs:AT} {us:AN},yi xs us->xs.all zdt=true->us.any (eqU x)=xs.any λy=>eqV y x
 | _,_,.nil,_=>rfl
 | y::xs,u::us,.cons r t,f=>by rw[cK,aR] at f;rw[dC,dC,znA r f.1,zfn t f.2]
theorem zdD {A:Ae}{s:AZ}{x:V}{v:Value}(B:ye x v)(F:zdt x=true):∀ {xs:AT} {us:AN},yi xs us->xs.all zdt=true->∀u∈us,SeqAt.EqAt A s u v (eqU x u)
 | _,_,.nil,_=>by grind
 | y::xs,u::us,.cons r t,f=>λI q=>by
  rw[cK,aR] at f;rcases au.mp q with rfl | q;rw[znA r f.1];show zrt r B f.1 F;show zdD B F t f.2 I q
def inV (x:V)(xs:AT):Bool:=xs.any λy=>eqV y x
def rIn (K:AH)(q:Bool):R2:=λx y H Q=>∃p xs,y = .ref p/\(SqL K H p xs\/SqT K H p xs)/\zdt x=true/\xs.all zdt=true/\Q (.bl (if q then !inV x xs else inV x xs)) H
def zeW:OpR X (compareOp .NotIn) (rIn X.K true):=by
 intro A6 s G H x y v u Q I J U h;obtain⟨p,xs,rfl,B,O,fs,q⟩:=h;cases U;rcases B with B | B;obtain⟨its,r,pl,Y⟩:=I.list B;show SeqAt.notIn_listAt (eqU x) pl.isList (λw F=>zdD J O r fs w (by simpa using F)) #[.bl _,H,I,A5,?_];rw[show its.toArray.any (eqU x)=its.any (eqU x) by simp,zfn r fs];show q;obtain⟨its,r,pl,Y⟩:=I.tuple B;show SeqAt.notIn_tupleAt (eqU x) pl (λw F=>zdD J O r fs w (by simpa using F)) #[.bl _,H,I,A5,?_];rw[show its.toArray.any (eqU x)=its.any (eqU x) by simp,zfn r fs];show q
def zdk:zec X (.type "tuple") 'Ș':=by
 intro A6 s G H xs us Q I r h;obtain⟨p,ys,rfl,h⟩:=h;obtain⟨u,rfl,O⟩:=zea r;cases O;rcases h with ⟨hq,q⟩ | ⟨hq,q⟩;obtain⟨its,B,pl,F⟩:=I.list hq;have J:=B.length;show call_tuple_list pl.isList (λh' kp=>?_) '?';have I1:Inv X A6 G H '5':=I.kept (t':=s.toks) kp
 have I2:Inv X A6 G (upd H h'.objs.size (.tup ys)) { s with heap:=h'.push { cls:=.type "tuple",data:=.seq its.toArray } }:=
  I1.laid (t':=s.toks) (λb o e=>ah _ e) '/' (show zJ X.prog X.w _ _ _ (.tup ys) from #[F,its,B,uy.new _ _])
 show#[.ref h'.objs.size,_,I2,A5,q _ 'ī'];obtain⟨its,B,pl,F⟩:=I.tuple hq;show call_tuple_same pl #[.ref p,H,I,A5,q]
def tyV (K:AH)(T:String)(x:V)(H:Hp):Prop:=match x with
 | .str _=>T = "str"
 | .int _=>T = "int"
 | .ref p=>(T = "list" /\ ∃xs,SqL K H p xs)\/(T = "tuple" /\ ∃o,K.lookup p=some o/\o.cls = .type "tuple" /\ o.dict=none)\/
   (T = "dict" /\ ((∃A7,H p=some (.dK A7))\/∃A7,H p=some (.dT A7)))\/(T = "set" /\ ∃S n,H p=some (.set S n))
 | _=>False
def ztC {A6:AB}{G:St}{H:Hp}{s:AZ}{T:String}{x:V}{v:Value}(I:')')(r:ye x v)(ty:tyV X.K T x H) :
  s.TypeIs v T/\∀a,v = .ref a->∃ob,s.heap.get? a=some ob/\ob.dict=none:=by
 cases x with
 | str z=>
  obtain⟨t,rfl⟩:=r;cases (show T = "str" from ty);show#[typeIs_str s z t,λ_ e=>nomatch e]
 | int i=>
  obtain⟨t,rfl⟩:=r;cases (show T = "int" from ty);show#[typeIs_int s i t,λ_ e=>nomatch e]
 | ref p=>
  cases r;rcases ty with ⟨rfl,xs,hq⟩ | ⟨rfl,o,q,hc,B⟩ | ⟨rfl,q⟩ | ⟨rfl,S,n,q⟩;obtain⟨its,_,pl,_⟩:=I.list hq;show#[pl.isList.typeIs,λa e=>?_];cases e;obtain⟨o,n,e,c,B,_⟩:=pl;show#[o,e,B];show#[#[o,I.kIn p o q,hc],λa e=>?_];cases e;show#[o,I.kIn _ o q,B]
  have z:∃o,s.heap.get? p=some o/\o.ExactDict:=by
   rcases q with ⟨A7,q⟩ | ⟨A7,q⟩;obtain⟨_,_,_,_,o,_,_,e,ex,_⟩:=I.hok p _ q;show#[o,e,ex];obtain⟨_,_,_,_,o,_,_,e,ex,_⟩:=I.hok p _ q;show#[o,e,ex]
  obtain⟨o,e,ex⟩:=z;show#[#[o,e,ex.1],λa F=>?_];cases F;show#[o,e,ex.2.1];obtain⟨o,_,_,_,e,ex,_⟩:=I.hok p _ q;show#[#[o,e,ex.1],λa F=>?_];cases F;show#[o,e,ex.2.1]
 | _=>show False.elim ty
def tBM (K:AH)(T:String)(r:V->AT->Hp->VK->Prop)(to:TE)(t:TA):TE:=λG H Q=>to G H λx H1=>tyV K T x H1/\t G H1 λxs H2=>r x xs H2 Q
variable {o e:Expr}{es:AO}{to:TE}{t:TA}{name:Str}{apos cpos:Pos}{T id:String}{r:V->AT->Hp->VK->Prop}
def zsv (pa:PlainAttrs T)(J:Slot T name id)(U:typeOf 'Ï'=pure (.type "method_descriptor"))(hm:MtR X id r)(ho:PE X o to)(ha:PA X '=' t)
  (B:attributeBase o name X.env (eval o X.env)=eval o X.env:=by rfl)
  (O:((backTo cpos (starEach '=' X.env)).all (λx=>!x.1)&&(backToKw cpos 'ź').all (λx=>x.1.isSome)
   && decide ('='.length+'Ɯ'.length+'Ƒ'<30))=true:=by rfl)
  (F:(apos.endLine==cpos.line)=true:=by rfl) (hs:'g':=by rfl) (q:(backTo cpos 'ř').any '%'=false:=by rfl) :
  PE X (.Call (.Attribute o name apos) '=' [] cpos) (tBM X.K T r to t):=by
 intro A6 s G H Q I h;show wpAny_Call_method_late B O F A5 (thn (ho A6 s G H _ I h)  ?_);rintro v s1 ⟨x,H1,I1,Y,ty,q1⟩;obtain⟨h1,h2⟩:=ztC I1 Y ty;show#[T,id,pa,J,U,h1,h2,?_];have Z:=ha cpos A6 s1 G H1 _ I1 q1;rw[hs] at Z ⊢;show Calls.callWith_builtin (by change (false || (backTo cpos 'ř').any '%')=false;rw[q] <;> rfl) (Calls.evalArgs_plain ?_);show thn Z <| by rintro us s2 ⟨vs,H2,I2,r2,q2⟩;show hm A6 s2 G H2 x vs v us Q I2 Y r2 q2
end
def MtM (X:Cx)(id:String)(r:V->AT->Hp->VK->Prop):Prop:=
 ∀ (A6:AB) (s:AZ) (G:St) (H:Hp) (x:V) (xs:AT) (v:Value) (us:AN) (Q:VK),Inv X A6 G H s->ye x v->yi xs us->r x xs H Q->
  Af X (call 'Ï' (v::us)) 'Â' X.xe s
theorem yi.one:∀ {x:V} {us:AN},yi [x] us->∃u,us=[u]/\ye x u
 | _,_,.cons r .nil=>#[_,A5,r]
section
variable {X:Cx}{A6:AB}{G:St}{H:Hp}{s:AZ}{l b:Addr}{xs ys zs:AT}
def Inv.lset{its its':AN}{f:AK->AK}(I:')')(B:H l=some '+')(e:s.heap.get? l=some 'Ƿ')(hf:f its.toArray=its'.toArray)(F:yi ys its')(J:ys.length<=sizeLine) :
  Inv X A6 G (upd H l (.lst ys)) { s with heap:=s.heap.update l (Obj.mapSeq f),toks:=t' }:=by
 have q:=PySem.IsL.update e f;rw[hf] at q;show I.write (x:=l) (e:=l) (by rw[B];show trivial) 'h' (λY u O U=>(cb s.heap (Obj.mapSeq f) (Ne.symm O)).trans U) #[_,q] ?_;show#[J,its',_,F,q]
def Inv.lstM (I:')')(q:Rd H l '+'):xs.length<=sizeLine/\∃ (its:AN) (n:Nat),yi xs its/\xs.length=its.length/\s.heap.get? l=some 'Ƿ':=by obtain⟨z,its,n,r,e⟩:=(show zJ X.prog X.w H s.heap l '+' from q.ok I.hok);show#[z,its,n,r,r.length,e]
def zmk(h:n<=sizeLine):Builtin.List.listTooLong n=false:=by
 unfold Builtin.List.listTooLong;right
def zgd:V->AT->Hp->VK->Prop:=λx vs H Q=>∃l xs y,x = .ref l/\vs=[y]/\H l=some '+'/\xs.length<sizeLine/\Q .non (upd H l (.lst (xs++[y])))
def zeO:MtM X "list.append" zgd:=by intro A6 s G H x vs v us Q I J O h;obtain⟨l,xs,y,rfl,rfl,B,Y,q⟩:=h;cases J;obtain⟨u,rfl,U⟩:=O.one;obtain⟨z,its,n,r,Z,e⟩:=I.lstM (.inl B);show call_meets F.slot_list_append #[_,e,A5] F.entry_list_append (F.args_list_append_2 _ _) (PySem.list_append l its.toArray n u '?') #[e,?_];show#[.non,_,I.lset (its':=its++[u]) B e '$' (r.append (.cons U .nil)) ?_,A5,q];rw[ay,List.length_singleton];lia
def zqj:V->AT->Hp->VK->Prop:=λx vs H Q=>∃l b xs zs,x = .ref l/\vs=[.ref b]/\H l=some '+'/\Rd H b (.lst zs)/\xs.length+zs.length<=sizeLine/\Q .non (upd H l (.lst (xs++zs)))
def zjY:MtM X "list.extend" zqj:=by
 intro A6 s G H x vs v us Q I U Y h;obtain⟨l,b,xs,zs,rfl,rfl,O,Z,hz,q⟩:=h;cases U;obtain⟨u,rfl,ru⟩:=Y.one;cases ru;obtain⟨z,its,n,r,hl,e⟩:=I.lstM (.inl O);obtain⟨z2,B,n2,r2,ab,e2⟩:=I.lstM Z;have hsz:its.toArray.size+B.toArray.size<=sizeLine:=by rw[aV,aV];lia
 have J:¬ (!its.toArray.isEmpty&&Builtin.List.listTooLong (its.toArray.size+B.toArray.size))=true:=by
  rw[zmk hsz,Bool.and_false];grind
 show call_meets F.slot_list_extend #[_,e,A5] F.entry_list_extend (F.args_list_extend_2 _ _)
  (AutoSeq1.list_extend_list_list_0 l its.toArray n b B.toArray n2 J '!' '!') #[e,e2,?_]
 show#[.non,_,I.lset (its':=its++B) O e '$' (r.append r2) ?_,A5,q];right
variable {prog:Aa}{w:Ab}{A:Ae}{E:AA}
end
end L2
namespace Att
open PySem.W PySem.Calls PyProof.Rows
def zbZ:∀ (ns:AG) (vs:AN),WellAll P h vs (ns.map WData.int)->IntsAre vs ns:=by
 intro ns
 induction ns with
 | nil=>
  intro vs w;rw[List.map_nil] at w;cases w;show .nil
 | cons n ns q=>
  intro vs w;rw[List.map_cons] at w
  cases w with
  | cons a b=>
   cases a;show .cons _ _ (q _ b)
def zkO{l:OpenLaw}(hn:l.most=some n){P:Params}{h:Heap}{q:AN}(B:l.row.toRowW.claim.pre args=true)(J:WellAll P h q args) :
  ∃a vs ns,q=[Value.ref a]/\args=[WData.list (ns.map WData.int)]/\h.get? a=some 'Ť'/\IntsAre vs ns/\ns.length<=n:=by
 have O:WShape.hasAll [] args [.list .int]=true:=(pre_splitW B).1;have U:l.pre.holds [] { args:=args }=true:=(pre_splitW B).2;obtain⟨d,r,rfl,h1,h2⟩:=hasAllW_cons O;obtain rfl:=hasAllW_nil h2;obtain⟨xs,rfl,Z⟩:=hasW_list h1;obtain⟨ns,rfl⟩:=items_int Z
 have F:ns.length<=n:=by
  unfold OpenLaw.pre at U
  have Y:(WTm.not (.lt (.lit (.int (n:Int))) (.len (.arg 0)))).holds [] { args:=[.list 'µ'] }=true:=by
   have Y:=(holds_andW U).1;right
  have h5:=condW_of Y (w_not (w_lt w_lit (w_len_list (w_arg A5))));grind
 cases J with
 | cons w1 w2=>
  cases w2
  cases w1 with
  | list ho I=>show#[_,_,ns,A5,A5,ho,zbZ ns _ I,F]
def zki (l:OpenLaw)(args:List WData):l.row.toRowW.claim.post args (.bool true) args=true:=
 postW_of (r:=l.row.toRowW) (X:=(true==true))
  (show WShape.has [] (.bool true) .bool=true by first | rfl | decide | simp[WShape.has,WShape.arms,WShape.armsAll])
  (show (WTm.eq .res (.lit (.bool true))).value [] { args:=args,res:=some (.bool true),after:=args }=some (.bool (true==true)) from w_eq_bool (w_res A5) w_lit) A5
def attach_call{l:OpenLaw}{q:Aa}{F:AM}{XP:(AI)->Heap->Prop}{YP:Ab->Heap->Prop}{d:DefRec}(hn:l.most=some n)(ad:d.params.defaults=[])(U:∀ (w:Ab) (I B:AZ) (mg mb:AI) (fa:Addr) (o:Obj) (pm cd J:Value) (a:Addr) (vs:AN) (ns:AG),
   Ground q F [] XP w I mg mb B.heap->YP w B.heap->
   B.heap.get? fa=some o->o.data = .func (docDef d.name d.params d.body d.scope pm cd J)->B.heap.CodeRec cd d.name->mg d.name=some (.ref fa)->
   B.heap.get? a=some 'Ť'->IntsAre vs ns->ns.length<=n->B.gens = #v[]->
   codeAny (model l.prog w) callerA (.call (.ref fa) #['r',[]]) 'Ǚ' B) :
  WalkO q F XP YP l.row.toRowW d [] (λf vs=>PySem.call f vs):=by
 intro w I B mg mb BA Y fa o pm cd J dV kV ho hd ag hD al hg args a0 as Z a1 a2 an a3;obtain rfl:dV = .none:=Dflts.none hD ad;obtain rfl:kV = .none:=Dflts.noKw hD;obtain⟨a,vs,ns,rfl,rfl,ab,O,ac⟩:=zkO hn Z an;show enter_call (codeAny_mono (U w I B mg mb fa o pm cd J a vs ns BA Y ho (fd_plain hd) ag al ab O ac hg) λr s' hq=>?_);obtain⟨rfl,h2,h3,h4⟩:=hq;show#[.inl #[.bool true,.bool true,[],A5,λ_=>rfl,.bool true,zki l _,λ_=>#[List.Pairwise.nil,λ_ hm=>(nomatch hm)]],h2,h3,h4]
section
variable {prog:Aa}{w:Ab}{A:Ae}{E:AA}{s:AZ}{K:Frag}
def ledger (h:Heap)(L d:Addr):AB:=(List.range h.objs.size).filterMap λa=>if a=L\/a=d then none else (h.get? a).map λo=>(a,o)
end
end Att
namespace L2
open PyProof.Rows
theorem zfg:∀ {vs:AN} {ns:AG},IntsAre vs ns->yi 'K' vs
 | _,_,.nil=>.nil
 | _,_,.cons n t h=>.cons #[t,A5] (zfg h)
def yG (s:Stmt):Arguments:=match s with
 | .FunctionDef _ a _ _ _ _ _ _ _ _=>a
 | _=>{ posonlyargs:=[],args:=[],vararg:=none,kwonlyargs:=[],kw_defaults:=[],kwarg:=none,defaults:=[] }
def zE (s:Stmt):List Stmt:=match s with
 | .FunctionDef _ _ b _ _ _ _ _ _ _=>b
 | _=>[]
def zb (s:Stmt):Scope:=match s with
 | .FunctionDef _ _ _ _ _ _ q _ _ _=>q
 | _=>{ kind:=.function,names:=[],isGenerator:=false,isCoroutine:=false }
abbrev CX0:CXT:=λ_ _ _ _ _ _=>False
abbrev E0:XK:=λ_ _ _=>False
def zss:zgu CX0 X E0:=λ_ _ _ _ _ _ _ h=>h.elim
structure Fun (K:AH)(x qual:Str)(st:Stmt)(f:Addr)(fd:Ac):Prop where
 ex:∃ (oc:Value) (od:Option Addr) (kV doc pm:Value) (an:Option Addr) (cdv ct:Value) (osl:Array AJ),
  fd=PySem.W.fnOf x qual (yG st) (zE st) (zb st) .none kV doc pm an cdv ct/\K.lookup f=some #[oc,od,.func fd,osl]/\PySem.W.codeIn K cdv qual=true
 kp:PySem.W.keepIn K (.ref f)=true
section
variable {P:Aa}{w:Ab}{K:AH}{mg:AI}{base:Heap}
def Fun.ok{x qual:Str}{st:Stmt}{f:Addr}{fd:Ac}{N ps:AM}{sp:Sp}(F:'Ř')(S:'Ķ')(J:'ƣ')(I:∀ (B:Value) (A:Ae) (outer:'[') (s:AZ) (H:Hp) (vs:AT) (Q:VK) (E:XK),Room k (A.deeper (envOfC qual 'e' s.heap.objs.size f B))->sp vs H Q E->
   ∃t,PSs 'Ó'.nox 'y' t/\t { nx:=λ_ H'=>Q .non H',rt:=Q } (yT N vs) H):FnOk P w K mg base CX0 (k+1) f fd ps sp:=by
 obtain⟨oc,od,kV,Y,pm,an,B,ct,Z,rfl,lk,O⟩:=F.ex;show zlG lk O S J λA outer s H vs Q E hr U=>?_;obtain⟨t,h,q⟩:=I B A outer s H vs Q E hr U;show#[t,h.nox,q]
def Fun.binds {x qual:Str}{st:Stmt}{f:Addr}{fd:Ac}{ps:AM}(F:'Ř')
  (h:∀ (kV q I:Value) (J:Option Addr) (B ct:Value) (us:AN),us.length=ps.length->bindArgs (PySem.W.fnOf x qual (yG st) 'y' 'e' .none kV q I J B ct) #[us,[]]=pure (ps.zip us)):zcz K fd ps []:=by
 obtain⟨Y,Z,kV,q,I,J,B,ct,O,rfl,lk,U⟩:=F.ex;show .all (h kV q I J B ct)
def znD{x qual:Str}{st:Stmt}{f:Addr}{U I:Option Addr}{F:Array AJ}{kV B J q ct:Value}(l:K.lookup f=some #[O,U,.func (PySem.W.fnOf x qual (yG st) 'y' 'e' .none kV B J I q ct),F])(c:PySem.W.codeIn K q qual=true)(k:'ǅ'):Fun K x qual st f (PySem.W.fnOf x qual (yG st) 'y' 'e' .none kV B J I q ct):=#[#[O,U,kV,B,J,I,q,ct,F,A5,l,c],k]
end
def zhH(q:Room k A):A.units+1<cLine:=bQ (Nat.add_le_add_left (by decide:1<=64) _) q.units
def ze9(h:n<=1000):n<sizeLine:=bQ h '#'
section
variable {X:Cx}
def pv (i:Nat){x:Str}{pos:Pos}(B:'_':=by rfl)(F:'Ì':=by fail"v")(I:Ah x:=by ext)
  (q:'Å':=by ext):PE X 'u' (zlh i):=zke B F I q
end
def iteF {A B:Prop}(h:B):if false=true then A else B:=by grind
def iteT {A B:Prop}(h:A):if true=true then A else B:=by grind
def ztX {c A B:Prop}[Decidable c](h1:c->A)(h2:¬ c->B):if c then A else B:=by grind
def yL (H H':Hp):Prop:=∀b o,H b=some o->H' b=some o
def yL.seq{K:AH}{H H':Hp}{a:Addr}(e:yL H H')(h:SqL K H a xs):SqL K H' a xs:=by
 rcases h with (h | ⟨o,h⟩) | h;show .inl (.inl (e _ _ h));show .inl (.inr #[o,e _ _ h]);show .inr h
section
variable {κ:Type}[DecidableEq κ]
variable {X:Cx}
def zfs:zec X 'ŏ' 'Ȣ':=by intro A6 s G H xs us Q I r h;obtain⟨x,T,t,b,rfl,ty,e,q⟩:=h;obtain⟨u,c,rfl,B,F⟩:=zk9 r;cases F;show zjm I B ty e λtk=>#[.bl b,H,I.tok tk,A5,q]
def zku (K:AH):R2:=λx y H Q=>∃a b xs ys,x = .ref a/\y = .ref b/\H a=some 'R'/\H b=some (.tup ys)/\xs.length+ys.length<=sizeLine/\
 ∀p H',H' p=some (.tup (xs++ys))->yL H H'->Q 'p' H'
def zpz:OpR X (binaryOp .Add) (zku X.K):=by
 intro A6 s G H x y v u Q I rx ry h;obtain⟨a,b,xs,ys,rfl,rfl,ha,U,hz,q⟩:=h;by_cases hx:xs=[]
 ·subst hx;cases rx;cases ry;obtain⟨its,r1,p1,_⟩:=I.tuple (.of ha);obtain⟨B,r2,p2,_⟩:=I.tuple (.of U);obtain⟨⟨cls,dd,data,sl⟩,ho,hc,n,hd⟩:=id p1;obtain⟨⟨ac,Y,Z,ab⟩,F,J,n2,O⟩:=id p2;simp only at hc hd J O;subst hc hd J O;have hi:its=[]:=r1.nil_iff.mpr A5
  show concat_meets #[_,ho,A5] #[_,F,A5] iw seq_tuple_add fF eV (eR _ _)
   (tuple_addW0 a b its.toArray B.toArray n n2 dd Y sl ab (by simp[hi])) #[ho,F,#[.ref b,H,I,A5,q b H U λ_ _ e=>e]]
 show zpA A6 s G H _ _ v u Q I rx ry #[a,b,xs,ys,A5,A5,.of ha,.of U,hx,hz,λe=>?_,λe p hp=>?_];subst e;show q a H 'I' λ_ _ e=>e;show q p _ zg λc o e=>by rw[zc (ze e hp)];show e
end
end L2
namespace HT
open PyProof.Rows
section
variable {prog:Aa}{w:Ab}{A:Ae}{E:AA}{s:AZ}
def getItem_tuple_whole{lo hi:AQ}(B:IsTup s.heap t q)(hs:s.heap.IsSliceOf I Y Z .none)(pl:IsPart Y lo)(pu:IsPart Z hi)(hw:sIx q.size 0 lo=0/\sIx q.size q.size hi=q.size)(h:Q (.ref t) s)(hsz:q.size<=sizeLine):Ag prog w A (getItem (.ref t) (.ref I)) Q E s:=by
 obtain⟨os,J,O,ab⟩:=id hs;have U:s.TypeIs (.ref I) "slice" := #[os,J,O];unfold getItem;try with_reducible show wpAny_holding ?_
 first | show wpAny_bind 'Ĺ' | skip
 show wpAny_bind (wpAny_sequenceKey B.typeIs '#' ?_)
 show wpAny_bind (wpAny_callSpecial?_slot (name:=Str.ofString "__getitem__") B.typeIs PyProof.Rows.slot_tuple_getitem
  (wpAny_call_entry PyProof.Rows.slot_tuple_getitem B.typeIs entry_tuple_getitem ?_ (args_tuple_getitem _ _)))
 change wpAny _ _ 'Ȁ' _ _ s;show wpAny_bind (tupleItemsOf_ B ?_);show wpAny_bind (wpAny_typeOf U ?_);rw[if_pos '#'];show wpAny_bind (ur hs pl pu ?_);have F:'ƌ'=true:=by right
 change wpAny _ _ (if 'ƌ'=true then _ else _) _ _ s;rw[if_pos F];unfold Builtin.Tuple.tupleIsExact;show wpAny_bind (wpAny_bind (wpAny_typeOf B.typeIs ?_));show wpAny_pure ?_;rw[if_pos '#'];show wpAny_bind (wpAny_rule ?_);show wpAny_pure #[_,A5,wpAny_pure h]
end
end HT
namespace L2
open PyProof.Rows
section
variable {X:Cx}
def rSlA:V->AQ->AQ->Hp->VK->Prop:=λx lo hi H Q=>∃a xs,x = .ref a/\H a=some 'R'/\∀p H',H' p=some (.tup 'ļ')->yL H H'->Q 'p' H'
def zqx:SlR X rSlA:=by
 intro A6 s G H x v Z vu lo hi sl Q I F hs pl J h;obtain⟨a,xs,rfl,O,q⟩:=h;by_cases U:HT.sIx xs.length 0 lo=0/\HT.sIx xs.length xs.length hi=xs.length;cases F;obtain⟨its,r,Y,hz⟩:=I.tuple (.of O);have B:its.toArray.size=xs.length:=by rw[aV];show r.length.symm
 show#["tuple",_,PyProof.Rows.slot_tuple_getitem.lookup,Y.typeIs,?_];show HT.getItem_tuple_whole Y hs pl J (by rw[B];show U) #[.ref a,H,I,A5,q a H ?_ λ_ _ e=>e] (by rw[B];show hz);unfold zcV;grind;show ztp A6 s G H _ v Z vu lo hi sl Q I F hs pl J #[a,xs,A5,.of O,U,λp hp=>q p _ zg λc o e=>by rw[zc (ze e hp)];show e]
inductive Dt where
 | non | bl (b:Bool) | int (i:Int) | str (x:Str) | tup (l:List Dt) | lst (l:List Dt) | dct
abbrev AS:=List Dt
mutual
def Is (H:Hp):Dt->V->Prop
 | .non,v=>v = .non
 | .bl b,v=>v = .bl b
 | .int i,v=>v = .int i
 | .str x,v=>v = .str x
 | .tup l,v=>∃a xs,v = .ref a/\H a=some (.tup xs)/\IsL H l xs
 | .lst l,v=>∃a xs,v = .ref a/\Rd H a (.lst xs)/\IsL H l xs
 | .dct,v=>∃a A7,v = .ref a/\H a=some (.dK A7)/\A7=[]
def IsL (H:Hp):AS->AT->Prop
 | [],xs=>xs=[]
 | d::ds,xs=>∃x r,xs=x::r/\Is H d x/\IsL H ds r
end
def kO (d:Addr)(ob:Obj):HO:=.ext λh=>h.get? d=some ob
open Classical in
@[reducible] noncomputable def pnK:HO->Option (List (Key×V))
 | .dK A7=>some A7
 | .ext q=>if (∃d ob,(∃h:Heap,h.get? d=some ob)/\q=λh=>h.get? d=some ob) then some [(Sum.inr "at",.non)] else none
 | _=>none
def zq (H H':Hp):Prop:=∀b o,H b=some o->(∀A7,pnK o=some A7->zby A7 '±'=none)->H' b=some o
def zq.refl (H:Hp):zq H H:=λ_ _ e _=>e
def zq.trans(a:zq H H1)(b:zq H1 H2):zq H H2:=λc o e n=>b c o (a c o e n) n
def zq.same(a:yL H H1):zq H H1:=λc o e _=>a c o e
def zq.upd(h:H p=none):zq H (upd H p o):=λc u e _=>by rw[zc (ze e h)];show e
def yL.upd(h:H p=none):yL H (upd H p o):=λc u e=>by rw[zc (ze e h)];show e
def zq.tup(a:zq H H1)(h:H p=some 'R'):H1 p=some 'R':=a _ _ h λ_ e=>by cases e
def zq.rdl(a:zq H H1)(h:Rd H p '+'):Rd H1 p '+':=h.imp (λh=>a _ _ h λ_ e=>by cases e) λ⟨o,h⟩=>#[o,a _ _ h λ_ e=>by cases e]
def Rd.same {H H1:Hp}{u:HO}{p:Addr}(h:Rd H p u)(a:yL H H1):Rd H1 p u:=h.imp (a _ _) λ⟨o,h⟩=>#[o,a _ _ h]
def zq.lst(a:zq H H1)(h:H p=some '+'):H1 p=some '+':=a _ _ h λ_ e=>by cases e
mutual
theorem Is.stay {H H1:Hp}(a:zq H H1):∀ {d:Dt} {v:V},Is H d v->Is H1 d v
 | .non,_,h=>h
 | .bl _,_,h=>h
 | .int _,_,h=>h
 | .str _,_,h=>h
 | .tup l,v,h=>by obtain⟨p,xs,e,hp,hl⟩:=h;show#[p,xs,e,a.tup hp,IsL.stay a hl]
 | .lst l,v,h=>by obtain⟨p,xs,e,hp,hl⟩:=h;show#[p,xs,e,a.rdl hp,IsL.stay a hl]
 | .dct,v,h=>by obtain⟨p,A7,e,hp,hl⟩:=h;show#[p,A7,e,a _ _ hp λkvs' e=>by cases e;subst hl;rfl,hl]
theorem IsL.stay {H H1:Hp}(a:zq H H1):∀ {ds:AS} {xs:AT},IsL H ds xs->IsL H1 ds xs
 | [],_,h=>h
 | d::ds,xs,h=>by obtain⟨x,r,e,h1,h2⟩:=h;show#[x,r,e,Is.stay a h1,IsL.stay a h2]
end
theorem IsL.length:∀ {ds:AS} {xs:AT},IsL H ds xs->xs.length=ds.length
 | [],_,h=>by cases h;rfl
 | d::ds,xs,h=>by obtain⟨x,r,rfl,_,h2⟩:=h;rw[aS,aS,IsL.length h2]
theorem IsL.get:∀ {ds:AS} {xs:AT} {i:Nat} {x:V},IsL H ds xs->xs[i]?=some x->∃d,ds[i]?=some d/\Is H d x
 | [],_,_,_,h,e=>by cases h;simp at e
 | d::ds,xs,i,x,h,e=>by
  obtain⟨y,r,rfl,h1,h2⟩:=h
  cases i with
  | zero=>simp at e;subst e;show#[d,A5,h1]
  | succ i=>
   obtain⟨d',q,B⟩:=IsL.get (i:=i) (x:=x) h2 'ĭ';right
theorem IsL.getD:∀ {ds:AS} {xs:AT} {i:Nat} {d:Dt},IsL H ds xs->ds[i]?=some d->∃x,xs[i]?=some x/\Is H d x
 | [],_,_,_,_,e=>by simp at e
 | d::ds,xs,i,x,h,e=>by
  obtain⟨y,r,rfl,h1,h2⟩:=h
  cases i with
  | zero=>simp at e;subst e;show#[y,A5,h1]
  | succ i=>
   obtain⟨d',q,B⟩:=IsL.getD (i:=i) (d:=x) h2 'ĭ';right
theorem IsL.append:∀ {ds es:AS} {xs ys:AT},IsL H ds xs->IsL H es ys->IsL H (ds++es) (xs++ys)
 | [],_,_,_,h,k=>by cases h;show k
 | d::ds,es,xs,ys,h,k=>by obtain⟨y,r,rfl,h1,h2⟩:=h;show#[y,r++ys,A5,h1,IsL.append h2 k]
theorem IsL.take:∀ {ds:AS} {xs:AT} (n:Nat),IsL H ds xs->IsL H (ds.take n) (xs.take n)
 | _,_,0,_=>by simp[IsL]
 | [],_,n+1,h=>by cases h;simp[IsL]
 | d::ds,xs,n+1,h=>by obtain⟨y,r,rfl,h1,h2⟩:=h;show#[y,r.take n,A5,h1,IsL.take n h2]
theorem IsL.drop:∀ {ds:AS} {xs:AT} (n:Nat),IsL H ds xs->IsL H (ds.drop n) (xs.drop n)
 | _,_,0,h=>h
 | [],_,n+1,h=>by cases h;simp[IsL]
 | d::ds,xs,n+1,h=>by obtain⟨y,r,rfl,h1,h2⟩:=h;show IsL.drop n h2
def IsL.one(h:Is H d x):IsL H [d] [x]:=#[x,[],A5,h,A5]
theorem IsL.ints:∀ {ns:AG},IsL H 'µ' 'µ'
 | []=>rfl
 | n::ns=>#[_,_,A5,A5,IsL.ints]
theorem IsL.of_ints:∀ {ns:AG} {xs:AT},IsL H 'µ' xs->xs=ns.map .int
 | [],_,h=>h
 | n::ns,xs,h=>by obtain⟨y,r,rfl,h1,h2⟩:=h;cases h1;rw[IsL.of_ints h2];rfl
def Dt.ty:Dt->String
 | .non => "NoneType" | .bl _ => "bool" | .int _ => "int" | .str _ => "str" | .tup _ => "tuple" | .lst _ => "list" | .dct => "dict"
theorem Is.ty {K:AH}{H:Hp}:∀ {d:Dt} {v:V},Is H d v->TyOf K H v (.type d.ty)
 | .non,_,h=>by cases h;show .non
 | .bl _,_,h=>by cases h;show .bl _
 | .int _,_,h=>by cases h;show .int _
 | .str _,_,h=>by cases h;show .str _
 | .tup l,v,h=>by obtain⟨p,xs,rfl,hp,q⟩:=h;show .tup hp
 | .lst l,v,h=>by obtain⟨p,xs,rfl,hp,q⟩:=h;show hp.elim .lst λ⟨_,hp⟩=>.frz hp
 | .dct,v,h=>by obtain⟨p,xs,rfl,hp,q⟩:=h;show .dK hp
abbrev Dt.isTup:Dt->Bool
 | .tup _=>true | _=>false
abbrev Dt.isLst:Dt->Bool
 | .lst _=>true | _=>false
abbrev Dt.isInt:Dt->Bool
 | .int _=>true | .bl _=>true | _=>false
abbrev Dt.isBl:Dt->Bool
 | .bl _=>true | _=>false
def Dt.isWhole:Dt->Bool
 | .int _=>true | _=>false
def zpc (K:AH)(d:Dt):PySem.W.kitOne K (.type d.ty) (.type "tuple")=some d.isTup:=by cases d <;> rfl
def zpa (K:AH)(d:Dt):PySem.W.kitOne K (.type d.ty) (.type "int")=some d.isInt:=by cases d <;> rfl
def zrT (K:AH)(d:Dt):PySem.W.kitOne K (.type d.ty) (.type "bool")=some d.isBl:=by cases d <;> rfl
end
def zgC (env:Env):List 'Ě'->List 'ï'->List 'ï'
 | [],cs=>cs
 | x::r,cs=>zgC env r (if (x.2==NameKind.free)=true then (x.1,(env.cells.lookup x.1).getD 0)::cs else cs)
def zcU(h:∀x∈scope.names,x.2 = .free->∃c,env.cells.lookup x.1=some c):closureFor scope env=pure (zgC env scope.names []):=by
 have gen:∀ (names:List 'Ě') (cs:List 'ï'),(∀x∈names,x.2 = .free->∃c,env.cells.lookup x.1=some c)->
   (forIn names cs (λx r=>match x with
    | (name,kind)=>if (kind==NameKind.free)=true then do let a <- cellOf env name;pure (ForInStep.yield ((name,a)::r)) else pure 'Ś'):Sem (List 'ï'))=pure (zgC env names cs):=by
  intro names
  induction names with
  | nil=>intro cs _;rfl
  | cons x r ih=>
   intro cs hh;obtain⟨n,k⟩:=x;rw[gD];by_cases hk:(k==NameKind.free)=true;obtain⟨c,hc⟩:=hh (n,k) aq (cG hk);have hc':env.cells.lookup n=some c:=hc;have e:cellOf env n=pure c:=by unfold cellOf;rw[hc']
   simp only[hk,if_true,e,pure_bind];rw[ih _ λy hy=>hh y (ak _ hy)];change pure _=pure (zgC env r (if (k==NameKind.free)=true then (n,(env.cells.lookup n).getD 0)::cs else cs));right;simp only[hk,pure_bind];have e2:zgC env ((n,k)::r) cs=zgC env r cs:=by change zgC env r (if (k==NameKind.free)=true then _ else cs)=_;rw[if_neg hk]
   right
 unfold closureFor;have:=gen scope.names [] h;simpa using this
theorem zak:∀ {names:List 'Ě'} {cs:List 'ï'} {x:Str} {c:Addr},(∀y∈names,y.2 = .free->∃c,env.cells.lookup y.1=some c)->(zgC env names cs).lookup x=some c->env.cells.lookup x=some c\/cs.lookup x=some c
 | [],_,_,_,_,h=>.inr h
 | (n,k)::r,cs,x,c,B,h=>by
  have q:=zak (names:=r) (x:=x) (c:=c) (λy F=>B y (ak _ F)) h;rcases q with q | q;show .inl q;by_cases I:(k==NameKind.free)=true;obtain⟨J,O⟩:=B (n,k) aq (cG I);grind;right
theorem zcS:∀ {names:List 'Ě'} {cs:List 'ï'} {x:Str},(∃c,cs.lookup x=some c)->∃c,(zgC env names cs).lookup x=some c
 | [],_,_,h=>h
 | (n,k)::r,cs,x,h=>by
  show zcS (names:=r) ?_;grind
theorem uQ:∀ {names:List 'Ě'} {cs:List 'ï'} {x:Str},names.lookup x=some .free->∃c,(zgC env names cs).lookup x=some c
 | [],_,_,h=>by simp at h
 | (n,k)::r,cs,x,h=>by
  rw[List.lookup_cons] at h
  cases e:x==n with
  | true=>
   rw[e] at h;have h':some k=some NameKind.free:=h;cases h';show zcS (names:=r) ?_;right
  | false=>
   rw[e] at h;show uQ (names:=r) h
theorem yA {env:Env}:∀ {names:List 'Ě'} {x:Str} {k:NameKind},(∀y∈names,y.2≠.cell)->
  (names.map λ(n,k)=>if 'ǝ' then (n,NameKind.cell) else (n,k)).lookup x=some k->(k = .cell\/k = .free)->names.lookup x=some .free
 | [],_,_,_,h,_=>by simp at h
 | (n,k)::r,x,q,B,h,I=>by
  have J:=@yA env r x q (λy F=>B y (ak _ F));grind
theorem xw {env:Env}:∀ {names:List 'Ě'} {x:Str},names.lookup x=some .free->
  (names.map λ(n,k)=>if 'ǝ' then (n,NameKind.cell) else (n,k)).lookup x=some .cell\/
  (names.map λ(n,k)=>if 'ǝ' then (n,NameKind.cell) else (n,k)).lookup x=some .free
 | [],_,h=>by simp at h
 | (n,k)::r,x,h=>by
  have q:=@xw env r x;grind
def zk (X:Cx)(scope:Scope)(N:AM)(C:Addr)(s:AZ)(H:Hp)(ex:AY):Cx where
 prog:=X.prog
 w:=X.w
 K:=X.K
 mg:=X.mg
 base:=X.base
 A:=X.A
 N:=N
 s₀:=s
 H₀:=H
 env:=compEnvC scope (zgC X.env scope.names []) C X.env
 outer:=X.stack
 stack:=X.stack
 ex:=ex
 fn:=λ_=>false
 calm:=X.calm
 pn:=[]
 xe:=λ_ _=>False
def caps (XN:AM)(Xnames names:List 'Ě')(N:AM)(A8:List '0'):Bool:=
 N.length==A8.length&&(names.all λy=>y.2 != .cell)&&((N.zip A8).all λp=>match p.2 with
  | none=>true
  | some i=>XN[i]?==some p.1&&names.lookup p.1==some .free&&(Xnames.lookup p.1==some .cell || Xnames.lookup p.1==some .free)) &&
 (names.all λy=>y.2 != .free || (Xnames.lookup y.1==some .cell || Xnames.lookup y.1==some .free))
def xy (G:St)(A8:List '0'):St:=A8.map λo=>match o with
 | none=>none
 | some i=>(G[i]?).join
structure CompOk (X:Cx)(scope:Scope)(N:AM)(A8:List (Option Nat)):Prop where
 kind:scope.kind = .function
 names:∀x∈scope.names,x.2 = .local->scope.names.lookup x.1=some .local
 caps:caps X.N X.env.scope.names scope.names N A8=true
section
variable {X:Cx}{A6:AB}{G:St}{H:Hp}{s:AZ}{scope:Scope}{N:AM}{A8:List (Option Nat)}
def CompOk.cell (c:'k'):∀y∈scope.names,y.2≠.cell:=λy q e=>by
 have h:=c.caps;unfold L2.caps at h;rw[aR,aR,aR] at h;have:=cj.mp h.1.1.2 y q;right
def CompOk.len (c:'k'):N.length=A8.length:=by
 have h:=c.caps;unfold L2.caps at h;right
def CompOk.cells (c:'k')(B:X.Ok):∀x∈scope.names,x.2 = .free->∃a,X.env.cells.lookup x.1=some a:=λx F e=>by
 have h:=c.caps;unfold L2.caps at h;rw[aR] at h;have q:=cj.mp h.2 x F;rw[e] at q;have I:(X.env.scope.names.lookup x.1==some NameKind.cell || X.env.scope.names.lookup x.1==some NameKind.free)=true:=by simpa using q
 rcases Bool.or_eq_true_iff.mp I with q | q;show B.has _ (.inl (cG q));show B.has _ (.inr (cG q))
def CompOk.cap (c:'k'){j i:Nat}{x:Str}(h1:N[j]?=some x)(h2:A8[j]?=some (some i)):X.N[i]?=some x/\scope.names.lookup x=some .free/\(X.env.scope.names.lookup x=some .cell\/X.env.scope.names.lookup x=some .free):=by
 have h:=c.caps;unfold L2.caps at h;rw[aR,aR] at h;have B:(x,some i)∈N.zip A8:=by show aB (i:=j) ?_;rw[List.getElem?_zip_eq_some];show#[h1,h2]
 have q:=cj.mp h.1.2 _ B;grind
def zlO {fp:AY}{h':Heap}{tk:Nat}{m:AI}(I:')')(c:'k')(hf:∀b∈fp,zfl X A6 H b)(ab:∀b∈fp,b<s.heap.objs.size)
  (hn:h'.Ns s.heap.objs.size m) (Z:∀b o,s.heap.get? b=some o->h'.get? b=some o) :
  Inv (zk X scope N s.heap.objs.size s H fp) [] '<' H 'ǌ':=by
 have ac:=c.cells I.ok
 have B:∀x a,(zgC X.env scope.names []).lookup x=some a->X.env.cells.lookup x=some a:=λx a e=>by
  rcases zak ac e with z | z;show z;simp at z
 show#[#[I.mod,c.kind,I.ok.glob,I.ok.blt,aj _,λx y a e1 e2=>I.ok.inj x y a (B x a e1) (B y a e2),λx hx=>?_,λx a z _=>absurd (show (false:Bool)=true from z) '#',I.ok.hd,I.ok.frames,.inl A5,
  λb J=>#[aY (ab b J),λx a e=>(hf b J).2.2.2.2.1 x a (B x a e)],I.bs,aw I.ok.bsz I.sz,λb o e J=>?_,λb J z=>?_,I.stack,I.stkFree],
  I.os ▸ A5,I.bare,Un.kept Z,#[m,hn,λj x v h1 h2 h3=>?_],λx a e=>?_,I.hok.fresh '/',λx a e=>I.freeC x a (B x a e),λp hp=>absurd (show p∈([]:AB) from hp) '$',I.hok.kept Z,?_]
 have ad:((relabel scope X.env).names.lookup x=some .cell\/(relabel scope X.env).names.lookup x=some .free):=hx;rcases ad with z | z;show uQ (yA c.cell z 'h');show uQ (yA c.cell z 'F');rcases (hf b J).2.2.2.1 with z | z;show I.ok.noex b o e z;show absurd (aU (av e) (aw I.ok.bsz z)) (cJ _);rcases au.mp (I.stkSub b z) with e | e;show (hf b J).2.1 e;show (hf b J).2.2.1 e;have ag:N[j]?=some x:=h1;unfold xy at h2;rw[aF] at h2
 cases e:A8[j]? with
 | none=>rw[e] at h2;cases h2
 | some o=>
  rw[e] at h2
  cases o with
  | none=>cases h2
  | some i=>
   have F:(G[i]?).join=some v:=bK h2
   have U:G[i]?=some '¬':=by
    cases q:G[i]? with
    | none=>rw[q] at F;cases F
    | some z=>rw[q] at F;have:z=some v:=F;rw[this]
   obtain⟨q1,q2,q3⟩:=c.cap ag e;obtain⟨m0,an,al⟩:=I.loc;obtain⟨u,ru,hu⟩:=al i x v q1 U (q3.elim (λz=>.inr (.inl z)) λz=>.inr (.inr z));show#[u,ru,.inr #[xw q2,?_]];rcases hu with ⟨z,_⟩ | ⟨_,a,ha,hcell⟩;have z':X.env.scope.names.lookup x=some .local:=z;right;obtain⟨a',Y⟩:=uQ (env:=X.env) (cs:=[]) q2;have:a'=a:=by have:=(B x a' Y).symm.trans ha;show bK this
   subst this;obtain⟨oc,O,hd⟩:=hcell;show#[a',Y,oc,Z _ _ O,hd]
 obtain⟨v,oc,O,hd⟩:=I.cell x a (B x a e);show#[v,oc,Z _ _ O,hd];change '<'.length=N.length;unfold xy;rw[ae,c.len]
def zfL(x:'»')(B:H a=none)(hs:Heap.SameBut a h h'):HOk P w H h':=λb o e=>by
 show (x b o e).stay (λc u F q=>(hs.2 c ?_).trans q) (λ_ q=>q) λ_ _ q=>q;grind
def zhJ{U:St}{H':Hp}{s':AZ}(I:')')(hf:∀b∈O,zfl X A6 H b)(I':Inv (zk X scope N s.heap.objs.size s H O) [] U H' s')(hs:Heap.SameBut s.heap.objs.size s'.heap F) :
  Inv X A6 G H' { s' with heap:=F }:=by
 have Y:∀b o,s.heap.get? b=some o->b≠s.heap.objs.size:=λb o e=>aY (av e);have u:=I'.base;show Inv.call' (ch:=O) I I'.os #[λb o e n B J=>?_,λb o e n B J=>?_,u.free,λb o e J=>?_,u.tups,u.frzs,u.tbls] (zfL I'.hok I'.free hs) I'.bare λb B=>#[(hf b B).2.2.2.1,(hf b B).2.1,(hf b B).2.2.2.2.1,(hf b B).2.2.2.2.2];show (hs.2 b (Y b o e)).trans (u.keep b o e n B J);obtain⟨Z,q⟩:=u.slot b o e n B J;show#[Z,(hs.2 b (Y b o e)).trans q];obtain⟨o',q⟩:=u.there b o e J;show#[o',(hs.2 b (Y b o e)).trans q]
variable {prog:Aa}{w:Ab}{A:Ae}{R:Result->AZ->Prop}
def zdm(I:'Ą')(turn:∀n s,I n s->Ag prog w A (pyNext it) (λr s₁=>match r with
   | none=>R '©' s₁
   | some v=>Ag prog w A 'ŭ' (λ_ s₂=>Ag prog w A 'ſ' (λ_ s₃=>
     Ag prog w A 'Ŀ' (λok s₄=>
      if ok=true then Ag prog w A (eval elt env) (λx s₅=>
       Ag prog w A (call 'Ĥ' [acc,x]) 'ǆ' '&' s₅) '&' s₄
      else ∃m,m<n/\I m s₄) '&' s₃) '&' s₂) '&' s₁) '&' s)(n:Nat)(h:I n s) :
  codeAny '2' A (.compLoop (.ListComp elt ['ĉ'] scope pos) 0 it acc env) R s:=by
 show dZ A5 I 'ě' n h;change wpAny _ A ((compTurn (.ListComp elt ['ĉ'] scope pos) 0 it acc env).onRaise 'ċ') _ _ s;show eL ?_;rw[compTurn_list];show aa 'Ĉ'
 cases r with
 | none=>show af h₁
 | some v=>
  show aa 'Ċ';show aa 'ć'
  cases ok with
  | false=>show af #[A5,h₄]
  | true=>
   show aa 'ǔ'
end
def PTs (X:Cx)(ifs:AO)(t:TT):Prop:=
 ∀ (A6:AB) (s:AZ) (G:St) (H:Hp) (Q:Bool->Hp->Prop),Inv X A6 G H s->t G H Q->
  Af X (forIn ifs true λc r=>if r=true then do let ok <- isTrue c X.env (eval c X.env);pure 'Ɔ' else pure 'Ś') (TP X A6 G Q) X.xe s
def zbc:TT:=λ_ H Q=>Q true H
def zp0:PTs X [] zbc:=λA6 s G H Q I h=>wpAny_tests_nil #[H,I,h]
def zp1(h:PT X c t):PTs X [c] t:=λA6 s G H Q I q=>wpAny_tests_one (h A6 s G H Q I q)
def zvU (wi:TI)(g:TG)(ti:TT)(te:TE)(A8:List '0'):TE:=λG H Q=>wi G H λJ H1=>∀acc,H1 acc=none->∃W:Nat->Nat->St->Hp->Prop,(∃m,W 0 m '<' 'Ő')/\
 ∀i m B H',W i m B H'->'Ÿ'\/(J.go i H'/\∃N:St->Hp->Prop,(∀ F H2,N F H2->∃I,I<m/\W '(' I F H2)/\
  ∀x H2,J.yld i H' x H2->g x B H2 λq H3=>ti q H3 λO H4=>if O=true then te q H4 λv H5=>∃xs,H5 acc=some '+'/\xs.length<sizeLine/\N q (upd H5 acc 'ȅ') else N q H4)
def ziw (g:TG)(ti:TT)(te:TE)(acc:Addr)(N:'Ø')(x:V)(G:St)(H:Hp):Prop:=
 g x G H λq H3=>ti q H3 λB H4=>if B=true then te q H4 λv H5=>∃xs,H5 acc=some '+'/\xs.length<sizeLine/\N q (upd H5 acc 'ȅ') else N q H4
def zih (M:Model)(A:Ae)(e:Expr)(k:Nat)(tg:Expr)(ifs:AO)(it acc:Value)(env:Env)(B:(AZ->Prop)->AZ->Prop):Prop:=
 ∀ (R:Result->AZ->Prop) (s:AZ) (I:'Ą'),(∀n s,I n s->wpAny M A (pyNext it) (λr s₁=>match r with
   | none=>R '©' s₁
   | some v=>wpAny M A (letOwnedTupleGo tg it v) (λ_ s₂=>wpAny M A (assign tg env v) (λ_ s₃=>
     wpAny M A 'Ŀ' (λok s₄=>
      if ok=true then B (λs'=>∃m,m<n/\I m s') s₄ else ∃m,m<n/\I m s₄) '&' s₃) '&' s₂) '&' s₁) '&' s)->
  ∀n,I n s->codeAny M A (.compLoop e k it acc env) R s
def zb4{X:Cx}{ifs:AO}{it acc:Addr}{I:AY}{tn:Nat->Heap->Prop}{J:It}{g:TG}{ti:TT}{tb:'ľ'->St->Hp->Prop}{B:(AZ->Prop)->AZ->Prop}{pl:AB}{Fin:St->Hp->Prop}{R:Result->AZ->Prop}{W:Nat->Nat->St->Hp->Prop}{σ0:St}{H0:Hp}{s0:AZ}(L:zih 'N' X.A e k tg ifs 'X' 'H' X.env B)(hc:'D')(xX:X.xe=λ_ _=>False)(T:Turn X.prog X.w X.K tg J I it tn)(f4:∀ {H':Hp},(∀b∈I,H' b=none)->∀b∈I,zfl X pl H' b)(hg:PG X tg g)(ht:PTs X ifs ti)(O:∀pl' s G H (Nx:'Ø') (P:AZ->Prop),Inv X (pl++pl') G H s->tb Nx G H->(∀ q H' s',Inv X (pl++pl') q H' s'->Nx q H'->P s')->B P s)(Z:∀i n G H,W i n G H->(J.stop i H/\Fin G H)\/(J.go i H/\∃Nx:St->Hp->Prop,(∀ q H',Nx q H'->∃m,m<n/\W '(' m q H')/\∀x H',J.yld i H x H'->g x G H' λU H2=>ti U H2 λb H3=>if b=true then tb Nx U H3 else Nx U H3))(fin:∀ G H s,Inv X pl G H s->Fin G H->R '©' s)(I0:Inv X pl σ0 H0 s0)(al:tn 0 s0.heap)(fr0:∀b∈I,H0 b=none)(w0:W 0 m0 σ0 H0) :
  codeAny 'N' X.A (.compLoop e k 'X' 'H' X.env) R s0:=by
 show L R s0 (λn s'=>∃i q H',Inv X pl q H' s'/\tn i s'.heap/\(∀b∈I,H' b=none)/\W i n q H') ?_ m0 #[0,σ0,H0,I0,al,fr0,w0];rintro n s5 ⟨i,F,H5,I5,ab,ac,w5⟩;rcases Z i n F H5 w5 with ⟨stop,qn⟩ | ⟨go,Nx,hN,step⟩
 ·show thn (T.done X A5 A5 A5 hc i pl s5 F H5 '&' I5 (f4 ac) ab stop) ?_;rintro r s6 ⟨hr,I6⟩;subst hr;show fin F H5 s6 I6 qn
 show thn (T.item X A5 A5 A5 hc i pl s5 F H5 '&' I5 (f4 ac) ab go) ?_;rintro r s6 ⟨u,hr,h6⟩;subst hr;show thn h6 ?_;rintro _ s7 ⟨x,H7,I7,r7,y7,Y,an⟩;have I7':=I7.pinned (f4 an) (T.obj _ _ Y);have a7:=hg _ s7 F H7 x u _ I7' r7 (step x H7 y7);rw[xX] at a7;show thn a7 ?_;rintro _ s8 ⟨ad,H8,I8,q8⟩;have t8:=ht _ s8 ad H8 _ I8 q8;rw[xX] at t8;show thn t8 ?_;rintro ok s9 ⟨H9,I9,q9⟩
 have ag:∀ q H' s',Inv X (pl++ze0 I s7.heap) q H' s'->Nx q H'->∃m,m<n/\∃i q H',Inv X pl q H' s'/\tn i s'.heap/\(∀b∈I,H' b=none)/\W i m q H':=λq H' s' J' n'=>by
  obtain⟨m',hm,w'⟩:=hN q H' n'
  have pn:∀b∈I,∀o,s7.heap.get? b=some o->s'.heap.get? b=some o/\H' b=none:=λb O o e=>by
   have:=J'.pin (b,o) (a8 _ (a8 _ (za7 O e)));right
  show#[m',hm,i+1,q,H',J'.unpinned,T.keep _ _ _ Y λb O o e=>(pn b O o e).1,λb O=>?_,w'];obtain⟨o,e,_⟩:=T.obj _ _ Y b O;right
 cases ok with
 | false=>show ag _ _ _ I9 q9
 | true=>show O _ s9 ad H9 _ _ I9 q9 ag
structure Inn (X X':Cx)(A6:AB)(G:St)(fp:AY)(C:Addr):Prop where
 pX:X'.prog=X.prog
 wX:X'.w=X.w
 KX:X'.K=X.K
 AX:X'.A=X.A
 cX:X'.calm=X.calm
 xX:X'.xe=λ_ _=>False
 lX:X'.env.locals=C
 f4:∀ {H':Hp},(∀b∈fp,H' b=none)->∀b∈fp,zfl X' [] H' b
 back:∀ {σ':St} {H':Hp} {s':AZ} {h'':Heap},Inv X' [] σ' H' s'->Heap.SameBut C s'.heap h''->Inv X A6 G H' { s' with heap:=h'' }
structure Opn (X:Cx)(scope:Scope)(A8:List (Option Nat))(Fam:Cx->Prop):Prop where
 kind:scope.kind = .function
 names:∀x∈scope.names,x.2 = .local->scope.names.lookup x.1=some .local
 cells:X.Ok->∀x∈scope.names,x.2 = .free->∃a,X.env.cells.lookup x.1=some a
 run:∀ (A6:AB) (G:St) (H3:Hp) (s3:AZ) (fp:AY) (Q:Env->AZ->Prop),Inv X A6 G H3 s3->(∀b∈fp,zfl X A6 H3 b)->(∀b∈fp,b<s3.heap.objs.size)->
  (∀X' cenv s4,Fam X'->Inn X X' A6 G fp s3.heap.objs.size->cenv.locals=s3.heap.objs.size->X'.env={ cenv with scope:=relabel scope X.env }->Inv X' [] (xy G A8) H3 s4->(∀b o,s3.heap.get? b=some o->s4.heap.get? b=some o)->Q cenv s4)->
  Af X (newFunctionEnv scope X.env.globals (zgC X.env scope.names []) [] X.env.qual none .none (some X.env)) Q X.xe s3
def uD{X:Cx}{Fam:Cx->Prop}{scope:Scope}{A8:List '0'}{use:Option (Value->Sem Unit)}{Qp:AA}{ifs:AO}{pos:Pos}{U:Sem Value}{o0:Addr->HO}{B:Cx->Addr->(AZ->Prop)->AZ->Prop}{tb:Addr->'ľ'->St->Hp->Prop}{Fin:Addr->Hp->Prop}{wi:TI}{g:TG}{ti:TT}{Kk:It->Hp->Prop}{A6:AB}{G:St}{H:Hp}{s:AZ}(O:'ŝ')(hc:'D')(a5:clausesOf e='È'::gs)(hs:'w')(a7:∀ (R:Result->AZ->Prop) (s:AZ) (it acc:Value) (env:Env),codeAny 'N' X.A (.compLoop e 0 it acc env) R s->Af X (pyIter it) (λbb s'=>codeAny 'N' X.A (.compLoop e 0 bb acc env) R s') (notedBy 'N' X.A env λx s'=>R (.error x) s') s->codeAny 'N' X.A (.compStart e 0 it acc env) R s)(hL:∀X',Fam X'->∀it acc,zih 'c' X'.A e 0 tg ifs it 'H' X'.env (B X' acc))(al:∀ (s:AZ) (Q:AA),Q '°' { s with heap:=s.heap.push ob }->Af X U Q X.xe s)(bc:∀ {A6 G H s},Inv X A6 G H s->∀H',zJ X.prog X.w H' (s.heap.push ob) s.heap.objs.size (o0 s.heap.objs.size))(hi:'Ļ')(hg:'ŷ')(ht:'Ű')(Y:∀X',Fam X'->X'.prog=X.prog->X'.w=X.w->X'.A=X.A->X'.calm=true->X'.xe='&'->∀acc pl s G H (Nx:'Ø') (P:AZ->Prop),Inv X' pl G H s->tb acc Nx G H->(∀ Z H' s',Inv X' pl Z H' s'->Nx Z H'->P s')->B X' acc P s)(I:')')(h:wi G H Kk)(hK:∀J H1 acc,Kk J H1->H1 acc=none->∃W:Nat->Nat->St->Hp->Prop,(∃m,W 0 m '<' (upd H1 acc (o0 acc)))/\∀i n G H,W i n G H->(J.stop i H/\Fin acc H)\/(J.go i H/\∃Nx:St->Hp->Prop,(∀ Z H',Nx Z H'->∃m,m<n/\W '(' m Z H')/\∀x H',J.yld i H x H'->g x G H' λac H2=>ti ac H2 λb H3=>if b=true then tb acc Nx ac H3 else Nx ac H3))(an:∀acc C H5 s6,zfl X A6 H5 C->(∃m,s6.heap.Ns C m)->(∀ad,Heap.SameBut C s6.heap ad->Inv X A6 G H5 { s6 with heap:=ad })->Fin acc H5->compPost 'N' X.A X.xe use Qp 'H' C '©' s6) :
  Af X (comprehension e scope X.env pos U false 'ı' use) Qp X.xe s:=by
 show wpAny_comprehension_free (use:=use) a5 hs (zcU (O.cells I.ok)) O.kind O.names (thn (hi A6 s G H _ I h) λxv s1 h1=>thn h1 λbl F h2=>?_);obtain⟨it,fp,tn,J,H2,e,I2,T,as,f2,q2⟩:=h2;subst e;show al F _ ?_;have ag:=I2.hok.fresh (aj F.heap.objs.size);obtain⟨W,⟨m0,w0⟩,a0⟩:=hK J H2 F.heap.objs.size q2 ag;have a1:∀b o,F.heap.get? b=some o->(F.heap.push ob).get? b=some o:=λb u e=>ah _ e;have I3:Inv X A6 G (upd H2 F.heap.objs.size (o0 F.heap.objs.size)) { F with heap:=F.heap.push ob,toks:=F.toks }:=I2.laid (t':=F.toks) a1 '/' (bc I2 _);have a2:∀b∈fp,b<F.heap.objs.size:=λb Y=>by obtain⟨o,ho,_⟩:=T.obj _ _ as b Y;show av ho
 have fn:∀b∈fp,upd H2 F.heap.objs.size (o0 F.heap.objs.size) b=none:=λb Y=>by rw[zc (aY (a2 b Y))];show (f2 b Y).1
 show O.run A6 G _ _ fp _ I3 (λb Y=>#[fn b Y,(f2 b Y).2]) (λb Y=>Nat.lt_trans (a2 b Y) '$') λX' bk s4 hF N hl hE I4 kp=>?_;rw[<- hE,hl];have a3:tn 0 s4.heap:=T.keep _ _ _ as λb Y o e=>kp b o (a1 b o e);have cX:=N.cX.trans hc;have ab:=zb4 (X:=X') (R:=compPost 'N' X.A X.xe use Qp (.ref F.heap.objs.size) (F.heap.push ob).objs.size) (Fin:=λ_ H=>Fin F.heap.objs.size H) (pl:=[]) (hL X' hF 'X' F.heap.objs.size) cX N.xX (by rw[N.pX,N.wX,N.KX];show T) N.f4 (hg X' hF) (ht X' hF) (Y X' hF N.pX N.wX N.AX cX N.xX F.heap.objs.size) a0 (λbm H5 s6 I6 q=>?_) I4 a3 fn w0;rw[N.pX,N.wX,N.AX] at ab;show a7 _ _ _ _ _ ab (T.self X.A 0 _ _ _ a3 ab);have bd:H5 (F.heap.push ob).objs.size=none:=by have:=I6.free;rwa[N.lX] at this
 obtain⟨m6,a4,_⟩:=I6.loc;rw[N.lX] at a4;show an _ _ H5 s6 (I3.fpOk '/' bd) #[m6,a4] (λad hs=>N.back I6 hs) q
section
variable {X:Cx}{scope:Scope}{N:AM}{A8:List (Option Nat)}{z:Str}
def uL (c:'k'):Opn X scope A8 (λX'=>∃C s H ex,X'=zk X scope N C s H ex) where
 kind:=c.kind
 names:=c.names
 cells:=c.cells
 run:=λA6 G H3 O U Q I3 f3 B k=>by
  show wpAny_newFunctionEnv c.cell '$' (λY F J=>?_) c.kind;have kp:∀b o,O.heap.get? b=some o->Y.get? b=some o:=λb o e=>J.extBut b o (aY (av e)) (ah _ e);show k (zk X scope N O.heap.objs.size O H3 U) _ _ #[_,_,_,_,A5] #[A5,A5,A5,A5,A5,A5,A5,λ{H'} Z b q=>#[Z b q,aY (B b q),λy=>?_,.inl q,λx a e=>?_,λp hp=>?_],λI' hs=>zhJ I3 f3 I' hs] A5 A5 (zlO I3 c f3 B F kp) kp;rcases au.mp (I3.stkSub b y) with e | e;show (f3 b q).2.1 e;show (f3 b q).2.2.1 e;rcases zak (c.cells I3.ok) e with y | y;show (f3 b q).2.2.2.2.1 x a y;simp at y;show absurd (show p∈([]:AB)++[] from hp) '$'
def zdr {A6:AB}{G:St}{Q:VK}{acc C:Addr}{H5:Hp}{F:AZ}(J:∃m,F.heap.Ns C m)(O:∀B,Heap.SameBut C F.heap B->Inv X A6 G H5 { F with heap:=B })(q:Q 'H' H5):compPost 'N' X.A X.xe none 'Â' 'H' C '©' F:=
 let ⟨m,hn⟩:=J;#[m,hn,λU I=>#[.ref acc,H5,O U I,A5,q]]
def zgA{pos spos px:Pos}{nx:Str}{B first:Sem Value}{BB:Ends}{A6:AB}{G:St}{s:AZ}(Y:'«')(Z:X.N[ix]?=some nx)(J:'Ʈ')(ab:swapsWithSole 'ì' e spos.line X.env=pure true)(ac:'Ɛ')(ad:∀U,evalThenUse e X.env U=comprehension e scope X.env pos B false first (some U) >>= λ_=>pure ())(h:∀ (U:Value->Sem Unit) (Qp:AA),(∀acc C H5 I,zfl X A6 H5 C->(∃m,I.heap.Ns C m)->(∀O,Heap.SameBut C I.heap O->Inv X A6 G H5 { I with heap:=O })->BB.nx (G.set ix 'Û') H5->compPost 'N' X.A X.xe (some U) Qp 'H' C '©' I)->Af X (comprehension e scope X.env pos B false first (some U)) Qp X.xe s) :
  Af X (exec (.Assign 'ì' e spos) X.env) (SP X A6 BB) X.xe s:=by
 rw[exec_Assign_arm];show aa (bv ?_);rw[ab];show aa '3';rw[if_pos rfl];show aa ?_;rw[ad];show aa ?_;show h _ _ λacc C H5 I F hm ag q=>?_;have IX:=ag _ #[A5,λ_ _=>rfl];change wpAny _ _ (assignAll _ ((assignEach 'ì' X.env).map 'Ã')) _ _ I;rw[ac];show wpAny_assign_Name (x:=nx) (pos:=px) ?_;show zfb IX Y Z (Or.inl J) (v:=.ref acc) A5 (λs7 I7 ⟨a7,al,an⟩=>?_) (.inr J)
 have as:C≠a7:=by
  intro z;rcases an with e | e;show F.2.1 (z.trans e);show F.2.2.2.2.1 nx a7 e z.symm
 obtain⟨m6,oC,a0,a1,a2,rC⟩:=hm;show#[m6,#[oC,a0,a1,(al.2 _ as).trans a2,rC],λh8 a3=>af '3'];show#[_,H5,I7.turned (t':=s7.toks) (λb o hb e=>(a3.2 b hb).trans e) F.1 F.2.1 F.2.2.2.1 F.2.2.2.2.1 F.2.2.2.2.2,q]
variable {Fam:Cx->Prop}{use:Option (Value->Sem Unit)}{Qp:AA}{elt tg iter:Expr}{ifs:AO}{pos ipos spos px:Pos}{wi:TI}{g:TG}{ti:TT}{te:TE}{A6:AB}{G:St}{H:Hp}{s:AZ}{Fin:Addr->Hp->Prop}
def zdi {P:AZ->Prop}{acc:Addr}{Nx:St->Hp->Prop}(he:PE X elt te)(xX:X.xe=λ_ _=>False)(I:')')(q:te G H λv H'=>∃xs,H' acc=some '+'/\xs.length<sizeLine/\Nx G 'Ǉ')(k:∀ B H' s',Inv X A6 B H' s'->Nx B H'->P s') :
  Af X (eval elt X.env) (λx s5=>Af X (call 'Ĥ' [.ref acc,x]) (λ_ s6=>P s6) '&' s5) '&' s:=by
 have e9:=he A6 s G H _ I q;rw[xX] at e9;show thn e9 ?_;rintro u2 J ⟨v,H10,I10,O,xs,U,Y,nx⟩;have F:=zeO (X:=X) _ J G H10 'H' [v] 'H' [u2] (λ_ H'=>Nx G H') I10 A5 (.cons O .nil) #[_,xs,v,A5,A5,U,Y,nx];rw[xX] at F;show thn F (by rintro _ ab ⟨_,H11,I11,_,Z⟩;show k _ _ _ I11 Z)
def zjN (O:'ŝ')(hc:'D')(hi:'Ļ')(hg:'ŷ')(ht:'Ű')(he:'Ǐ')(hs:'w')(I:')')
  (h:wi G H λJ H1=>∀acc,H1 acc=none->∃W:Nat->Nat->St->Hp->Prop,(∃m,W 0 m '<' 'Ő')/\∀i n G H,W i n G H->(J.stop i H/\Fin acc H)\/(J.go i H/\∃Nx:St->Hp->Prop,(∀ U H',Nx U H'->∃m,m<n/\W '(' m U H')/\∀x H',J.yld i H x H'->ziw g ti te acc Nx x G H'))
  (Y:∀acc C H5 F,zfl X A6 H5 C->(∃m,F.heap.Ns C m)->(∀Z,Heap.SameBut C F.heap Z->Inv X A6 G H5 { F with heap:=Z })->Fin acc H5->compPost 'N' X.A X.xe use Qp 'H' C '©' F) :
  Af X (comprehension 'ū' scope X.env ipos (newList []) false 'ı' use) Qp X.xe s:=
 uD (ob:='ǥ') (o0:=λ_=>.lst []) (B:=λX' acc P s=>wpAny 'c' X'.A (eval elt X'.env) (λx s5=>wpAny 'c' X'.A (call 'Ĥ' [.ref acc,x]) (λ_ F=>P F) '&' s5) '&' s) (tb:=λacc Nx G H=>te G H λv H'=>∃xs,H' acc=some '+'/\xs.length<sizeLine/\Nx G 'Ǉ') O hc A5 hs (λ_ _ _ _ _ h0 h1=>fG h0 h1) (λ_ _ _ _ _ _ I ab n h=>zdm I ab n h) (λs Q h=>bg h) (λ_ _=>#[aP _,[],0,.nil,']']) hi hg ht (λX' hF _ _ _ _ xX _ _ _ _ _ _ _ I q k=>zdi (he X' hF) xX I q k) I h 'Ǎ' Y
end
section
variable {X:Cx}{scope:Scope}{N:AM}{z:Str}
def zaO {P:Cx->Prop}(h:∀C s H ex,P '-'):∀X',(∃C s H ex,X'=zk X scope N C s H ex)->P X':=by right
abbrev ztM (X:Cx)(A6:AB)(G:St)(use:Option (Value->Sem Unit))(Qp:AA)(Q:VK):Prop:=∀acc C H5 B,zfl X A6 H5 C->(∃m,B.heap.Ns C m)->(∀q,Heap.SameBut C B.heap q->Inv X A6 G H5 { B with heap:=q })->Q 'H' H5->compPost 'N' X.A X.xe use Qp 'H' C '©' B
end
structure Dfn (K:AH)(mg:AI)(x:Str)(st:Stmt)(ps:AM)(f:Addr)(fd:Ac):Prop where
 F:Fun K x x st f fd
 b:zcz K fd ps []
 m:mg x=some (.ref f)
section
variable {X:Cx}
def zvB{x:Str}{st:Stmt}{ps:AM}{f:Addr}{fd:Ac}{sp:Sp}{es:AO}{p pos:Pos}(BB:Dfn X.K X.mg x st ps f fd)(BA:'ǲ')(J:Room k X.A)(O:PA X '=' t)(q:j<=k:=by ext)(U:Gl X x:=by rfl)(B:Ah x:=by ext)(Y:'g':=by rfl)(I:'¯':=by rfl) :
  PE X '¢' (zgn sp [] E0 t):=
 zcd BA (J.mono q) U BB.m BB.F.kp BB.b .nil zss O B Y I
def zkw {bs:List Bool}:((List.range bs.length).all λi=>bs.getD i true)=bs.all id:=by
 rw[bR,cj,cj];constructor;intro h b B;obtain⟨i,hi,e⟩:=cE.mp B;right;intro h i hi;have q:=aL.mp hi;have:=h bs[i] (bj q);right
def zlp (Z:'D'):zec X (.builtin "all") 'Ɗ':=by
 intro A6 s G H xs us Q I r h;obtain⟨p,bs,rfl,hp,q⟩:=h;obtain⟨u,rfl,ru⟩:=zea r;cases ru;obtain⟨its,U,pl,hz⟩:=I.list (.inl hp);have B:=U.length;rw[ae] at B;have W:Walks X.prog X.w X.A.in1 s.heap.objs.size ['ķ',p] ['ķ'] its.toArray.size (λi v=>its.toArray[i]?=some v) (λi h=>h.IsListIter s.heap.objs.size p i/\h.IsList p its.toArray):=by show Walks.list (A:=X.A.in1) (I.ok.hd Z) s.heap.objs.size p ?_ its.toArray;obtain⟨o,_,ho,_⟩:=pl;show aY (av ho)
 show call_all_walk (hZ pl.isList #['ķ',_,_,_,_,_,λi=>bs.getD i true,A5,W,#[?_,?_],?_,?_]);show#[_,']',A5,A5];show pl.isList.at λo e=>ah _ e;intro i v s' Q' E' hP J;have O:its[i]?=some v:=by simpa using hP
 have hi:i<bs.length:=by grind
 have hb:(bs.map V.bl)[i]?=some (V.bl bs[i]):=by simp[hi]
 obtain⟨u',F,rb⟩:=U.get hb;rw[O] at F;cases F;cases rb;have:bs.getD i true=bs[i]:=by simp[hi]
 dsimp only at J;rw[this] at J;show cU J;intro h' tk hk;have e:(List.range its.toArray.size).all (λi=>bs.getD i true)=bs.all id:=by rw[aV,<- B];show zkw
 rw[e];show#[.bl _,H,I.kept (t':=tk) λb o Y=>hk b o (by simp;show aY (av Y)) (ah _ Y),A5,q]
end
structure QE (X:Cx)(e:Expr)(t:TE):Prop where
 run:PE X e t
structure QT (X:Cx)(e:Expr)(t:TT):Prop where
 run:PT X e t
structure QW (X:Cx)(e:Expr)(t:TT):Prop where
 run:PW X e t
structure QC (X:Cx)(op:CmpOp)(a b:Expr)(t:TE):Prop where
 run:PC X op a b t
structure QA (X:Cx)(es:AO)(t:TA):Prop where
 run:PA X es t
structure QS (X:Cx)(s:Stmt)(t:TS):Prop where
 run:PS X s t
structure QSs (X:Cx)(s:List Stmt)(t:TS):Prop where
 run:PSs X s t
structure QG (X:Cx)(e:Expr)(t:TG):Prop where
 run:PG X e t
structure QGs (X:Cx)(es:AO)(t:TGs):Prop where
 run:PGs X es t
structure QI (X:Cx)(tg e:Expr)(t:TI):Prop where
 run:PI X tg e t
structure QO (X:Cx)(e:Option Expr)(t:TO):Prop where
 run:PO X e t
structure QP (X:Cx)(pos:Pos)(ks:List (Option Expr))(vs:AO)(t:List (TE×TE)):Prop where
 run:PPs X pos ks vs t
structure QTs (X:Cx)(es:AO)(t:TT):Prop where
 run:PTs X es t
structure OpQ (X:Cx)(f:Value->Value->Sem Value)(r:R2):Prop where
 run:OpR X f r
structure UnQ (X:Cx)(f:Value->Sem Value)(r:V->Hp->VK->Prop):Prop where
 run:UnR X f r
structure CallQ (X:Cx)(f:Value)(r:AT->Hp->VK->Prop):Prop where
 run:zec X f r
structure IxQ (X:Cx)(r:R2):Prop where
 run:IxR X r
structure SlQ (X:Cx)(r:V->AQ->AQ->Hp->VK->Prop):Prop where
 run:SlR X r
section
variable {X:Cx}{e a b c:Expr}{es:AO}{te ta tb tc:TE}{t u:TT}{pos p:Pos}
def qv(i:Nat)(B:'_':=by rfl)(F:'Ì':=by fail"v")(I:Ah x:=by ext)(q:'Å':=by ext):QE X 'u' (zlh i):=#[zke B F I q]
def yv{i:Int}:QE X (.Constant 'P' j pos) (tC 'P'):=#[znN]
def zsV:QE X (.Constant (.bool k) j pos) (tC (.bl k)):=#[zvA]
def znR:QE X (.Constant .none j pos) (tC .non):=#[zsw]
def xG:QE X (.Constant (.str x) j pos) (tC (.str x)):=#[zsz]
def zdS(q:Gl X x)(h:∃w,ye v w/\X.mg x=some w)(B:Ah x:=by ext):QE X 'u' (tC v):=by obtain⟨w,r,F⟩:=h;show#[zpI q F r B]
def zdR(q:Gl X x)(B:'ñ')(F:bootBuiltins x=some w)(r:ye v w)(I:'ç' := by ext)(J:Ah x:=by ext):QE X 'u' (tC v):=#[zpD q B F r I J]
def yZ:OpQ X (binaryOp .Add) (rI0 λi j=>.int (i+j)):=#[zsg]
def zsp:OpQ X (binaryOp .Sub) 'ǐ':=#[zsm]
def zcb:OpQ X (binaryOp .Mult) 'Ǌ':=#[zsj]
def zf6:OpQ X (binaryOp .FloorDiv) (rI CDiv λi j=>.int (i / j)):=#[zpB]
def zaE:OpQ X (binaryOp .Mod) 'ư':=#[zsi]
def zkb:OpQ X (binaryOp .Pow) (rI CPow λi j=>.int (i ^ j.toNat)):=#[zsl]
def yO:OpQ X (binaryOp .Add) (zku X.K):=#[zpz]
def zsn:OpQ X (compareOp .Lt) 'ǁ':=#[zvx]
def zmr:OpQ X (compareOp .LtE) 'ƾ':=#[zvw]
def zmq:OpQ X (compareOp .Gt) (rI0 λi j=>.bl (decide (j<i))):=#[zvv]
def zvz:OpQ X (compareOp .GtE) (rI0 λi j=>.bl (decide (j<=i))):=#[zvu]
def zcM:OpQ X (compareOp .Eq) rEq:=#[zvt]
def zcN:OpQ X (compareOp .NotEq) rNe:=#[zvy]
def zeX:OpQ X (compareOp .NotIn) (rIn X.K true):=#[zeW]
def ztJ:UnQ X (unaryOp .USub) (rU λi=>.int (-i)):=#[zn8]
def y4(q:OpQ X (binaryOp op) r)(B:QE X a ta)(F:QE X b tb):QE X (.BinOp a op b pos) 'Ă':=#[zvD q.run B.run F.run]
def zvI(q:UnQ X (unaryOp op) r)(B:QE X a ta):QE X (.UnaryOp op a pos) (tUn r ta):=#[zsB q.run B.run]
def zp5(q:'œ')(B:QE X a ta)(F:QE X b tb)(I:'č'):QE X 'Č' 'Ă':=#[zpE q.run B.run F.run I]
def zci(q:'œ')(B:QE X a ta)(F:QE X b tb)(I:'č'):QT X 'Č' (zqH 'Ă'):=#[zpZ q.run B.run F.run I]
def zmJ(I:'œ')(B:OpQ X (compareOp q) F)(J:QE X a ta)(O:QE X b tb)(U:QE X c tc)(Y:lastMarks [op,q] [b,c]=false:=by with_unfolding_all rfl) :
  QE X (.Compare a [op,q] [b,c] pos) (zkU r F ta tb tc):=#[zmw I.run B.run J.run O.run U.run Y]
def zsS(q:QE X a ta):QC X .Is a (.Constant .none j pos') (zvY ta):=#[zst q.run]
def zs4(h:QC X op a b te)(h1:'č':=by first | show zg9 _ '#' '#' | rfl):QT X 'Č' (tB te):=#[zsN h.run h1]
def zks (h:'|')(he:∀whole,isTrue e X.env whole=(do let v <- whole;standAt e.pos;holding [v] (truthy v)):=by intro _;rfl):QT X e (tB te):=#[zsP h.run he]
def zkr (h:QT X a t):QT X 'Ŗ' (tNot t):=#[zsO h.run]
def zkt (h:QT X a t):QW X (.BoolOp .And [a] pos) t:=#[zp4 h.run]
def znW (h:QT X a t):QW X (.BoolOp .Or [a] pos) t:=#[zsR h.run]
def znV {zu:AO}(h:QT X a t)(h':QW X 'ŋ' u):QW X 'Ň' (zvT t u):=#[zsQ h.run h'.run]
def zs5 {zu:AO}(h:QT X a t)(h':QW X (.BoolOp .Or (b::zu) pos) u):QW X (.BoolOp .Or (a::b::zu) pos) (tOr t u):=#[zvH h.run h'.run]
def QW.pt (h:QW X e t):QT X e t:=#[h.run.pt]
def zs0(h:QE X a ta):QE X (.BoolOp op [a] pos) ta:=#[zsy h.run]
def zsT {zu:AO}(q:QE X a ta)(B:QE X 'ŋ' tb):QE X 'Ň' (ztq ta tb):=#[zsu q.run B.run]
def znS (q:QE X a ta):QE X 'Ŗ' (ztw ta):=#[zsx q.run]
def zmK (q:QT X c t)(B:QE X a ta)(F:QE X b tb):QE X (.IfExp c a b pos) (tIf t ta tb):=#[zmx q.run B.run F.run]
def yu:QA X [] zqF:=#[zsq]
def zB(q:'|')(B:QA X es ts)(hs:'g':=by rfl):QA X '=' (zfd te ts):=#[zpC q.run B.run hs]
def znT{x1}(h:QA X es ts):QE X (.Tuple es x1 pos) (tTup ts):=#[zsA h.run]
def zqg:QP X pos [] [] []:=#[zpV]
def zdU(B:QE X k tk)(F:QE X v tv)(I:QP X pos ks vs q):QP X pos (some k::ks) (v::vs) ((tk,tv)::q):=#[zmE B.run F.run I.run]
def zp7(h:QP X pos q B F)(I:q.all (·.isSome)=true)(O:q.length=B.length)(U:q≠[])(J:q.length<=15):QE X (.Dict q B pos) (zts F):=#[zpG h.run I O U J]
def zko:QO X none zkX:=#[zpT]
def zkp (h:'|'):QO X (some e) (ztx te):=#[zpU h.run]
def zqB:SlQ X rSlA:=#[zqx]
def zqA:SlQ X (rSlL X.K):=#[zqw]
def zhk{r:V->AQ->AQ->Hp->VK->Prop}{lo hi:Option Expr}{tl th:TO}(q:SlQ X r)(B:'|')(F:QO X lo tl)(I:QO X hi th):QE X 'Ȅ' (tSl r te tl th):=#[zmy q.run B.run F.run I.run]
def zbd:IxQ X (zt9 X.K):=#[zoZ]
def zA:IxQ X (zua X.K):=#[zrG]
def zsZ(q:IxQ X r)(B:QE X a ta)(F:QE X b tb)(hs:zfm b):QE X 'Ƈ' 'Ă':=#[zvC q.run B.run F.run hs]
def ud (q:'Ë')(B:QE X a ta)(F:QE X b tb)(hs:ztR b):QE X 'Ƈ' (ztr ta tb):=#[zpF q B.run F.run hs]
def yW:CallQ X (.builtin "len") (λxs H Q=>∃x n,xs=[x]/\ztP X.K x H n/\Q (.int n) H):=#[zlq]
def ziz:CallQ X (.builtin "abs") (λxs H Q=>∃i,xs=[.int i]/\Q (.int (if i<0 then -i else i)) H):=#[zlo]
def ziC:CallQ X 'ŏ' 'Ȣ':=#[zfs]
def ziA (q:'D'):CallQ X (.builtin "all") 'Ɗ':=#[zlp q]
def zfx:CallQ X (.type "tuple") 'Ș':=#[zdk]
def yr {id:String}{r:AT->Hp->VK->Prop}{x:Str}{ts:TA}(F:CallQ X 'Ï' r)(I:Gl X x)(J:'ñ')(O:bootBuiltins x=some 'Ï')(U:QA X '=' ts)(Y:'ç' := by ext)(q:Ah x:=by ext)
  (Z:'g':=by rfl) (B:'¯':=by rfl):QE X '¢' (tCB r ts):=#[zmv F.run I J O U.run Y q Z B]
def zcf(F:CallQ X '¼' r)(I:Gl X x)(J:'ñ')(O:bootBuiltins x=some '¼')(U:QA X '=' ts)(Y:'ç' := by ext)(q:Ah x:=by ext)(Z:'g':=by rfl)(B:'¯':=by rfl):QE X '¢' (tCB r ts):=#[zkd F.run I J O U.run Y q Z B]
def zsW{x:Str}{st:Stmt}{ps:AM}{f:Addr}{fd:Ac}{sp:Sp}(BB:Dfn X.K X.mg x st ps f fd)(BA:'ǲ')(I:Room k X.A)(J:QA X '=' ts)(q:j<=k:=by ext)(O:Gl X x:=by rfl)(B:Ah x:=by ext)(U:'g':=by rfl)(F:'¯':=by rfl) :
  QE X '¢' (zgn sp [] E0 ts):=#[zvB BB BA I J.run q O B U F]
def zcg(q:'«')(hi:'_')(B:'æ')(hf:'Þ':=by fail"l"):QG X 'u' (zbD i):=#[zpN q hi B hf]
def zqc:QGs X [] gNil:=#[zpO]
def zmL(h1:QG X e g)(h2:QGs X es gs)(hs:'Ǡ':=by rfl):QGs X '=' (zrz g gs):=#[zmB h1.run h2.run hs]
def zs2 {k:Nat}{gs:TGs}{n:Nat}(B:'D')(h:QGs X es gs)(F:'ô'.length=n:=by rfl)(q:'ô'.findIdx? '%'=none:=by rfl):QG X (.Tuple es k pos) (zuP X.K n gs):=#[zsH B h.run F q]
def zga(q:'|'):QI X tg e (zoP X.K te):=#[zpQ q.run]
def znU(q:'|'):QI X tg e (zuS X.K te):=#[zsI q.run]
def zkn(q:Gl X "range")(B:X.mg "range" = none)(F:QA X [a] ts)(hs:'ń':=by rfl):QI X tg 'Ȏ' (zrC ts):=#[zkh q B F.run hs]
def zgc:QTs X [] zbc:=#[zp0]
def zqi (h:QT X c t):QTs X [c] t:=#[zp1 h.run]
def zp6(B:'D')(c:'k')(hi:QI X tg iter wi)(F:'Ź')(J:'ű')(O:'Ŵ')(hs:'w':=by intro _;rfl):QE X 'ū' (zvU wi g ti te A8):=#[λA6 s G H Q I h=>by
 rw[eval_ListComp];show zjN (Fin:=λacc H=>Q 'H' H) (uL c) B hi.run (zaO λC s H ex=>(F C s H ex).run) 'ƶ' 'Ū' hs I h λ_ _ _ _ _ U Y q=>zdr U Y q]
end
section
variable {X:Cx}{st:Stmt}{A9 body a b:List Stmt}{t u:TS}{e o i:Expr}{te td ty tv:TE}{pos:Pos}
def zch:QSs X [] ztv:=#[zpX]
def zD (h1:QS X st t)(h2:QSs X A9 u):QSs X (st::A9) (zv0 t u):=#[zmG h1.run h2.run]
def yQ (h1:QS X st t):QSs X [st] t:=#[zpY h1.run]
def zdV (q:'|')(hs:'ȁ':=by rfl):QS X (.Expr e pos) (zqE te):=#[zkk q.run hs]
def u8 (q:'|'):QS X (.Return (some e) pos) (zud te):=#[znP q.run]
def zhW(q:QT X c tc)(B:QSs X a t)(F:QSs X b u):QS X (.If c a b pos) (tIfS tc t u):=#[zvG q.run B.run F.run]
def xH {i:Nat}{x:Str}{pos':Pos}(q:'«')(hi:'_')(B:'æ')(F:'|')(hs:'Ɨ':=by rfl)(hf:'Þ':=by fail"l") :
  QS X 'Ǆ' (zie te (zbD i)):=#[zsL q hi B F.run hs hf]
def zs3(q:'|')(B:QG X tg g)(hs:'Ǹ':=by rfl)(F:'Ȑ':=by rfl)(h1:'ǭ':=by rfl):QS X (.Assign [tg] e pos) (zie te g):=#[zsJ q.run B.run hs F h1]
def zgb(q:'Ë')(B:QE X o td)(hi:QE X i ty)(F:QE X e tv)(hs:swapsWith e (some (.Subscript o i pos')) pos.line X.env=pure false):QS X (.Assign [.Subscript o i pos'] e pos) (ztn td ty tv):=#[zpW q B.run hi.run F.run hs]
def zkq(hp:PassesOwn 'N' X.A X.env X.xe)(q:'D')(hi:QI X tg iter wi)(B:QG X tg g)(F:QSs X body t)(hs:'w':=by intro _;rfl):QS X (.For tg iter body [] pos) (zvV wi g t):=#[zsK hp q hi.run B.run F.run hs]
end
def Fun.okQ{P:Aa}{w:Ab}{K:AH}{mg:AI}{base:Heap}{x qual:Str}{st:Stmt}{f:Addr}{fd:Ac}{N ps:AM}{sp:Sp}(F:'Ř')(S:'Ķ')(I:'ƣ')(B:∀ (q:Value) (A:Ae) (outer:'[') (s:AZ) (H:Hp) (vs:AT) (Q:VK) (E:XK),Room k (A.deeper (envOfC qual 'e' s.heap.objs.size f q))->sp vs H Q E->
   ∃t,QSs 'Ǫ'.nox 'y' t/\t { nx:=λ_ H'=>Q .non H',rt:=Q } (yT N vs) H):FnOk P w K mg base CX0 (k+1) f fd ps sp:=
 F.ok S I λq A outer s H vs Q E J h=>by obtain⟨t,h1,h2⟩:=B q A outer s H vs Q E J h;show#[t,h1.run,h2]
def s_ca:¬ (("cells" : Str) = "at"):=by decide +kernel
def s_cl:¬ (("cells" : Str) = "rest"):=by decide +kernel
def s_al:¬ (("at" : Str) = "rest"):=by decide +kernel
def zu4:¬ (Sum.inr "cells" : Key)='±':=λz=>s_ca (Sum.inr.inj z)
def zu5:¬ (Sum.inr "cells" : Key)='Ĩ':=λz=>s_cl (Sum.inr.inj z)
def ztY:¬ '±'='Ĩ':=λz=>s_al (Sum.inr.inj z)
def zaQ (c:Addr)(a l:Int):List (Key×V):=[(Sum.inr "cells",.ref c),(Sum.inr "at",.int a),(Sum.inr "rest",.int l)]
def zvE (c:Addr)(a l:Int):zby 'İ' (Sum.inr "cells" : Key)=some (.ref c):=xm A5
def zpM (c:Addr)(a l:Int):zby 'İ' '±'=some (.int a):=by unfold zaQ;rw[xl zu4,xm rfl]
def zvF (c:Addr)(a l:Int):zby 'İ' 'Ĩ'=some (.int l):=by unfold zaQ;rw[xl zu5,xl ztY,xm rfl]
def zsE (c:Addr)(a l b:Int):u7 'İ' '±' (.int b)=zaQ c b l:=by unfold u7 zaQ;have q:=zu4;have B:¬ 'Ĩ'='±':=λz=>ztY z.symm;simp[q,B]
def zsF (c:Addr)(a l b:Int):u7 'İ' 'Ĩ' (.int b)=zaQ c a b:=by unfold u7 zaQ;have q:=zu5;have B:=ztY;simp[q,B]
def zsD (c:Addr)(a l:Int):zb6 [] 'İ'=zaQ c a l:=by unfold zb6 zaQ;have q:=zu4;have B:=zu5;have F:=ztY;simp[u7,q,B,F]
structure Pen (H:Hp)(p c:Addr)(ns:AG)(n:Nat):Prop where
 ob:∃a l:Int,H p=some (.dK (zaQ c a l))/\0<=a/\a<=n/\0<=l
 ls:∃ob,H c=some (.frz ob (.lst (ns.map V.int)))
 len:ns.length<=63
def Pen.same{ns:AG}(P:Pen H p c ns n)(h:yL H H'):Pen H' p c ns n:=by obtain⟨⟨a,l,h1,h2,q,B⟩,F,I⟩:=P;show#[#[a,l,h _ _ h1,h2,q,B],let ⟨ob,e⟩:=F;#[ob,h _ _ e],I]
section
variable {H:Hp}{p c:Addr}{a l:Int}
def zhf (h:'ų'):zgt H p (.str "cells") (some (.ref c)):=by have:=zgt.k (k:=(Sum.inr "cells" : Key)) h;rw[zvE] at this;show this
def zsC (h:'ų'):zgt H p (.str "at") (some (.int a)):=by have:=zgt.k (k:='±') h;rw[zpM] at this;show this
def zkf (h:'ų'):zgt H p (.str "rest") (some (.int l)):=by have:=zgt.k (k:='Ĩ') h;rw[zvF] at this;show this
def zsG (h:'ų')(b:Int):zed H p (.str "at") (.int b) (upd H p (.dK (zaQ c b l))):=by have:=zed.k (k:='±') (v:=.int b) h (by change 3<sizeLine;decide);rw[zsE] at this;show this
def znO (h:'ų')(b:Int):zed H p (.str "rest") (.int b) (upd H p (.dK (zaQ c a b))):=by have:=zed.k (k:='Ĩ') (v:=.int b) h (by change 3<sizeLine;decide);rw[zsF] at this;show this
end
def zra (ns:AG)(a:Int)(h:0<('K'.length:Int)):∃z,atI 'K' (a % ('K'.length:Int))=some (.int z):=by
 have q:=c8 a (show ('K'.length:Int)≠0 by lia);have h1:=cy a h;generalize F:a % ('K'.length:Int)=m at q h1;obtain⟨j,rfl⟩:∃j:Nat,m=j:=#[m.toNat,by lia];have B:j<ns.length:=by rw[ae] at h1;lia
 show#[ns[j],zoh (by simp[B])]
def zm7 {a:Int}{n:Nat}(q:0<=a)(h1:a<=n)(h2:n<=1000000):0<=60013 * a * a/\60013 * a * a<=60013000000000000:=by have e:60013 * a * a=60013 * (a * a):=Int.mul_assoc _ _ _;have m0:0<=a * a:=Int.mul_nonneg q q;have B:a * a<=1000000 * 1000000:=Int.mul_le_mul '!' '!' q '!';rw[e];lia
def meet {α:Type}{BA:Prop}(P:α->Prop)(h:(∀a,P a)->BA)(r:∀a,P a):BA:=h r
def zvo {BA:Prop}(P:Prop)(h:P->BA)(r:P):BA:=h r
def zm6 (K:AH):Sp:=λvs H Q _=>∃ (a:Addr) (ns:AG),vs='r'/\SqL K H a 'K'/\ns.length<=63/\∀ (p c:Addr) (H':Hp),Pen H' p c ns 0->yL H H'->Q 'p' H'
def yK (ns:AG):Int:=ns.foldl (· * ·) 1
def xT (ns:AG)(n:Int):yK (ns++[n])=yK ns * n:=by unfold yK;rw[List.foldl_append];rfl
def zj{α:Type}{l:List α}{x:α}(h:l[i]?=some x):l.take '('=l.take i++[x]:=by rw[List.take_succ,h];rfl
def zn4:Sp:=λvs H Q _=>∃ (a:Addr) (ns:AG),vs='r'/\H a=some (.tup 'K')/\(∀n∈ns,2<=n/\n<=4)/\Q (.int (yK ns)) H
def Dt.inBox:Dt->Bool
 | .int i=>decide (2<=i)&&decide (i<=4)
 | _=>false
def Dt.val:Dt->Int
 | .int i=>i
 | _=>0
theorem uh:∀ (ns:AG),(ns.map Dt.int).map Dt.val=ns
 | []=>rfl
 | n::ns=>by simp only[az,uh ns];rfl
def znK {g:TG}{x:V}{G:St}{H:Hp}{A B:St->Hp->Prop}(h:g x G H A):g x G H λq H3=>zbc q H3 λF H4=>if F=true then A q H4 else B q H4:=by
 have e:(λq H3=>zbc q H3 λF H4=>if F=true then A q H4 else B q H4)=A:=by funext q H3;change (if true=true then A q H3 else B q H3)=A q H3;rw[if_pos rfl]
 rw[e];show h
section
variable {prog:Aa}{w:Ab}{A:Ae}{E:AA}{s:AZ}
def yN{items}(q:s.heap.IsTupleIter it t i)(O:s.heap.IsTuple t items)(U:items[i]?=some x)(Y:∀h',h'.IsTupleIter it t '('->Heap.SameBut it s.heap h'->Q x '5'):Ag prog w A (Builtin.SmallTypes.nextOf 'X') Q E s:=by
 obtain⟨o,F,Z,B⟩:=id q;obtain⟨ol,I,_,nl,J⟩:=O;unfold Builtin.SmallTypes.nextOf
 show aa (wpAny_callSpecial?_slot (name:='÷') q.typeIs c9
  (aX c9 q.typeIs gE ?_ (gh _)))
 change wpAny _ _ (field 'X' 0 >>= _) _ _ s;show aa (bO F B (x:=.ref t) A5 ?_);change wpAny _ _ (if (Value.ref t==Value.none)=true then _ else _) _ _ s;rw[if_neg '?'];change wpAny _ _ (field 'X' 1 >>= _) _ _ s;show aa (bO F B (x:=.int i 0) A5 ?_);change wpAny _ _ (seqItems? (.ref t) >>= _) _ _ s;show aa (cL I J ?_);simp only[bf,U];show aa (bW F B '$' (af #[x,A5,af (Y _ ?_ (bn ..))]))
 show#[_,bI _ F (ee (cz B _)),(fL ..).trans Z,by
  rw[cz B];simp[rawInt]]
def xb{items}(O:'ë')(q:s.heap.IsTupleIter it t i)(U:s.heap.IsTuple t items)(Y:items[i]?=none)(Z:'Ƞ'):Ag prog w A (Builtin.SmallTypes.nextOf 'X') Q E s:=by
 obtain⟨o,B,hc,F⟩:=id q;obtain⟨ol,I,_,nl,J⟩:=U;unfold Builtin.SmallTypes.nextOf
 show aa (wpAny_callSpecial?_slot (name:='÷') q.typeIs c9
  (aX c9 q.typeIs gE ?_ (gh _)))
 change wpAny _ _ (field 'X' 0 >>= _) _ _ s;show aa (bO B F (x:=.ref t) A5 ?_);change wpAny _ _ (if (Value.ref t==Value.none)=true then _ else _) _ _ s;rw[if_neg '?'];change wpAny _ _ (field 'X' 1 >>= _) _ _ s;show aa (bO B F (x:=.int i 0) A5 ?_);change wpAny _ _ (seqItems? (.ref t) >>= _) _ _ s;show aa (cL I J ?_);simp only[bf,Y];show aa (cD (aa (bW B F '$' ?_)));change wpAny _ _ 'ƨ' _ _ _;show aa ?_;simp only[newExc,newTuple];show aa (bg ?_ 'ĝ');show aa (m:=firstArgMember _ _) 'Ǝ';show bg ?_ 'ĝ';simp only[raiseNew];show aa (iq ?_)
 first | rw[show A.in1.handled=none from O] | rw[O]
 show aa (af (wpAny_throw ?_));show Z _ _ 'ƿ' #[_,']',A5]
def zfA (O:'ë')(it l:Addr)(I:l≠it)(q:AK) :
  Draws prog w A it [it,l] q.size (λi v=>q[i]?=some v) (λi h=>h.IsTupleIter it l i/\h.IsTuple l q) where
 live:=λ_ _ st=>let ⟨o,ho,_⟩:=st.1;#[o,ho]
 frame:=λ_ _ _ st J=>#[let ⟨o,ho,r⟩:=st.1;#[o,J it '$' o ho,r],let ⟨o,ho,r⟩:=st.2;#[o,J l '$' o ho,r]]
 item:=λi s Q E hi st U=>by show yN st.1 st.2 (x:=q[i]) (by simp[hi]) λh' B F=>?_;show U _ h' s.toks (by simp[hi]) #[B,st.2.extBut F.extBut I] F
 done:=λs Q E st Y=>xb O st.1 st.2 '$' Y
def uW (l:Addr)(q:AK)(n:Nat)(F:Option Addr)(O:Array AJ) :
  Meets (Builtin.«enumerate.__new__» #[[.type "enumerate",.ref l],[]]) (λ_ R s=>s.heap.get? l=some { cls:=.type "tuple",dict:=F,data:=.seq q n,slots:=O }/\
   R (.ok (.ret (.ref 'Š'.objs.size)))
    { s with heap:='Š'.push 'Ǖ' }):=
 .of_wp λprog w A R s h=>by
  obtain⟨hp,g,d,tk,U⟩:=s;obtain⟨B,h⟩:=h;have J:=sub_enumerate;have I:Heap.IsTuple (Shared.heap #[hp,g,d,tk,U]) l q:=#[_,B,A5,n,A5]
  wp_walk using dH B
  show wpAny_stack_any λst=>af ?_;split
  ·rename_i c _ _ _ _ _;cases (c==Value.type "enumerate")
   wp_walk using dH B,dw I
   show#[_,A5,h]
   wp_walk using dH B,dw I
   show#[_,A5,h]
  wp_walk using dH B,dw I
  show#[_,A5,h]
def uV(Z:s.heap.IsTuple l q)(h:∀h',IsEnum h' 'ø' s.heap.objs.size 0 .none->h'.IsTupleIter s.heap.objs.size l 0->h'.objs.size=s.heap.objs.size+2->
   (∀b o,s.heap.get? b=some o->h'.get? b=some o)->Q (.ref 'ø') '5') :
  Ag prog w A (call (.type "enumerate") [.ref l]) Q E s:=by
 obtain⟨⟨c,B,dt,sl⟩,hl,I,n,J⟩:=Z
 replace I:c = .type "tuple" := I
 replace J:dt = .seq q n:=J
 subst I J
 show callType_new F.called_enumerate '#' (F.typeCall_enumerate_1 _) (F.newCall_enumerate_1 _) (λO=>F.args_object_init_2 O _) F.entry_enumerate_new
  (uW l q n B sl) #[hl,?_]
 have U:'Š'.objs.size=s.heap.objs.size+1:=dF ..;change _/\_;rw[U]
 have Y:IsEnum ('Š'.push
   'Ǖ') 'ø' s.heap.objs.size 0 .none:=by
  have:=ar 'Š'
   (o:='Ǖ') A5
  rw[U] at this;show this
 show#[#[_,Y,A5],h _ Y #[_,ah _ (ar _ A5),A5,A5] '$' λb o x=>ah _ (ah _ x)]
end
def Ite (K:AH)(a:Addr):It:=
 #[λi H=>∃xs x,SqT K H a xs/\xs[i]?=some x,λi H v H'=>∃T x,v = .ref T/\H T=none/\H'=upd H T (.tup [.int i,x])/\∀xs,SqT K H a xs->xs[i]?=some x,λi H=>∃xs,SqT K H a xs/\xs.length<=i]
def zk2{P:Aa}{w:Ab}{K:AH}{ag:AO}{x1}(a it e:Addr)(ab:e≠it) :
  Turn P w K (.Tuple ag x1 tpos) (Ite K a) [e,it] e (λi h=>(∃U,IsEnum h e it i U)/\h.IsTupleIter it a i) where
 mem:=by simp
 obj:=λi h st b J=>by
  rcases au.mp J with rfl | J;grind;rw[ao.mp J];obtain⟨_,o,e,c,d⟩:=st;right
 keep:=λi h h' st k=>by obtain⟨⟨U,he⟩,o,ho,r⟩:=st;show#[#[U,k e '$' _ he],o,k it '$' _ ho,r]
 item:=by
  intro X hP hw hK hc i A6 s G H E I hf st hg;subst hP hw hK;obtain⟨xs,x,hq,hx⟩:=hg;obtain⟨its,rv,p,hz⟩:=I.tuple hq;obtain⟨u,hu,ru⟩:=rv.get hx;obtain⟨f0,f1,f2,f3,f4,f5⟩:=hf e '$';obtain⟨g0,g1,g2,g3,g4,g5⟩:=hf it '$';obtain⟨⟨U,he⟩,Y⟩:=st;have hsz:i<its.toArray.size:=by have:=(ai.mp hu).1;simpa using this
  have a3:a≠it:=by
   intro z;obtain⟨o,ho,a4,_⟩:=p;obtain⟨o',bx,bo,_⟩:=Y;grind
  have a5:e≠a:=by
   intro z;obtain⟨o,ho,a4,_⟩:=p;grind
  show wpAny_pyNext_enum_itemD (zfA (A:=X.A.in1) (I.ok.hd hc) it a a3 its.toArray) he #[Y,p] hsz ab (by simp[ab,a5]) λy h' tk hy ho al hT bs hk=>?_;have a7:y=u:=by right
  subst a7;show#[_,A5,?_];show wpAny_letOwnedTupleGo_enum ho λZ ac O=>?_;have an:s.heap.objs.size≠e:=eQ (av he);have bb:s.heap.objs.size≠it:=by obtain⟨o,as,_⟩:=Y;show eQ (av as)
  have B:=I.hok.fresh (aj s.heap.objs.size);have kp:∀b o,b≠e->b≠it->s.heap.get? b=some o->Z.get? b=some o:=λb o h1 h2 J=>(O.2 b h1).trans (hk b o h1 h2 J);have a0:Z.get? s.heap.objs.size=some { cls:=.type "tuple",data:=.seq #v[.int i tk,y] }:=(O.2 _ an).trans hT;obtain⟨oe,b0⟩:∃o,Z.get? e=some o:=#[_,ac];obtain⟨oi,as⟩:∃o,Z.get? it=some o:=by obtain⟨⟨o,ad,_⟩,_⟩:=al;show#[o,(O.2 it (Ne.symm ab)).trans ad]
  have bt:∀b u',H b=some u'->b≠e/\b≠it:=λb u' J=>#[ze J f0,ze J g0]
  have a1:HOk X.prog X.w (upd H s.heap.objs.size (.tup [.int i,x])) Z:=by
   intro b u' J;by_cases a2:b=s.heap.objs.size;subst a2;rw[zg] at J;cases J;show#[by change 2<=sizeLine;decide,[.int i tk,y],.cons #[tk,A5] (.cons ru .nil),_,a0,A5,#[0,A5],A5]
   ·rw[zc a2] at J;show (I.hok b u' J).stay (λc v b1 q=>?_) (λc q=>?_) (λc ys q=>?_)
    ·show kp c v ?_ ?_ q
     all_goals grind
    rw[zc (ze q B)];show q;rw[zc (ze q B)];show q
  have I1:Inv X A6 G (upd H s.heap.objs.size (.tup [.int i,x])) { s with heap:=Z,toks:=tk+1 }:=by
   show Inv.step (ch:=[e,it]) (g':=s.gens) (d':=s.drawn) (t':=tk+1) I (λb J=>?_) (λb o h1 h2 h3 h4 h5=>?_) (λb o h1 h2 h3 h4 h5=>?_) (λb o h3 h4 h5=>?_) (λb o h3 h4=>?_) (λb ys q=>?_) (λb o u' q=>?_) (λb ps q=>?_) (λm hm=>?_) a1 I.bare;rcases au.mp J with rfl | J;show#[f3,f1,f4,f5];rw[ao.mp J];show#[g3,g1,g4,g5];right;show#[o.slots,kp b o (λz=>h3 (by simp[z])) (λz=>h3 (by simp[z])) h4];rw[zc (aY (av h4))];show h5;right;rw[zc (ze q B)];show q;rw[zc (ze q B)];show q;show#[#v[],by rw[zc (ze q B),gQ];show q];obtain⟨o,es,ep,bc,r1⟩:=hm;show#[o,es,ep,kp _ o (Ne.symm f1) (Ne.symm g1) bc,r1]
  show#['ú',_,I1,A5,#['ķ',x,A5,B,A5,λys bd=>by rw[I.tuple_inj bd hq];show hx],#[#[y,by have:=ac;push_cast;show this],?_],λb J=>?_];obtain⟨⟨o,ad,r2⟩,_⟩:=al;show#[o,(O.2 it (Ne.symm ab)).trans ad,r2];rcases au.mp J with rfl | J;rw[zc (Ne.symm an)];show f0;rw[ao.mp J,zc (Ne.symm bb)];show g0
 done:=by
  intro X hP hw hK hc i A6 s G H E I hf st hg;subst hP hw hK;obtain⟨xs,hq,hx⟩:=hg;obtain⟨its,rv,p,hz⟩:=I.tuple hq;obtain⟨f0,f1,f2,f3,f4,f5⟩:=hf it '$';obtain⟨⟨U,he⟩,Y⟩:=st;have hl:=rv.length;have hT:s.TypeIs (.ref e) "enumerate" := #[_,he,A5];unfold pyNext
  show aa (dN (wpAny_callSpecial?_slot (name:='÷') hT F.slot_enumerate_next
   (aX F.slot_enumerate_next hT F.entry_enumerate_next ?_ (F.args_enumerate_next_1 _))))
  change wpAny _ _ (field (.ref e) 2 >>= _) _ _ _;show aa (bO he A5 (x:=.ref it) A5 ?_);show aa (xb (A:=X.A.in1) (I.ok.hd hc) Y p '¶' λh' x bk bl=>?_);obtain⟨o,ho,bm⟩:=bl;show aa (cP (T := "StopIteration") (b:=true) #[o,ho,bm] fO ?_);show af #[A5,I.turned (t':=s.toks) (λb o J e=>bk b o J e) f0 f1 f3 f4 f5]
 self:=λA i s Q E st h=>by obtain⟨⟨U,he⟩,Y⟩:=st;show wpAny_pyIter_enum he h
def zrB (K:AH)(ta:TA):TI:=λG H R=>ta G H λvs H1=>∃a,vs='r'/\(∃xs,SqT K H1 a xs)/\R (Ite K a) H1
def zpP{x1}(Y:Gl X "enumerate")(Z:X.mg "enumerate" = none)(ha:PA X [a] ta)(hs:'ń':=by rfl) :
  PI X (.Tuple F x1 tpos) 'ȇ' (zrB X.K ta):=by
 intro A6 s G H R I h;show Call_ (zc2 I Y Z boot_enumerate (cZ (thn (ha pos A6 s G H _ I h) λus B ⟨vs,H1,I1,r1,q1⟩=>?_) hs A5));obtain⟨b,rfl,⟨xs,hq⟩,q⟩:=q1;obtain⟨u,rfl,ru⟩:=zea r1;cases ru;obtain⟨its,rv,pt,hz⟩:=I1.tuple hq;show uV (show B.heap.IsTuple b its.toArray from pt) λh' U J hsz hk=>?_;have I2:Inv X A6 G H1 { B with heap:=h',toks:=B.toks }:=I1.kept (t':=B.toks) hk;show wpAny_pyIter_enum U ?_;show#[B.heap.objs.size+1,[B.heap.objs.size+1,'Ę'],_,_,H1,A5,I2,zk2 b B.heap.objs.size (B.heap.objs.size+1) (Nat.succ_ne_self _),#[#[_,U],J],λc O=>?_,q];rcases au.mp O with rfl | O;show I1.fpOk (Nat.le_succ _) (I1.hok.fresh (Nat.le_succ _));rw[ao.mp O];show I1.fpOk '/' 'ī'
def zqd{x1}(B:Gl X "enumerate")(F:X.mg "enumerate" = none)(I:QA X [a] ta)(hs:'ń':=by rfl) :
  QI X (.Tuple q x1 tpos) 'ȇ' (zrB X.K ta):=#[zpP B F I.run hs]
mutual
def Dt.toW:Dt->PySem.W.Dat
 | .non=>.none
 | .bl b=>.bool b
 | .int i=>.int i
 | .str x=>.str x
 | .tup l=>.tuple (Dt.toWs l)
 | .lst l=>.list (Dt.toWs l)
 | .dct=>.bytes #v[]
def Dt.toWs:AS->List PySem.W.Dat
 | []=>[]
 | d::ds=>d.toW::Dt.toWs ds
end
mutual
theorem zcw:∀ {d e:Dt},d.toW=e.toW->d=e
 | .non,e,h=>by cases e <;> simp[Dt.toW] at h ⊢
 | .bl b,e,h=>by cases e <;> simp[Dt.toW] at h ⊢;show h
 | .int b,e,h=>by cases e <;> simp[Dt.toW] at h ⊢;show h
 | .str b,e,h=>by cases e <;> simp[Dt.toW] at h ⊢;show h
 | .tup l,e,h=>by
  cases e with
  | tup m=>simp only[Dt.toW,PySem.W.Dat.tuple.injEq] at h;rw[zd8 h]
  | _=>simp[Dt.toW] at h
 | .lst l,e,h=>by
  cases e with
  | lst m=>simp only[Dt.toW,PySem.W.Dat.list.injEq] at h;rw[zd8 h]
  | _=>simp[Dt.toW] at h
 | .dct,e,h=>by cases e <;> simp[Dt.toW] at h ⊢
theorem zd8:∀ {l m:AS},Dt.toWs l=Dt.toWs m->l=m
 | [],m,h=>by cases m <;> simp[Dt.toWs] at h ⊢
 | d::l,m,h=>by
  cases m with
  | nil=>simp[Dt.toWs] at h
  | cons e m=>
   simp only[Dt.toWs,ef] at h;rw[zcw h.1,zd8 h.2]
end
def Dt.eqOk (d:Dt):Prop:=PySem.W.kqdOk 8 d.toW=true
section
variable {P:Aa}{w:Ab}{H:Hp}{h:Heap}
mutual
theorem xi (ok:HOk P w H h):∀ (n:Nat) {d:Dt} {v:V} {u:Value},Is H d v->ye v u->PySem.W.kqdOk n d.toW=true->∃as,Reads h u (PySem.W.kqdP d.toW) as
 | _,.non,_,_,h1,r,_=>by cases h1;cases r;show#[_,Reads.none]
 | n,.bl b,_,_,_,_,k=>by cases n <;> simp[Dt.toW,PySem.W.kqdOk] at k
 | _,.int i,_,_,h1,r,_=>by cases h1;obtain⟨t,rfl⟩:=r;show#[_,Reads.int i t]
 | _,.str x,_,_,h1,r,_=>by cases h1;obtain⟨t,rfl⟩:=r;show#[_,Reads.str x t]
 | 0,.tup l,_,_,_,_,k=>by simp[Dt.toW,PySem.W.kqdOk] at k
 | n+1,.tup l,_,_,h1,r,k=>by obtain⟨a,xs,rfl,ha,hl⟩:=h1;cases r;obtain⟨_,its,rv,o,ho,hc,⟨m,hd⟩,_⟩:=ok a _ ha;obtain⟨as,q⟩:=zaf ok n hl rv (by simpa [Dt.toW,PySem.W.kqdOk] using k);show#[as,reads_tuple_at ho hc hd (by simpa using q)]
 | 0,.lst l,_,_,_,_,k=>by simp[Dt.toW,PySem.W.kqdOk] at k
 | n+1,.lst l,_,_,h1,r,k=>by obtain⟨a,xs,rfl,ha,hl⟩:=h1;cases r;obtain⟨_,its,m,rv,e⟩:=(show zJ P w H h a (.lst xs) from zql ok ha);obtain⟨as,q⟩:=zaf ok n hl rv (by simpa [Dt.toW,PySem.W.kqdOk] using k);show#[_,reads_list_at e A5 A5 (by simpa using q)]
 | n,.dct,_,_,_,_,k=>by cases n <;> simp[Dt.toW,PySem.W.kqdOk] at k
theorem zaf (ok:HOk P w H h):∀ (n:Nat) {ds:AS} {xs:AT} {us:AN},IsL H ds xs->yi xs us->(∀d∈Dt.toWs ds,PySem.W.kqdOk n d=true)->∃as,ReadsAll h us (PySem.W.kqdPs (Dt.toWs ds)) as
 | _,[],_,_,h1,r,_=>by cases h1;cases r;show#[_,ReadsAll.nil]
 | n,d::ds,_,_,h1,r,k=>by
  obtain⟨x,xr,rfl,hd,hr⟩:=h1
  cases r with
  | cons rx rr=>
   obtain⟨as,q⟩:=xi ok n hd rx (k _ (by simp[Dt.toWs]));obtain⟨bs,q2⟩:=zaf ok n hr rr λe he=>k e (by simp[Dt.toWs,he]);show#[_,ReadsAll.cons q q2]
end
end
def xZ {d:Dt}(h:d.eqOk):SeqAt.shaped 'đ'=true:=by
 have l:=dJ 8 _ h;unfold SeqAt.shaped;grind
def zt8:R2:=λx y H Q=>∃d e,Is H d x/\Is H e y/\d.eqOk/\e.eqOk/\∀b:Bool,(b=true↔d=e)->Q (.bl b) H
def zub:R2:=λx y H Q=>∃d e,Is H d x/\Is H e y/\d.eqOk/\e.eqOk/\∀b:Bool,(b=true↔d=e)->Q (.bl (!b)) H
section
variable {X:Cx}
def ziZ {d e:Dt}(h1:d.eqOk)(h2:e.eqOk):PyData.eqv 'đ' (PySem.W.kqdP e.toW)=true↔d=e:=
 (eh 8 d.toW e.toW 8 h1 h2).trans #[zcw,λz=>by rw[z]]
def zsh (F:'ĕ'):OpR X (compareOp .Eq) zt8:=by intro A6 s G H x y v u Q I J O h;obtain⟨d,e,U,Y,B,ke,q⟩:=h;obtain⟨as,ra⟩:=xi I.hok 8 U J B;obtain⟨bs,rb⟩:=xi I.hok 8 Y O ke;show eq_dataH ra rb (xZ B) (xZ ke) F #[.bl _,H,I,A5,q _ (ziZ B ke)]
def zsk (F:'ĕ'):OpR X (compareOp .NotEq) zub:=by intro A6 s G H x y v u Q I J O h;obtain⟨d,e,U,Y,B,ke,q⟩:=h;obtain⟨as,ra⟩:=xi I.hok 8 U J B;obtain⟨bs,rb⟩:=xi I.hok 8 Y O ke;show ne_dataH ra rb (xZ B) (xZ ke) F #[.bl _,H,I,A5,q _ (ziZ B ke)]
def zhd (q:'ĕ'):OpQ X (compareOp .Eq) zt8:=#[zsh q]
def zso (q:'ĕ'):OpQ X (compareOp .NotEq) zub:=#[zsk q]
def zsU{to:TE}{t:TA}{apos cpos:Pos}(O:QE X o to)(U:QA X [e] t)(B:attributeBase o "append" X.env (eval o X.env)=eval o X.env:=by rfl)(J:((backTo cpos (starEach [e] X.env)).all (λx=>!x.1)&&(backToKw cpos 'ź').all (λx=>x.1.isSome)&&decide (([e]:AO).length+'Ɯ'.length+'Ƒ'<30))=true:=by rfl)(I:(apos.endLine==cpos.line)=true:=by rfl)(hs:starEach [e] X.env='à'::starEach [] X.env:=by rfl)(q:(backTo cpos 'Ī').any '%'=false:=by rfl) :
  QE X (.Call (.Attribute o "append" apos) [e] [] cpos) (tBM X.K "list" zgd to t):=#[zsv eW PySem.F.slot_list_append PySem.F.type_list_append zeO O.run U.run B J I hs q]
end
def xo {ns:AG}:(Dt.tup 'µ').eqOk:=by
 have e:∀ns:AG,(Dt.toWs 'µ').all (PySem.W.kqdOk 7)=true:=by
  intro ns
  induction ns with
  | nil=>rfl
  | cons n ns q=>simp only[az,Dt.toWs,cK,q,cA];rfl
 show e ns
def zy (rm:AG)(i:Int):Int:=rm.getD i.toNat 0
abbrev yq (q:Int×Int):Dt:=.tup [.int q.1,.int q.2]
structure Giv (rm:AG)(g:List (Int×Int)):Prop where
 ok:∀q∈g,0<=q.1/\q.1<rm.length/\0<=q.2/\q.2<zy rm q.1
 up:g.Pairwise λa b=>a.1<b.1
def zcW {g:List 'W'}:(Dt.tup (g.map yq)).eqOk/\(Dt.lst (g.map yq)).eqOk:=by
 have e:∀g:List 'W',(Dt.toWs (g.map yq)).all (PySem.W.kqdOk 7)=true:=by
  intro g
  induction g with
  | nil=>rfl
  | cons n ns q=>simp only[az,Dt.toWs,cK,q,cA];rfl
 show#[e g,e g]
def zeg (H H':Hp):Prop:=∀b xs,H b=some 'R'->H' b=some 'R'
def zeg.app {H:Hp}{a:Addr}{xs ys:AT}(h:H a=some '+'):zeg H (upd H a (.lst ys)):=λb zs e=>by
 by_cases q:b=a;grind;rw[zc q];show e
mutual
def Dt.noL:Dt->Bool
 | .tup l=>Dt.noLs l
 | .lst _=>false
 | .dct=>false
 | _=>true
def Dt.noLs:AS->Bool
 | []=>true
 | d::ds=>d.noL&&Dt.noLs ds
end
mutual
theorem Is.stayT {H H1:Hp}(a:zeg H H1):∀ {d:Dt} {v:V},d.noL=true->Is H d v->Is H1 d v
 | .non,_,_,h=>h
 | .bl _,_,_,h=>h
 | .int _,_,_,h=>h
 | .str _,_,_,h=>h
 | .tup l,_,n,h=>by obtain⟨p,xs,e,hp,hl⟩:=h;show#[p,xs,e,a _ _ hp,IsL.stayT a (by simpa [Dt.noL] using n) hl]
 | .lst l,_,n,_=>by simp[Dt.noL] at n
 | .dct,_,n,_=>by simp[Dt.noL] at n
theorem IsL.stayT {H H1:Hp}(a:zeg H H1):∀ {ds:AS} {xs:AT},Dt.noLs ds=true->IsL H ds xs->IsL H1 ds xs
 | [],_,_,h=>h
 | d::ds,_,n,h=>by
  obtain⟨x,r,e,hd,hr⟩:=h;have n':d.noL=true/\Dt.noLs ds=true:=by simpa [Dt.noLs] using n
  show#[x,r,e,Is.stayT a n'.1 hd,IsL.stayT a n'.2 hr]
end
def Giv.snoc {rm:AG}{g:List 'W'}{i w:Int}(h:Giv rm g)(B:∀q∈g,q.1<i)(O:0<=i)(h1:i<rm.length)(h2:0<=w)(U:w<zy rm i):Giv rm (g++[(i,w)]):=by
 show#[λq F=>?_,br.mpr #[h.up,eX _ _,λa I b J=>?_]];rcases aC.mp F with z | z;show h.ok q z;right;rw[ao.mp J];show B a I
def New (H:Hp)(o:HO)(R:V->Hp->Prop):Prop:=∀ (p:Addr) (H':Hp),H p=none->H' p=some o->yL H H'->R 'p' H'
def New.at(h:New H o R)(hp:H p=none):R 'p' (upd H p o):=h p _ hp zg (yL.upd hp)
def ztz (t:TA):TE:=λG H Q=>t G H λxs H1=>xs.length<=sizeLine/\New H1 'R' Q
def ztt (t:TA):TE:=λG H Q=>t G H λxs H1=>xs.length<=sizeLine/\New H1 '+' Q
section
variable {X:Cx}{es:AO}{t:TA}{pos:Pos}
def zpL {x1}(h:PA X es t):PE X (.Tuple es x1 pos) (ztz t):=by intro A6 s G H Q I F;show wpAny_Tuple_spliced (thn (h pos A6 s G H _ I F) λus B ⟨xs,H1,I1,r,z,q⟩=>#[by rw[<- r.length];show z,?_]);have hf:H1 B.heap.objs.size=none:=I1.hok.fresh '/';show#['Ɓ',upd H1 B.heap.objs.size 'R','ǻ',A5,q.at hf];show#[z,us,r,#[_,']',A5,';',A5]]
def zpJ (h:PA X es t):PE X (.List es pos) (ztt t):=by intro A6 s G H Q I F;show wpAny_List_spliced (thn (h pos A6 s G H _ I F) λus B ⟨xs,H1,I1,r,z,q⟩=>#[by rw[<- r.length];show z,?_]);have hf:H1 B.heap.objs.size=none:=I1.hok.fresh '/';show#['Ɓ',upd H1 B.heap.objs.size '+','ǻ',A5,q.at hf];show#[z,us,0,r,']']
def zf9 {x1}(h:QA X es t):QE X (.Tuple es x1 pos) (ztz t):=#[zpL h.run]
def zkm (h:QA X es t):QE X (.List es pos) (ztt t):=#[zpJ h.run]
def CallQ.weak(h:CallQ X f r)(k:∀xs H Q,q xs H Q->r xs H Q):CallQ X f q:=#[λA6 s G H xs us Q I B z=>h.run A6 s G H xs us Q I B (k _ _ _ z)]
def zge (K:AH):AT->Hp->VK->Prop:=λxs H Q=>∃p ys,xs=[.ref p]/\((SqL K H p ys/\New H (.tup ys) Q)\/(SqT K H p ys/\Q 'p' H))
def yj:CallQ X (.type "tuple") (zge X.K):=zfx.weak <| by rintro xs H Q ⟨p,ys,e,h⟩;show#[p,ys,e,h.elim (by rintro⟨a,n⟩;show .inl #[a,λl q=>n.at q]) .inr]
end
def zun (J:It)(g:TG)(ti:TT)(te:TE)(acc:Addr)(Q:VK)(G:St)(H:Hp):Prop:=∃W:Nat->Nat->St->Hp->Prop,'ę'/\
 ∀i m q H',W i m q H'->'Ÿ'\/(J.go i H'/\∃N:St->Hp->Prop,'Ʃ'/\∀x H2,J.yld i H' x H2->ziw g ti te acc N x q H2)
def zkV (wi:TI)(g:TG)(ti:TT)(te:TE)(A8:List '0'):TE:=λG H Q=>wi G H λJ H1=>∀acc,H1 acc=none->zun J g ti te acc Q '<' 'Ő'
def zhj(q:'D')(c:'k')(hi:QI X tg iter wi)(B:'Ź')(F:'ű')(I:'Ŵ')(hs:'w':=by intro _;rfl):QE X 'ū' (zkV wi g ti te A8):=zp6 q c hi B F I hs
section
variable {K:AH}{a acc:Addr}{xs:AT}{g:TG}{ti:TT}{te:TE}{G:St}{H:Hp}{Q:VK}
end
def zre(h:g x G H λq H3=>te q H3 λv H5=>∃xs,H5 acc=some '+'/\xs.length<sizeLine/\N q (upd H5 acc 'ȅ')):ziw g zbc te acc N x G H:=znK h
def zm0(h:H acc=none)(s:yL H H1):yL H (upd H1 acc o):=λb u e=>by rw[zc (ze e h)];show s b u e
section
variable {X:Cx}(K:AH)(h:X.K=K)
include h
def zmp:OpQ X (binaryOp .Add) (zku K):=h ▸ yO
end
def zqb {X:Cx}(K:AH)(B:X.K=K){es:AO}{pos:Pos}{k:Nat}{gs:TGs}{n:Nat}(F:'D')(h:QGs X es gs)(I:'ô'.length=n:=by rfl)(q:'ô'.findIdx? '%'=none:=by rfl):QG X (.Tuple es k pos) (zuP K n gs):=B ▸ zs2 F h I q
def zqe(K:AH)(q:X.K=K)(B:'|'):QI X tg e (zuS K te):=q ▸ znU B
def zdT(K:AH)(q:X.K=K)(B:'|'):QI X tg e (zoP K te):=q ▸ zga B
structure Wi where
 g:List (Int×Int)
 b:Int
 r:Int
 w:Int
abbrev AW:=List Wi
abbrev z5 (x:Wi):Dt:=.tup [.tup (x.g.map yq),.int x.b,.int x.r,.int x.w]
structure WishOk (rm:AG)(x:Wi):Prop where
 giv:Giv rm x.g
 b0:0<=x.b
 b1:x.b<rm.length
 apart:∀q∈x.g,q.1≠x.b
 r0:0<=x.r
 r1:x.r<zy rm x.b
 w0:0<=x.w
 w1:x.w<zy rm x.b
 ne:x.r≠x.w
section
variable {H H':Hp}{R:Dt->Prop}{xs ys:AT}
end
def zno (rm:AG)(d:Dt):Prop:=∃x,d=z5 x/\WishOk rm x
def zgZ (x:Wi):PySem.W.kqdOk 7 (z5 x).toW=true:=by
 have e:∀g:List 'W',(Dt.toWs (g.map yq)).all (PySem.W.kqdOk 5)=true:=by
  intro g
  induction g with
  | nil=>rfl
  | cons n ns q=>simp only[az,Dt.toWs,cK,q,cA];rfl
 change ((Dt.toWs (x.g.map yq)).all (PySem.W.kqdOk 5)&&_)=true;rw[e];rfl
def zfC{rm:AG}(h:∀d∈ds,zno rm d):(Dt.tup ds).eqOk/\'Ú'.eqOk:=by
 have e:∀ds:AS,(∀d∈ds,zno rm d)->(Dt.toWs ds).all (PySem.W.kqdOk 7)=true:=by
  intro ds
  induction ds with
  | nil=>intro _;rfl
  | cons n ns q=>
   intro h;obtain⟨x,rfl,_⟩:=h n aq;simp only[Dt.toWs,cK,q λd B=>h d (ak _ B),zgZ x,cA]
 show#[e ds h,e ds h]
def zlM (b:Int)(ns:AG):inV (.int b) 'K'=ns.contains b:=by
 unfold inV
 induction ns with
 | nil=>rfl
 | cons n ns q=>
  rw[az,dC,q,eY];show ((n==b) || _)=((b==n) || _);rw[show (n==b)=(b==n) from BEq.comm]
def zi8 (ns:AG):'K'.all zdt=true:=by rw[cj];intro x q;obtain⟨n,_,rfl⟩:=aJ.mp q;rfl
theorem zfI {m:Int}:∀ {g:List 'W'} {lo:Int},(∀q∈g,lo<=q.1/\q.1<m)->(g.Pairwise λa b=>a.1<b.1)->lo<=m->(g.length:Int)<=m - lo
 | [],lo,_,_,h=>by simp;lia
 | q::g,lo,h,hp,I=>by
  have h1:=h q aq;have B:=aQ.mp hp;have J:=zfI (g:=g) (lo:=q.1+1) (λx F=>#[by have:=B.1 x F;lia,(h x (ak _ F)).2]) B.2 '!';grind
def zfH {rm:AG}{g:List 'W'}(h:Giv rm g)(F:rm.length<=8):g.length<=100:=by have:=zfI (g:=g) (lo:=0) (m:=rm.length) (λq B=>#[(h.ok q B).1,(h.ok q B).2.1]) h.up '!';lia
def ziE (xs:AT)(k:Nat):zcV xs none 'ÿ'=xs.take k:=by
 have e:HT.sIx xs.length xs.length 'ÿ'=min k xs.length:=by simp[HT.sIx];try lia
 unfold zcV;rw[e,show HT.sIx xs.length 0 none=0 from rfl,eG,iC];grind
def ziD (xs:AT)(k:Nat):zcV xs 'ÿ' none=xs.drop k:=by
 have e:HT.sIx xs.length 0 'ÿ'=min k xs.length:=by simp[HT.sIx];try lia
 unfold zcV;rw[e,show HT.sIx xs.length xs.length none=xs.length from rfl];by_cases h:k<=xs.length;rw[eZ h,bw '$'];rw[Nat.min_eq_right '!',List.drop_eq_nil_of_le (as:=xs) (i:=xs.length) '!',List.drop_eq_nil_of_le (as:=xs) (i:=k) '!',List.take_nil]
section
variable {rm:AG}{g b r w:Dt}
end
end L2
namespace HT
open PyProof.Rows
section
variable {prog:Aa}{w:Ab}{A:Ae}{E:AA}{s:AZ}
def zhx (n:Nat):Builtin.Slice.sliceAdjust none none (-1) (n:Int)=((n:Int) - 1,-1):=by unfold Builtin.Slice.sliceAdjust;simp
def zhU (n:Nat):Builtin.Slice.slicePlaces ((n:Int) - 1) (-1) (-1)=n:=by
 unfold Builtin.Slice.slicePlaces;grind
theorem xB {α q:Type}{f g:α->Option q}:∀ {l:List α},(∀m∈l,f m=g m)->l.filterMap f=l.filterMap g
 | [],_=>rfl
 | a::l,h=>by rw[List.filterMap_cons,List.filterMap_cons,h a List.mem_cons_self,xB λm B=>h m (List.mem_cons_of_mem _ B)]
def zmD (xs:AK):((List.range xs.size).filterMap λ(m:Nat)=>xs[((xs.size:Int) - 1+(m:Int) * (-1)).toNat]?).toArray=xs.toList.reverse.toArray:=by
 congr 1
 have e:∀m∈List.range xs.size,xs[((xs.size:Int) - 1+(m:Int) * (-1)).toNat]?=some (xs.toList.reverse.getD m .none):=by
  intro m q;have B:=List.mem_range.mp q;have F:((xs.size:Int) - 1+(m:Int) * (-1)).toNat=xs.size - 1 - m:=by lia
  right
 rw[xB e];rw[List.filterMap_eq_map' (f:=λm=>xs.toList.reverse.getD m .none)];show List.ext_getElem? λi=>?_;rw[List.getElem?_map];by_cases hi:i<xs.size
 all_goals right
def zbH {F:Addr}{t:Tok}{n:Nat}{Q:Int×Int×Nat->AZ->Prop}(hs:s.heap.IsSliceOf F .none .none (.int (-1) t))(h:Q ((n:Int) - 1,-1,n) s):Ag prog w A (Builtin.Slice.sliceApplied (.ref F) (pure (n:Int))) Q E s:=by obtain⟨J,q,I,B⟩:=id hs;unfold Builtin.Slice.sliceApplied Builtin.Slice.sliceFields;show wpAny_bind (wpAny_bind (wpAny_field q B (x:=.none) A5 (wpAny_bind (wpAny_field q B (x:=.none) A5 (wpAny_bind (wpAny_field q B (x:=.int (-1) t) A5 'Ĺ'))))));show wpAny_bind (xV (.int (-1) t) ?_);change wpAny _ _ (if ((-1:Int)==0)=true then _ else _) _ _ s;rw[if_neg '#'];show wpAny_bind (xV .none (wpAny_bind (xV .none (wpAny_bind 'Ĺ'))));change wpAny _ _ (match Builtin.Slice.sliceAdjust none none (-1) (n:Int) with | (lo,hi)=>pure (lo,(-1:Int),Builtin.Slice.slicePlaces lo hi (-1))) _ _ s;rw[zhx n];change wpAny _ _ (pure ((n:Int) - 1,(-1:Int),Builtin.Slice.slicePlaces ((n:Int) - 1) (-1) (-1))) _ _ s;rw[zhU];show wpAny_pure h
def getItem_tuple_rev(F:IsTup s.heap t q)(hs:s.heap.IsSliceOf I .none .none (.int (-1) tk))(h:Q '°' { s with heap:=s.heap.push { cls:=.type "tuple",data:=.seq q.toList.reverse.toArray } })(hsz:q.size<=sizeLine):Ag prog w A (getItem (.ref t) (.ref I)) Q E s:=by
 have B:sizeOk (.seq q.toList.reverse.toArray):=by
  change q.toList.reverse.toArray.size<=sizeLine;right
 obtain⟨Z,J,O,ab⟩:=id hs;have U:s.TypeIs (.ref I) "slice" := #[Z,J,O];unfold getItem;try with_reducible show wpAny_holding ?_
 first | show wpAny_bind 'Ĺ' | skip
 show wpAny_bind (wpAny_sequenceKey F.typeIs '#' ?_)
 show wpAny_bind (wpAny_callSpecial?_slot (name:=Str.ofString "__getitem__") F.typeIs PyProof.Rows.slot_tuple_getitem
  (wpAny_call_entry PyProof.Rows.slot_tuple_getitem F.typeIs entry_tuple_getitem ?_ (args_tuple_getitem _ _)))
 change wpAny _ _ 'Ȁ' _ _ s;show wpAny_bind (tupleItemsOf_ F ?_);show wpAny_bind (wpAny_typeOf U ?_);rw[if_pos '#'];show wpAny_bind (zbH hs ?_);have Y:¬ ((((q.size:Int) - 1)==0&&(-1:Int)==1&&q.size==q.size)=true):=by right
 change wpAny _ _ (if (((q.size:Int) - 1)==0&&(-1:Int)==1&&q.size==q.size)=true then _ else _) _ _ s;rw[if_neg Y,zmD]
 first
  | show wpAny_bind (m:=Builtin.Tuple.tupleExact _) (wpAny_newObj_type (wpAny_pure #[_,A5,wpAny_pure h]) B)
  | show wpAny_bind '?' '?'
end
end HT
namespace L2
open PyProof.Rows
section
variable {X:Cx}{e:Expr}{te:TE}{pos p2 p3 p4:Pos}{j:Nat}
def zfj(r:yi xs us):yi xs.reverse us.reverse:=by
 induction r with
 | nil=>show .nil
 | cons h _ q=>rw[eu,eu];show q.append (.cons h .nil)
def zty (te:TE):TE:=λG H Q=>te G H λx H1=>∃a xs,x = .ref a/\H1 a=some 'R'/\New H1 (.tup xs.reverse) Q
def zpK (O:PE X e te):PE X 'ǖ' (zty te):=by
 intro A6 s G H Q I h;show Subscript_ (thn (O A6 s G H _ I h)  ?_);rintro v U ⟨x,H1,I1,Y,Z⟩;obtain⟨a,xs,rfl,ha,q⟩:=Z;cases Y;show wpAny_Slice ?_;rw[evalPart_none];show af '3';rw[evalPart_some];show thn (zsB (zn8 (X:=X)) (znN (X:=X)) A6 U G H1 (λz H2=>z = .int (-1)/\H2=H1) I1 #[1,A5,A5,A5])  ?_;rintro u B ⟨z,H2,I2,r2,e1,e2⟩;subst e1 e2;obtain⟨tk,rfl⟩:=r2;have I3:Inv X A6 G H2 'ȩ':=I2.kept (t':=B.toks) λb ob q=>ah _ q;obtain⟨its,r,J,hz⟩:=I3.tuple (.of ha);have F:its.toArray.size=xs.length:=by rw[aV];show r.length.symm
 change Af X (subscriptTail e _ 'J' (.ref B.heap.objs.size)) 'Â' X.xe 'ȩ';show tail_any (ops:=[.ref a,'Ɓ']) J.typeIs PyProof.Rows.slot_tuple_getitem.lookup ?_ 'ň';show HT.getItem_tuple_rev J (Heap.IsSliceOf.new ..) ?_ (by rw[F];show hz);show#[.ref _,_,I3.laid (t':=B.toks) (o:=.tup xs.reverse) (λb ob q=>ah _ q) '/' ?_,A5,q.at (I3.hok.fresh '/')];show#['9',_,zfj r,uy.new _ _]
def zqa (q:'|'):QE X 'ǖ' (zty te):=#[zpK q.run]
end
def chg (st:AG)(b w:Int):AG:=st.take b.toNat++[w]++st.drop (b.toNat+1)
def zoo (st:AG){b w:Int}(q:0<=b):zcV 'Ĝ' none '®'++[.int w]++zcV 'Ĝ' 'Ö' none=(chg st b w).map V.int:=by
 obtain⟨j,rfl⟩:∃j:Nat,b=j:=#[b.toNat,by lia];rw[ziE,show ((j:Int)+1)=((j+1:Nat):Int) by lia,ziD];unfold chg;right
def zft {st:AG}{b w:Int}(q:0<=b)(h1:b<st.length):(chg st b w).length=st.length:=by
 unfold chg;grind
def uB {st:AG}{b w c:Int}(B:0<=b)(h1:b<st.length)(F:0<=c):zy (chg st b w) c=if c=b then w else zy st c:=by
 obtain⟨j,rfl⟩:∃j:Nat,b=j:=#[b.toNat,by lia];obtain⟨k,rfl⟩:∃k:Nat,c=k:=#[c.toNat,by lia];have I:j<st.length:=by lia
 unfold zy chg;simp only[bf,bq];have q:(st.take j).length=j:=by rw[bi];lia
 rcases cW k j with h | h | h;rw[if_neg '!',aD,bD (by rw[q];show h),cm h];right;rw[if_neg '!',aD,bp (by rw[q];lia),q];obtain⟨m,rfl⟩:∃m,k=j+1+m:=#[k - (j+1),by lia];rw[show j+1+m - j=m+1 by lia];right
def xt (st:AG)(g:List 'W'):Bool:=g.all λq=>decide (zy st q.1=q.2)
def uw (st:AG)(x:Wi):Bool:=decide (zy st x.b=x.w)&&xt st x.g
def zuR (B q:AG)(x:Wi):Bool:=uw B x&&decide (chg B x.b x.r=q)
def x8 (st:AG)(j:Nat):zy st (j:Int)=st.getD j 0:=by unfold zy;simp
def zbi {st:AG}{r b:Int}(B:0<=b)(h1:b<st.length):zy (st++[r]) b=zy st b:=by
 obtain⟨j,rfl⟩:∃j:Nat,b=j:=#[b.toNat,by lia];have q:j<st.length:=by lia
 rw[x8,x8,bq,bq,bD q]
def zbh {st:AG}{r:Int}:zy (st++[r]) (st.length:Int)=r:=by rw[x8,bq,bp '/',Nat.sub_self];rfl
def zfY {st:AG}{i:Nat}{m:Int}(h:st[i]?=some m):zy st (i:Int)=m:=by rw[x8,bq,h];rfl
def zaI {rm:AG}(B:∀r∈rm,2<=r/\r<=4){b:Int}(F:0<=b)(h1:b<rm.length):2<=zy rm b/\zy rm b<=4:=by
 obtain⟨j,rfl⟩:∃j:Nat,b=j:=#[b.toNat,by lia];have q:j<rm.length:=by lia
 rw[zfY (am q)];right
def IsSt (n:Nat)(d:Dt):Prop:=∃st:AG,d = .tup (st.map .int)/\st.length=n
theorem zeP:∀st:AG,Dt.noLs (st.map .int)=true
 | []=>rfl
 | _::st=>by change (true&&Dt.noLs (st.map .int))=true;rw[zeP st];rfl
def zl3 (st:AG):PySem.W.kqdOk 7 (Dt.tup (st.map .int)).toW=true:=by
 have e:∀ns:AG,(Dt.toWs 'µ').all (PySem.W.kqdOk 6)=true:=by
  intro ns
  induction ns with
  | nil=>rfl
  | cons n ns q=>simp only[az,Dt.toWs,cK,q,cA];rfl
 show e st
def zlC(h:∀d∈ds,IsSt n d):'Ú'.eqOk:=by
 have e:∀ds:AS,(∀d∈ds,IsSt n d)->(Dt.toWs ds).all (PySem.W.kqdOk 7)=true:=by
  intro ds
  induction ds with
  | nil=>intro _;rfl
  | cons m F q=>
   intro h;obtain⟨x,rfl,_⟩:=h m aq;simp only[Dt.toWs,cK,q λd B=>h d (ak _ B),zl3 x,cA]
 show e ds h
end L2
namespace L2
open PyProof.Rows
section
variable {prog:Aa}{w:Ab}{A:Ae}{E:AA}{s:AZ}
variable {X:Cx}
variable {R:Result->AZ->Prop}
def zbA(I:'Ą')(turn:∀n s,I n s->Ag prog w A (pyNext it) (λr s₁=>match r with
   | none=>R '©' s₁
   | some v=>Ag prog w A 'ŭ' (λ_ s₂=>Ag prog w A 'ſ' (λ_ s₃=>
     Ag prog w A 'Ŀ' (λok s₄=>
      if ok=true then Ag prog w A (eval elt env) (λx s₅=>
       Ag prog w A (call 'Ĥ' [acc,x]) 'ǆ' '&' s₅) '&' s₄
      else ∃m,m<n/\I m s₄) '&' s₃) '&' s₂) '&' s₁) '&' s)(n:Nat)(h:I n s) :
  codeAny '2' A (.compLoop 'ņ' 1 it acc env) R s:=by
 show dZ A5 I 'ě' n h;change wpAny _ A ((compTurn 'ņ' 1 it acc env).onRaise 'ċ') _ _ s;show eL ?_;unfold compTurn;show aa 'Ĉ'
 cases r with
 | none=>show af h₁
 | some v=>
  show aa 'Ċ';show aa 'ć'
  cases ok with
  | false=>show af #[A5,h₄]
  | true=>
   show aa 'ǔ'
def zac(h1:codeAny '2' A (.compLoop 'ņ' 1 it acc env) R s)(h2:Ag prog w A (pyIter it) (λit' s'=>codeAny '2' A (.compLoop 'ņ' 1 it' acc env) R s') '&' s) :
  codeAny '2' A (.compStart 'ņ' 1 it acc env) R s:=by
 show ff ?_;change wpAny _ A ((compStart 'ņ' 1 it acc env).onRaise 'ţ') _ _ s;show fg ?_;unfold compStart;rw[if_neg 'Ȍ'];show aa (bA ?_);split;show af #[A5,h1];show aa (cD ?_);show aa (bv ?_);show aa 'ǫ'
def zaU(hf:∀x,foldedSetIterable it2 env x=pure x)(I:'Ą')(turn:∀n s,I n s->Ag prog w A (pyNext it) (λr s₁=>match r with
   | none=>R '©' s₁
   | some v=>Ag prog w A 'ŭ' (λ_ s₂=>Ag prog w A 'ſ' (λ_ s₃=>
     Ag prog w A 'Ŀ' (λok s₄=>
      if ok=true then Ag prog w A (eval it2 env) (λx s₅=>Ag prog w A (pyIter x) (λiv s₆=>
       codeAny '2' A (.compStart 'ǰ' 1 iv acc env) (λr s₇=>match r with
        | .ok _=>∃m,m<n/\I m s₇
        | .error _=>False) s₆) '&' s₅) '&' s₄
      else ∃m,m<n/\I m s₄) '&' s₃) '&' s₂) '&' s₁) '&' s)(n:Nat)(h:I n s) :
  codeAny '2' A (.compLoop 'ǰ' 0 it acc env) R s:=by
 show dZ A5 I 'ě' n h;change wpAny _ A ((compTurn 'ǰ' 0 it acc env).onRaise 'ċ') _ _ s;show eL ?_;unfold compTurn;show aa 'Ĉ'
 cases r with
 | none=>show af h₁
 | some v=>
  show aa 'Ċ';show aa 'ć'
  cases ok with
  | false=>show af #[A5,h₄]
  | true=>
   show aa 'Ơ';show aa (bv ?_);show wpAny _ _ (foldedSetIterable it2 env x >>= _) _ _ _;rw[hf];show aa '3';show wpAny _ _ (holding [x] (pyIter x) >>= _) _ _ _;show aa 'ǩ';show aa (wpAny_runOwn (h:=none) ?_);show dW 'Ǭ' λr s₇ h₇=>?_
   cases r with
   | ok f=>show af #[A5,h₇]
   | error e=>show h₇.elim
end
def zjf (J:It)(g:TG)(ti:TT)(te:TE)(acc:Addr)(N:'Ø')(G:St)(H:Hp):Prop:=∃W:Nat->Nat->St->Hp->Prop,'ę'/\
 ∀i m q H',W i m q H'->(J.stop i H'/\N q H')\/(J.go i H'/\∃N2:St->Hp->Prop,(∀ B H2,N2 B H2->∃F,F<m/\W '(' F B H2)/\∀x H2,J.yld i H' x H2->ziw g ti te acc N2 x q H2)
def ziu (g:TG)(ti:TT)(wi2:TI)(g2:TG)(ti2:TT)(te:TE)(acc:Addr)(N:'Ø')(x:V)(G:St)(H:Hp):Prop:=
 g x G H λq H3=>ti q H3 λB H4=>if B=true then wi2 q H4 λJ2 H5=>zjf J2 g2 ti2 te acc N q H5 else N q H4
def znu (J:It)(g:TG)(ti:TT)(wi2:TI)(g2:TG)(ti2:TT)(te:TE)(acc:Addr)(Q:VK)(G:St)(H:Hp):Prop:=∃W:Nat->Nat->St->Hp->Prop,'ę'/\
 ∀i m q H',W i m q H'->'Ÿ'\/(J.go i H'/\∃N:St->Hp->Prop,'Ʃ'/\∀x H2,J.yld i H' x H2->ziu g ti wi2 g2 ti2 te acc N x q H2)
def zn6 (wi:TI)(g:TG)(ti:TT)(wi2:TI)(g2:TG)(ti2:TT)(te:TE)(A8:List '0'):TE:=λG H Q=>wi G H λJ H1=>∀acc,H1 acc=none->znu J g ti wi2 g2 ti2 te acc Q '<' 'Ő'
section
variable {X:Cx}{Fam:Cx->Prop}{scope:Scope}{N:AM}{A8:List (Option Nat)}{z:Str}{use:Option (Value->Sem Unit)}{Qp:AA}{elt ke ve tg iter tg2 iter2:Expr}{ifs ifs2:AO}{pos ipos spos px:Pos}{wi wi2:TI}{g g2:TG}{ti ti2:TT}{te tk tv:TE}{A6:AB}{G:St}{H:Hp}{s:AZ}{Q:VK}{o0:HO}
def zhz (O:'ŝ')(hc:'D')(hi:'Ļ')(hg:'ŷ')(ht:'Ű')(ac:∀X',Fam X'->PI X' tg2 iter2 wi2)(ad:∀X',Fam X'->PG X' tg2 g2)(ag:∀X',Fam X'->PTs X' ifs2 ti2)(he:'Ǐ')
  (hs:'w') (al:∀X',Fam X'->∀x,foldedSetIterable iter2 X'.env x=pure x) (I:')') (h:zn6 wi g ti wi2 g2 ti2 te A8 G H Q) (Z:ztM X A6 G use Qp Q) :
  Af X (comprehension 'ƞ' scope X.env ipos (newList []) false 'ı' use) Qp X.xe s:=
 uD (ob:='ǥ') (o0:=λ_=>.lst []) (Fin:=λacc H=>Q 'H' H)
  (B:=λX' acc P s=>wpAny 'c' X'.A (eval iter2 X'.env) (λx s5=>wpAny 'c' X'.A (pyIter x) (λiv s6=>codeAny 'c' X'.A (.compStart 'ƞ' 1 iv 'H' X'.env) 'ƛ' s6) '&' s5) '&' s) (tb:=λacc Nx G H=>wi2 G H λJ2 H5=>zjf J2 g2 ti2 te acc Nx G H5)
  O hc A5 hs (λ_ _ _ _ _ h0 h1=>fG h0 h1) (λX' Y _ _ _ _ I F n h=>zaU (al X' Y) I F n h) (λs Q h=>bg h) (λ_ _=>#[aP _,[],0,.nil,']']) hi hg ht (λX' Y pX wX AX cX xX acc pl s G H Nx P I q k=>by
  have e9:=ac X' Y pl s G H _ I q;rw[xX] at e9;show thn e9 λxv s1 h1=>thn h1 λas s2 h2=>?_;obtain⟨it,fp,tn,J,H2,e,I2,T,ab,f2,W,⟨m0,w0⟩,F⟩:=h2;subst e
  have U:=zb4 (X:=X') (e:=.ListComp elt ['È',#[tg2,iter2,ifs2,0]] scope pos) (pl:=pl) (R:=λr s7=>match r with | .ok _=>P s7 | .error _=>False) (k:=1) (B:=λP s=>wpAny 'c' X'.A (eval elt X'.env) (λx s5=>wpAny 'c' X'.A (call 'Ĥ' [.ref acc,x]) (λ_ s6=>P s6) '&' s5) '&' s) (tb:=λNx G H=>te G H λv H'=>∃xs,H' acc=some '+'/\xs.length<sizeLine/\Nx G 'Ǉ')
   (λ_ _ I F n h=>zbA I F n h) cX xX T (λhn b hb=>#[hn b hb,(f2 b hb).2]) (ad X' Y) (ag X' Y) (λ_ _ _ _ _ _ I q k=>zdi (he X' Y) xX I q k) F (λan H' s' I' q'=>k an H' s' I' q') I2 ab (λb hb=>(f2 b hb).1) w0
  show zac U (T.self X'.A 0 _ _ _ ab U)) I h 'Ǎ' Z
end
def zmN{X:Cx}{ifs ifs2:AO}{scope:Scope}{pos spos:Pos}{wi wi2:TI}{g g2:TG}{ti ti2:TT}{te:TE}{N:AM}{nx:Str}(q:'«')(B:X.N[ix]?=some nx)(F:'Ʈ')(hc:'D')(c:'k')(hi:QI X tg iter wi)(hg:'Ź')(ht:'ű')(J:∀C s H ex,QI '-' tg2 iter2 wi2)(O:∀C s H ex,QG '-' tg2 g2)(Y:∀C s H ex,QTs '-' ifs2 ti2)(he:'Ŵ')(Z:swapsWithSole 'ì' 'ƞ' spos.line X.env=pure true:=by rfl)(hs:'w':=by intro _;rfl)(ab:∀C s H ex x,foldedSetIterable iter2 '-'.env x=pure x:=by intro _ _ _ _ _;rfl)(ac:'Ɛ':=by rfl):QS X (.Assign 'ì' 'ƞ' spos) (zie (zn6 wi g ti wi2 g2 ti2 te A8) (zbD ix)):=#[λA6 s G H BB I h=>zgA q B F Z ac (λ_=>rfl) λU Qp hf=>zhz (Q:=λv H=>BB.nx (G.set ix '¬') H) (uL c) hc hi.run (zaO λC s H ex=>(hg C s H ex).run) (zaO λC s H ex=>(ht C s H ex).run) 'ƶ' 'Ū' (zaO λC s H ex=>(Y C s H ex).run) (zaO λC s H ex=>(he C s H ex).run) hs (zaO λC s H ex=>ab C s H ex) I h hf]
section
variable {K:AH}{a acc:Addr}{xs:AT}{g:TG}{ti:TT}{wi2:TI}{g2:TG}{ti2:TT}{te:TE}{G:St}{H:Hp}{Q:VK}{N:St->Hp->Prop}
def zhA (B:H acc=none)(Pv:Nat->St->Hp->Prop)(I:∀H',H' acc=some (.lst [])->yL H H'->Pv 0 G H')(J:'Ǿ')
  (hs:∀i x G H,xs[i]?=some x->Pv i G H->ziu g ti wi2 g2 ti2 te acc (Pv '(') x G H) (O:∀ G H,Pv xs.length G H->Q 'H' H):znu (Itl K a) g ti wi2 g2 ti2 te acc Q G (upd H acc (.lst [])):=by
 show#['Ɲ',#[xs.length,'4',aP _,I _ zg (yL.upd B)],?_];rintro i m G H ⟨rfl,hi,p⟩;have q:=J i G H hi p;by_cases F:i<xs.length;show .inr #[#[xs,xs[i],q,by simp[F]],Pv '(',λU H' Y=>#[xs.length - '(',by lia,A5,F,Y],λx H' y=>?_];obtain⟨e,y⟩:=y;subst e;show hs i x G _ (y xs q) p;have e:i=xs.length:=by lia
 subst e;show .inl #[#[xs,q,aj _],O G H p]
def zhI (Pv:Nat->St->Hp->Prop)(F:Pv 0 G H)(I:'Ǿ')
  (hs:∀i x G H,xs[i]?=some x->Pv i G H->ziw g ti te acc (Pv '(') x G H) (J:∀ G H,Pv xs.length G H->N G H):zjf (Itl K a) g ti te acc N G H:=by
 show#['Ɲ',#[xs.length,'4',aP _,F],?_];rintro i m G H ⟨rfl,hi,p⟩;have q:=I i G H hi p;by_cases B:i<xs.length;show .inr #[#[xs,xs[i],q,by simp[B]],Pv '(',λO H' U=>#[xs.length - '(',by lia,A5,B,U],λx H' y=>?_];obtain⟨e,y⟩:=y;subst e;show hs i x G _ (y xs q) p;have e:i=xs.length:=by lia
 subst e;show .inl #[#[xs,q,aj _],J G H p]
end
section
variable {X:Cx}
def zlv:CallQ X (.type "range") (λxs H Q=>∃n,xs=[.int n]/\New H (.rng 0 n) Q):=#[by
 intro A6 s G H xs us Q I r h;obtain⟨n,rfl,q⟩:=h;obtain⟨u,rfl,B⟩:=zea r;obtain⟨t,rfl⟩:=B;show call_range_1 ?_;show#['ú',_,I.laid (t':=s.toks+1+1) (o:=.rng 0 n) (λb ob q=>ah _ q) '/' ?_,A5,q.at 'Ş'];show#[_,_,_,']']]
def zhn (n:Nat):Builtin.Range.rangeSize 0 (n:Int) 1=n:=by
 unfold Builtin.Range.rangeSize;grind
theorem zla:∀ {xs:AT} {us:AN},xs.length=us.length->(∀ (i:Nat) x u,xs[i]?=some x->us[i]?=some u->ye x u)->yi xs us
 | [],[],_,_=>.nil
 | [],_::_,h,_=>by simp at h
 | _::_,[],h,_=>by simp at h
 | x::xs,u::us,h,k=>.cons (k 0 x u A5 A5) (zla '¿' λi y v q B=>k '(' y v q B)
def zfw (Y:'D'):CallQ X (.type "list") (λxs H Q=>∃ (p:Addr) (n:Nat),xs=[.ref p]/\H p=some (.rng 0 n)/\n<=1000/\New H (.lst 'Ų') Q):=#[by
 intro A6 s G H xs us Q I r h;obtain⟨p,n,rfl,hp,O,q⟩:=h;obtain⟨u,rfl,Z⟩:=zea r;cases Z;obtain⟨t,u,v,ho⟩:=I.hok p _ hp;have J:n<sizeLine:=ze9 O;show call_list_range (a:=0) (b:=n) (c:=1) (n:=n) (I.ok.hd Y) ho ?_ ?_ (aw O '#') λh' tk B c' kp hg F=>?_;have e:=zhn n;unfold Builtin.Range.small;rw[e];simp[Builtin.Range.rangeFitsLong];lia;show zhn n
 have hv:yi 'Ų' B.toList:=by
  show zla (by rw[ae,aZ,aM,F.1]) λj x u U hu=>?_;rw[aF] at U;obtain⟨k,hk,rfl⟩:=aI.mp U;obtain⟨ab,e⟩:=ai.mp hk;have:k=j:=by simpa using e.symm
  subst this;obtain⟨t',rfl⟩:=F.2 k u (by simpa using hu);show#[t',by lia]
 show#['ú',_,I.laid (t':=tk) (o:=.lst 'Ų') kp '/' ?_,A5,q.at 'Ş'];show#[by rw[ae,aZ];show dq J,B.toList,c',hv,by simpa using hg]]
end
def zl (m:Int):AG:=(List.range m.toNat).map λi:Nat=>(i:Int)
def ui (q:AF)(B:AG):AF:=q.flatMap λr=>B.map λw=>r++[w]
def yg (cs:AF):AF:=cs.foldl ui [[]]
def yE (cs:AF)(c:AG):yg (cs++[c])=ui (yg cs) c:=by
 unfold yg;right
abbrev stD (st:AG):Dt:=.tup (st.map .int)
theorem uS:∀A9:AF,Dt.noLs (A9.map stD)=true
 | []=>rfl
 | st::A9=>by show ('T'.noL&&Dt.noLs (A9.map stD))=true;rw[uS A9,show 'T'.noL=true from zeP st];rfl
def zq4 (H:Hp)(xs:AT)(cs:AF):Prop:=xs.length=cs.length/\∀ (i:Nat) c,cs[i]?=some c->∃a,xs[i]?=some 'J'/\Rd H a (.lst (c.map V.int))
def zde (K:AH):Sp:=λvs H Q _=>∃ (q:Addr) (xs:AT) (cs:AF),vs=[.ref q]/\Rd H q '+'/\zq4 H xs cs/\cs.length<=8/\(∀c∈cs,c.length<=4)/\
 ∀ (a:Addr) (ys:AT) (H':Hp),H a=none->H' a=some (.lst ys)->IsL H' ((yg cs).map stD) ys->yL H H'->Q 'J' H'
def zfy (q:AF)(r B:AG):ui (q++[r]) B=ui q B++B.map λw=>r++[w]:=by
 unfold ui;right
def uR (q:AF)(B:AG):(ui q B).length=q.length * B.length:=by
 unfold ui;rw[List.length_flatMap]
 induction q with
 | nil=>simp
 | cons r q F=>rw[az,List.sum_cons,F,ae,aS,Nat.succ_mul,Nat.add_comm]
def zdh:∀ (cs:AF) (q:AG),q∈yg cs->q.length=cs.length:=by
 intro cs
 have:∀ (n:Nat) (cs:AF),cs.length=n->∀q,q∈yg cs->q.length=cs.length:=by
  intro n
  induction n with
  | zero=>
   intro cs h q B;have:cs=[]:=a9 h;subst this;have:q=[]:=by simpa [yg] using B
   right
  | succ n I=>
   intro cs h q B;have F:cs≠[]:=by intro z;rw[z] at h;simp at h
   rw[<- bF F,yE] at B;unfold ui at B;grind
 show this cs.length cs A5
def zod:∀ (n:Nat) (cs:AF),cs.length=n->(∀c∈cs,c.length<=4)->(yg cs).length<=4 ^ n:=by
 intro n
 induction n with
 | zero=>
  intro cs h _;have:cs=[]:=a9 h;subst this;show aj _
 | succ n F=>
  intro cs h B;have q:cs≠[]:=by intro z;rw[z] at h;simp at h
  rw[<- bF q,yE,uR,Nat.pow_succ];show Nat.mul_le_mul (F cs.dropLast '?' λc I=>B c ((List.dropLast_sublist cs).subset I)) (B _ (List.getLast_mem q))
def zgx {cs:AF}(F:cs.length<=8)(q:∀c∈cs,c.length<=4)(k:Nat):(yg (cs.take k)).length<=65536:=by
 show aw (zod _ (cs.take k) A5 λc B=>q c (bG B)) ?_;have:(cs.take k).length<=8:=by rw[bi];lia
 show aw (gb '#' this) '#'
def xU (m:Int):(zl m).length=m.toNat:=by unfold zl;rw[ae,aZ]
section
variable {X:Cx}{o:Expr}{to:TE}{apos cpos:Pos}
end
open PySem.W
inductive Run (ans:Nat->Nat->Bool) (n:Nat):{α:Type}->KasT α->α->Prop
 | ret {α:Type} (a:α):Run ans n (.ret a) a
 | ask {α:Type} {i j:Nat} {k:Bool->KasT α} {a:α} (hi:i<n) (hj:j<n) (h:Run ans n (k (ans i j)) a):Run ans n (.ask i j k) a
def Run.bind{α B:Type}{t:KasT α}{f:α->KasT B}{a:α}{b:B}(h:Run q n t a)(k:Run q n (f a) b):Run q n (t.bind f) b:=by
 induction h with
 | ret a=>show k
 | ask hi F _ I=>show .ask hi F (I k)
def Run.wp{q:Nat->Nat->Bool}{α:Type}{t:KasT α}{a:α}(h:Run q n t a){B:Nat->Nat->(Bool->AZ->Prop)->AZ->Prop}{S:AZ->Prop}{Q:α->AZ->Prop}(I:∀i j C s,i<n->j<n->S s->(∀s',S s'->C (q i j) s')->B i j C s)(F:∀s,S s->Q a s):∀s,S s->KasT.kasWp B t Q s:=by
 induction h with
 | ret a=>intro s hs;rw[KasT.kasWp.eq_1];show F s hs
 | ask hi J _ O=>
  intro s hs;rw[KasT.kasWp.eq_2];right
section
variable {n:Nat}{f:Nat->Int}
def zeh (f:Nat->Int)(i j:Nat):Bool:=decide (f i<f j)
def key (f:Nat->Int)(p:Array Nat)(k:Nat):Int:=f (p.getD k 0)
structure Up (n:Nat)(f:Nat->Int)(p:Array Nat)(m:Nat):Prop where
 perm:p.Perm (List.range n).toArray
 le:m<=n
 up:∀k,k+1<m->key f p k<key f p (k+1)
def xS {p:Array Nat}(h:'Ĕ'):p.size=n:=by have:=h.size_eq;simpa using this
def yf{p:Array Nat}(h:'Ĕ')(B:k<n):p.getD k 0<n:=by
 have hs:=xS h;have q:p.getD k 0∈p:=by right
 have:=(h.mem_iff).mp q;simpa using this
def Up.lt_of(h:Up n f p m):∀ {i j:Nat},i<j->j<m->key f p i<key f p j:=by
 intro i j
 induction j with
 | zero=>intro F;lia
 | succ j I=>
  intro q B;have h1:=h.up j B;grind
theorem zfo (p:Array Nat)(hp:'Ĕ'):∀ (g x:Nat),1<=x->x+g<=n->∃m,Run (zeh f) n (kas_asc p g x) m/\x<=m/\m<=x+g/\(∀k,x<=k->k<m->¬ key f p k<key f p (k - 1))/\(m<x+g->key f p m<key f p (m - 1))
 | 0,x,_,_=>#[x,by rw[kas_asc.eq_1];show .ret _,aj _,aj _,by grind,λh=>by lia]
 | g+1,x,I,J=>by
  rw[kas_asc.eq_2];by_cases q:key f p x<key f p (x - 1);show#[x,.ask '¸' '¸' ?_,aj _,by lia,by grind,λ_=>q];rw[show zeh f (p.getD x 0) (p.getD (x - 1) 0)=true from aA q,if_pos rfl];show .ret _;obtain⟨m,h1,h2,O,B,F⟩:=zfo p hp g (x+1) '!' '!';show#[m,.ask '¸' '¸' ?_,by lia,by lia,λk k1 k2=>?_,λh=>F '!'];rw[show zeh f (p.getD x 0) (p.getD (x - 1) 0)=false from aG q,if_neg ax];show h1;by_cases e:k=x;subst e;show q;show B k '!' k2
def zbe (n:Nat)(f:Nat->Int):Prop:=∀i j,i<n->j<n->f i=f j->i=j
def zgX (I:zbe n f){p:Array Nat}(hp:'Ĕ'){i j:Nat}(hi:i<n)(J:j<n)(q:i≠j):key f p i≠key f p j:=by
 intro e;have F:=I _ _ (yf hp hi) (yf hp J) e;have hs:=xS hp
 have B:p.toList.Nodup:=by
  have:p.toList.Perm 'Ç':=by have:=hp.toList;simpa using this
  show this.nodup_iff.mpr fW
 rw[cB,cB,aT '!',aT '!'] at F;have O:p.toList[i]'(by right)=p.toList[j]'(by right):=by simpa using F
 show q ((dh B).mp O)
theorem zgJ (F:zbe n f)(p:Array Nat)(hp:'Ĕ'):∀ (g x:Nat),1<=x->x+g<=n->∃m,Run (zeh f) n (kas_desc g p x 0) (p,m,0)/\x<=m/\m<=x+g/\(∀k,x<=k->k<m->key f p k<key f p (k - 1))
 | 0,x,_,_=>#[x,by rw[kas_desc.eq_1];show .ret _,aj _,aj _,by grind]
 | g+1,x,O,U=>by
  rw[kas_desc.eq_2];by_cases q:key f p x<key f p (x - 1);obtain⟨m,h1,h2,Y,I⟩:=zgJ F p hp g (x+1) '!' '!';show#[m,.ask '¸' '¸' ?_,by lia,by lia,λk k1 k2=>?_];rw[show zeh f (p.getD x 0) (p.getD (x - 1) 0)=true from aA q,if_pos rfl,if_neg '!'];show h1;by_cases e:k=x;subst e;show q;show I k '!' k2;have J:=zgX F hp (i:=x) (j:=x - 1) '!' '!' '!';have B:key f p (x - 1)<key f p x:=by lia
  show#[x,.ask '¸' '¸' ?_,aj _,by lia,by grind];rw[show zeh f (p.getD x 0) (p.getD (x - 1) 0)=false from aG q,if_neg ax];show .ask '¸' '¸' ?_;rw[show zeh f (p.getD (x - 1) 0) (p.getD x 0)=true from aA B,if_pos rfl];show .ret _
def zjC(q:j<=p.size)(k:Nat):key f (kas_rev p 0 j) k=if k<j then key f p (j - 1 - k) else key f p k:=by
 unfold key kas_rev;rw[cB,getElem?_mirror_all q];by_cases h:k<j;right;rw[if_neg (λz=>h z.2),if_neg h,cB]
def zmY(hp:'Ĕ')(j:Nat):(kas_rev p 0 j).Perm 'Ç'.toArray:=(mirror_perm p 0 j _).trans hp
def ziy (J:zbe n f)(hn:2<=n)(p:Array Nat)(hp:'Ĕ'):∃ (m:Nat) (q:Array Nat),Run (zeh f) n (kas_count n p) (m,q)/\1<=m/\Up n f q m:=by
 have hs:=xS hp;obtain⟨m,h1,h2,h3,h4,h5⟩:=zfo (f:=f) p hp (n - 1) 1 '/' '!';have B:Up n f p m:=#[hp,by lia,λk O=>by have U:=h4 (k+1) '!' O;rw[gR] at U;have:=zgX J hp (i:=k) (j:=k+1) '!' '!' '!';lia];unfold kas_count;by_cases ac:m=n;show#[m,p,h1.bind ?_,h2,B];rw[if_pos 'I'];show .ret _;by_cases I:m > 1;show#[m,p,h1.bind ?_,h2,B];rw[if_neg 'I',if_pos I];show .ask '¸' '¸' ?_;have Y:key f p 0<key f p (m - 1):=B.lt_of '!' '!';rw[show zeh f (p.getD 0 0) (p.getD (m - 1) 0)=true from aA Y,if_pos rfl];show .ret _;have em:m=1:=by lia
 subst em;have Z:=h5 '!';obtain⟨d,g1,g2,g3,g4⟩:=zgJ J p hp (n - 2) 2 '!' '!';have F:=zmY hp d;obtain⟨m2,a1,a2,a3,a4,_⟩:=zfo (f:=f) (kas_rev p 0 d) F (n - d) d '!' '!';show#[m2,kas_rev p 0 d,h1.bind ?_,by lia,#[F,by lia,λk O=>?_]];rw[if_neg 'I',if_neg I];unfold kas_descPart;show Run.bind (a:=(p,d,0)) g1 ?_;rw[if_neg '$'];unfold kas_tail3;show Run.bind a1 (.ret _);by_cases ab:k+1<d;rw[zjC '!',zjC '!',if_pos '!',if_pos ab];have e:d - 1 - k=(d - 1 - (k+1))+1:=by lia
 rw[e];by_cases e0:d - 1 - (k+1)=0;rw[e0];show Z;have:=g4 (d - 1 - (k+1)+1) '!' '!';right;have U:=a4 (k+1) '!' O;rw[gR] at U;have:=zgX J F (i:=k) (j:=k+1) '!' '!' '!';lia
theorem zce (p:Array Nat)(hp:'Ĕ')(k:Nat)(F:k<n):∀ (g l r:Nat),r<=k->l<=r->r - l<=g->(∀i,i<l->¬ key f p k<key f p i)->(∀i,r<=i->i<k->key f p k<key f p i)->
  (∀i j,i<j->j<k->key f p i<key f p j)->
  ∃m,Run (zeh f) n (kas_place p k g l r) m/\m<=k/\(∀i,i<m->¬ key f p k<key f p i)/\(∀i,m<=i->i<k->key f p k<key f p i)
 | 0,l,r,h1,h2,Z,I,J,_=>#[l,by rw[kas_place.eq_1];show .ret _,by lia,I,λi hi=>J i '!']
 | g+1,l,r,h1,h2,Z,I,J,q=>by
  rw[kas_place.eq_2];by_cases B:l ≥ r;show#[l,?_,by lia,I,λi hi=>J i '!'];rw[if_pos B];show .ret _;rw[if_neg B];by_cases O:key f p k<key f p ((l+r) / 2)
  obtain⟨m,g1,g2,g3,U⟩:=zce p hp k F g l ((l+r) / 2) '!' '!' '!' I (λi hi Y=>by
   by_cases e:i=(l+r) / 2;rw[e];show O;have:=q ((l+r) / 2) i '!' Y;lia) q
  show#[m,.ask (yf hp F) '¸' ?_,g2,g3,U];rw[show zeh f (p.getD k 0) (p.getD ((l+r) / 2) 0)=true from aA O,if_pos rfl];show g1
  obtain⟨m,g1,g2,g3,U⟩:=zce p hp k F g ((l+r) / 2+1) r h1 '!' '!' (λi hi=>by
   by_cases e:i=(l+r) / 2;rw[e];show O;have:=q i ((l+r) / 2) '!' '!';lia) J q
  show#[m,.ask (yf hp F) '¸' ?_,g2,g3,U];rw[show zeh f (p.getD k 0) (p.getD ((l+r) / 2) 0)=false from aG O,if_neg ax];show g1
def zc1 {p:Array Nat}{q d:Nat}(h1:q<p.size)(h2:d<=q)(k:Nat):key f (bubble p q d) k=if k=q - d then key f p q else if q - d<k/\k<=q then key f p (k - 1) else key f p k:=by
 unfold key;simp only[cB];rw[getElem?_bubble h1 d h2];grind
theorem ziq (J:zbe n f):∀ (g k:Nat) (p:Array Nat),k+g=n->Up n f p k->∃q,Run (zeh f) n (kas_bin g p k) q/\Up n f q n
 | 0,k,p,U,h=>by
  have e:k=n:=by lia
  rw[e] at h;show#[p,by rw[kas_bin.eq_1];show .ret _,h]
 | g+1,k,p,U,h=>by
  have hs:=xS h.perm;obtain⟨l,Y,r2,Z,r4⟩:=zce (f:=f) p h.perm k '!' k 0 k '/' (aP _) '!' (λi hi=>by lia) (λi h1 h2=>by lia) (λi j B hj=>h.lt_of B hj)
  have F:Up n f (bubble p k (k - l)) (k+1):=by
   show#[(bubble_perm p k (k - l)).trans h.perm,by lia,λi hi=>?_];rw[zc1 '!' '!',zc1 '!' '!'];have I:k - (k - l)=l:=by lia
   rw[I];by_cases e1:i=l;grind;rw[if_neg e1];by_cases e2:l<i;rw[if_pos '!',if_neg '!',if_pos '!',gR];show h.lt_of '!' '!';rw[if_neg '!'];by_cases O:i+1=l;rw[if_pos O];have h1:=Z i '!';have h2:=zgX J h.perm (i:=i) (j:=k) '!' '!' '!';lia;rw[if_neg O,if_neg '!'];show h.lt_of '!' '!'
  obtain⟨q,q1,q2⟩:=ziq J g (k+1) (bubble p k (k - l)) '!' F;show#[q,?_,q2];rw[kas_bin.eq_2];show Run.bind Y q1
def zm5 (B:zbe n f)(I:2<=n):∃q,Run (zeh f) n (kas_sort n) q/\Up n f q n:=by
 obtain⟨m,p,h1,h2,F⟩:=ziy B I 'Ç'.toArray (Array.Perm.refl _);unfold kas_sort;by_cases J:m<n;obtain⟨q,U,O⟩:=ziq B (n - m) m p '!' F;show#[q,Run.bind h1 ?_,O];grind;have e:m=n:=by have:=F.le;lia
 show#[p,Run.bind h1 ?_,by lia];rw[if_neg J];show .ret _
end
theorem zgW {prog:Aa}{w:Ab}{A:Ae}{s:AZ}{b:Bool}{Q:Bool->AZ->Prop}:∀ {ns B:AG} {xs ys:AN} (i:Nat),yi 'K' xs->yi (B.map V.int) ys->ns.length=B.length->Q (HT.lexLt ns B) s->W.KatLex prog w A b false Q (xs.zip ys) i s
 | [],[],_,_,i,I,J,_,q=>by cases I;cases J;show W.kat_nil q
 | [],_::_,_,_,_,_,_,h,_=>by simp at h
 | _::_,[],_,_,_,_,_,h,_=>by simp at h
 | a::ns,c::B,_,_,i,I,J,Y,q=>by
  cases I with
  | cons Z O=>
   cases J with
   | cons r2 U=>
    obtain⟨t,rfl⟩:=Z;obtain⟨u,rfl⟩:=r2;rw[gS];have F:Q (if a=c then HT.lexLt ns B else decide (a<c)) s:=q;show W.kat_cons (wpAny_eqBool_int ?_);by_cases e:a=c;rw[show (a==c)=true from by lia];rw[if_pos e] at F;show W.kat_yes (zgW '(' O U (by simpa using Y) F);rw[show (a==c)=false from beq_false_of_ne e];rw[if_neg e] at F;show W.kat_no ?_
    cases (b&&i==0) with
    | true=>show oneLt_int F
    | false=>show W.kat_one _ _ (P.lt_int F)
theorem zX:∀s:AG,HT.lexLt s s=false
 | []=>rfl
 | a::s=>by change (if a=a then HT.lexLt s s else _)=false;rw[if_pos rfl];show zX s
theorem zay:∀ {a b c:AG},a.length=b.length->b.length=c.length->HT.lexLt a b=true->HT.lexLt b c=true->HT.lexLt a c=true
 | [],[],[],_,_,h,_=>h
 | x::a,y::b,z::c,h1,h2,J,O=>by
  have q:(if x=y then HT.lexLt a b else decide (x<y))=true:=J;have B:(if y=z then HT.lexLt b c else decide (y<z))=true:=O;change (if x=z then HT.lexLt a c else decide (x<z))=true;by_cases F:x=y;by_cases I:y=z;rw[if_pos F] at q;rw[if_pos I] at B;rw[if_pos (F.trans I)];show zay (by simpa using h1) (by simpa using h2) q B;grind;grind
 | [],_::_,_,h,_,_,_=>by simp at h
 | _::_,[],_,h,_,_,_=>by simp at h
 | [],[],_::_,_,h,_,_=>by simp at h
 | _::_,_::_,[],_,h,_,_=>by simp at h
theorem zax:∀ {a b:AG},a.length=b.length->a=b\/HT.lexLt a b=true\/HT.lexLt b a=true
 | [],[],_=>.inl A5
 | [],_::_,h=>by simp at h
 | _::_,[],h=>by simp at h
 | x::a,y::b,h=>by
  change _\/(if x=y then HT.lexLt a b else decide (x<y))=true\/(if y=x then HT.lexLt b a else decide (y<x))=true;by_cases e:x=y
  ·subst e;rw[if_pos rfl,if_pos rfl];rcases zax (a:=a) (b:=b) '¿' with h1 | h1 | h1
   all_goals right
  ·rw[if_neg e,if_neg (Ne.symm e)];rcases Int.lt_or_gt_of_ne e with h1 | h1
   all_goals right
theorem zdo {α:Type}{p q:α->Bool}:∀ {l:List α},(∀x∈l,p x=true->q x=true)->(∃x∈l,p x=false/\q x=true)->l.countP p<l.countP q
 | [],_,h=>by right
 | y::l,h,k=>by
  have I:l.countP p<=l.countP q:=List.countP_mono_left λx B hp=>h x (ak _ B) hp;rw[List.countP_cons,List.countP_cons];obtain⟨x,B,hp,F⟩:=k;rcases au.mp B with rfl | B;rw[hp,F];simp;lia;have O:=zdo (l:=l) (λz J=>h z (ak _ J)) #[x,B,hp,F];grind
def xD (A9:AF)(i:Nat):Int:=(A9.countP λc=>HT.lexLt c (A9.getD i [])  : Nat)
def zaw{A9:AF}(q:∀st∈A9,st.length=m)(hi:i<A9.length)(I:j<A9.length):decide (xD A9 i<xD A9 j)=HT.lexLt (A9.getD i []) (A9.getD j []):=by
 have J:A9.getD i []∈A9:=by rw[bq,am hi];show bj hi
 have O:A9.getD j []∈A9:=by rw[bq,am I];show bj I
 have U:∀ {a b:AG},a∈A9->b∈A9->HT.lexLt a b=true->(A9.countP λc=>HT.lexLt c a)<(A9.countP λc=>HT.lexLt c b):=λ{a b} F Y B=>
  zdo (λx Z hp=>zay ((q x Z).trans (q a F).symm) ((q a F).trans (q b Y).symm) hp B) #[a,F,zX a,B]
 unfold xD;generalize A9.getD i []=a at J;generalize A9.getD j []=b at O;rcases zax (a:=a) (b:=b) ((q a J).trans (q b O).symm) with h | h | h;subst h;rw[zX];right
 all_goals grind
def u9 (h:Heap)(L:Addr):AB:=(List.range h.objs.size).filterMap λb=>if b=L then none else (h.get? b).map λo=>(b,o)
def yp:(b,o)∈u9 h L↔b≠L/\h.get? b=some o:=by
 unfold u9;rw[dB];constructor;rintro⟨c,F,e⟩;by_cases q:c=L;right;rw[if_neg q] at e;obtain⟨o',B,I⟩:=aI.mp e;grind;rintro⟨q,B⟩;show#[b,aL.mpr (av B),'9']
def zr6 {h:Heap}{L:Addr}{m q:AI}(a:h.Ns L m)(b:h.Ns L q):m=q:=by
 obtain⟨o,es,ep,U,Y,Z,hf⟩:=a;obtain⟨o',es',B,F,I,J,O⟩:=b;grind
section
variable {X:Cx}
def zeQ(x:zJ P w H h a o):∃u,h.get? a=some u:=by
 cases o with
 | lst xs=>obtain⟨_,_,_,_,e⟩:=x;show#[_,e]
 | tup xs=>obtain⟨_,_,_,p⟩:=x;obtain⟨o,e,_⟩:=p;show#[o,e]
 | dK A7=>obtain⟨_,_,_,_,o,_,_,e,_⟩:=x;show#[_,e]
 | dT A7=>obtain⟨_,_,_,_,o,_,_,e,_⟩:=x;show#[_,e]
 | set S n=>obtain⟨o,_,_,_,e,_⟩:=x;show#[_,e]
 | ins C dx fs=>obtain⟨_,_,_,e,_⟩:=x;show#[_,e]
 | own y=>show x
 | xd fs=>obtain⟨_,⟨_,_,_,e,_⟩,_⟩:=x;show#[_,e]
 | met f y=>show#[_,x]
 | rng lo hi=>obtain⟨_,_,_,e⟩:=x;show#[_,e]
 | frz o u=>obtain⟨e,_⟩:=x;show#[_,e]
 | tbl ps=>show#[_,x]
 | ext q=>obtain⟨_,e,_⟩:=x;show e
def zji{A6:AB}{G:St}{H:Hp}{s:AZ}(I:')')(hm:s.heap.Ns X.env.locals m){h':Heap}{BB:Addr}{ys:AT}{its:AN}(kp:∀b o,b≠X.env.locals->s.heap.get? b=some o->h'.get? b=some o)(J:h'.Ns X.env.locals m)(Y:s.heap.get? BB=none)(O:H BB=none)(ho:h'.get? BB=some { cls:=.type "list",data:=.seq its.toArray c })(hv:yi ys its)(hz:ys.length<=sizeLine)(tk:Nat):Inv X A6 G (upd H BB (.lst ys)) 'ǌ':=by
 have nD:∀b o,s.heap.get? b=some o->b≠BB:=λb o e z=>by rw[z,Y] at e;cases e
 have nL:∀b u,H b=some u->b≠X.env.locals:=λb u e=>ze e I.free;show Inv.step (ch:=[]) (g':=s.gens) (d':=s.drawn) (t':=tk) I (λb F=>by simp at F) (λb o h1 _ _ B _=>kp b o h1 B) (λb o h1 _ _ B _=>#[o.slots,kp b o h1 B]) (λb o _ B h5=>by rw[zc (nD b o B)];show h5) (λb o _ B=>?_) (λb ys q=>by rw[zc (ze q O)];show q) (λb o u q=>by rw[zc (ze q O)];show q) (λb ps q=>#[#v[],by rw[zc (ze q O),gQ];show q]) (λm' Z=>by rw[<- zr6 hm Z];show J) (λb u F=>?_) I.bare;by_cases hL:b=X.env.locals;obtain⟨o',_,_,h1,_⟩:=J;right;show#[o,kp b o hL B];by_cases U:b=BB;subst U;rw[zg] at F;cases F;show#[hz,its,c,hv,ho];rw[zc U] at F;show (I.hok b u F).stay (λc v ab q=>kp c v ?_ q) (λc q=>by rw[zc (ze q O)];show q) (λc ys q=>by rw[zc (ze q O)];show q);grind
theorem zfh(h:yi vs its):∀ (p:AR),(∀i∈p,i<vs.length)->yi (p.map λi=>vs.getD i .non) (p.map λi=>its.getD i .none)
 | [],_=>.nil
 | i::p,hp=>by
  have hi:=hp i aq;obtain⟨u,B,F⟩:=h.get (i:=i) (x:=vs[i]) (am hi);show .cons ?_ (zfh h p λj q=>hp j (ak _ q));right
def uT {α:Type}(d:α)(l:List α):(List.range l.length).map (λi=>l.getD i d)=l:=by show iz '$' λi h1 h2=>?_;simp[h2]
end
open PySem.Calls PySem.W
def uO {prog:Aa}{w:Ab}{A:Ae}{E:AA}{s:AZ}{a:Addr}{vs:AN}{n:Nat}{P:PySem.Fin->AZ->Prop}(ho:s.heap.get? a=some 'ǉ')(h2:vs.length<2)
  (h:∀h' c,(∀b o,b≠a->s.heap.get? b=some o->h'.get? b=some o)->h'.get? a=some (seqObj "list" vs.toArray c)->P (.done (.ret .none)) '5') :
  Ag prog w A (Builtin.«list.sort» #['r',[]]) P E s:=by
 obtain⟨e1,ho1⟩:∃e1,(s.heap.update a (Obj.mapSeq λ_=>(#v[]:AK))).get? a=some (seqObj "list" #v[] e1):=#[_,get?_update_seq ho λ_=>#v[]];rw[list_sort_plain];show aa (iD ho A5 ?_);show aa (gm ho A5 ?_ (by rw[aV,cH];lia) (aP _));show aa (seqEpoch_at ho1 A5 ?_);show aa (wpAny_newTuple ?_ (by change vs.length<=_;rw[cH];lia));show aa (ir ?_ (aP _));show bP ?_;change Ag prog w A _ P E { s with heap:='Ə'.push 'Ď' };dsimp only;have hn2:vs.toArray.size<2:=by rw[aV];lia
 rw[if_pos hn2,if_pos hn2];show aa '3';show aa (m:=(pure ():StateT SortSt _ _).run _) '3';have hsnd:(arrOf (SortSt.mk' general' 'ó' #v[] 7 none)).map (λx=>x.snd)=vs.toArray:=by change 'ó'.map (λx=>x.snd)=vs.toArray;apply fX.mp;rw[iA,Array.toList_zip];show List.map_snd_zip '/'
 have ha:a<s.heap.objs.size:=av ho;have g3:('Ə'.push 'Ď').get? a=some (seqObj "list" #v[] e1):=ah _ (ah _ ho1);show aa (seqEpoch_at g3 A5 ?_);show aa (gm g3 A5 ?_ (aP _) ?_);change wpAny _ _ _ _ _ _;dsimp only;rw[hsnd];simp only[ii,aN,if_false];show af (h _ _ (λb o hb e=>?_) (get?_update_seq g3 λ_=>vs.toArray));rw[gF _ _ _ _ hb];show ah _ (ah _ ?_);rw[gF _ _ _ _ hb];show e;dsimp only;rw[hsnd,aV,cH];lia
section
variable {X:Cx}
end
def Ris (xs:Array Nat):Prop:=∀i j:Nat,i<j->j<xs.size->xs.getD i 0<xs.getD j 0
theorem zdj {xs:Array Nat}(F:Ris xs){j:Nat}:∀ (B lo hi:Nat),lo<=hi->hi<=xs.size->hi - lo<=B->(∀i,i<lo->xs.getD i 0<j)->(∀i,hi<=i->i<xs.size->j<=xs.getD i 0)->
  ∃p,SetTable.below.go xs j B lo hi=p/\p<=xs.size/\(∀i,i<p->xs.getD i 0<j)/\(∀i,p<=i->i<xs.size->j<=xs.getD i 0)
 | 0,lo,hi,h1,h2,h3,I,J=>by
  have:lo=hi:=by lia
  subst this;show#[lo,A5,h2,I,J]
 | B+1,lo,hi,h1,h2,h3,I,J=>by
  change ∃p,(if lo<hi then if xs.getD ((lo+hi) / 2) j<j then SetTable.below.go xs j B ((lo+hi) / 2+1) hi else SetTable.below.go xs j B lo ((lo+hi) / 2) else lo)=p/\_;by_cases Y:lo<hi;rw[if_pos Y];have Z:(lo+hi) / 2<xs.size:=by lia
  have e:xs.getD ((lo+hi) / 2) j=xs.getD ((lo+hi) / 2) 0:=by simp[Z]
  rw[e];by_cases O:xs.getD ((lo+hi) / 2) 0<j;rw[if_pos O];show zdj F B _ hi '!' h2 '!' (λi U=>?_) J;by_cases q:i=(lo+hi) / 2;rw[q];show O;have:=F i ((lo+hi) / 2) '!' Z;lia;rw[if_neg O];show zdj F B lo _ '!' '!' '!' I (λi U hs=>?_);by_cases q:i=(lo+hi) / 2;rw[q];lia;have:=F ((lo+hi) / 2) i '!' hs;lia;rw[if_neg Y];have:lo=hi:=by lia
  subst this;show#[lo,A5,h2,I,J]
def xQ(q:Ris xs)(j:Nat):SetTable.below xs j<=xs.size/\(∀i,i<SetTable.below xs j->xs.getD i 0<j)/\(∀i,SetTable.below xs j<=i->i<xs.size->j<=xs.getD i 0):=by obtain⟨p,e,h⟩:=zdj q (j:=j) xs.size 0 xs.size (aP _) '/' '/' (λi h=>absurd h (dL _)) (λi h1 h2=>by lia);have B:SetTable.below xs j=p:=e;rw[B];show h
def xK{xs:Array Nat}(h:xs[i]?=some j):i<xs.size/\xs.getD i 0=j:=by
 obtain⟨h1,h2⟩:=dg.mp h;right
def zfG{xs:Array Nat}(h:i<xs.size):xs[i]?=some (xs.getD i 0):=by simp[h]
def zln(B:Ris xs)(h:xs[i]?=some j):SetTable.below xs j=i:=by
 obtain⟨h1,h2⟩:=xK h;obtain⟨J,F,I⟩:=xQ B j;rcases cW 'ȵ' i with q | q | q;have:=I _ '/' '!';have:=B _ i q h1;lia;show q;have:=F i q;lia
def zaL{t:SetTable}(q:Ris t.place)(h:t.place[i]?=some j):t.slot j = .live i:=by unfold SetTable.slot;rw[zln q h];simp[h]
def zkS {t:SetTable}(q:t.dummies = #v[]){j:Nat}(h:∀i:Nat,t.place[i]?≠some j):t.slot j = .empty:=by
 unfold SetTable.slot;have e:(t.place[SetTable.below t.place j]?==some j)=false:=by grind
 have B:SetTable.has t.dummies j=false:=by rw[q];rfl
 right
def zqy {t:SetTable}(q:Ris t.place)(B:t.dummies = #v[])(j:Nat):(t.slot j = .empty/\∀i:Nat,t.place[i]?≠some j)\/∃i,t.slot j = .live i/\t.place[i]?=some j:=by
 by_cases h:∃i:Nat,t.place[i]?=some j;obtain⟨i,hi⟩:=h;show .inr #[i,zaL q hi,hi];have h':∀i:Nat,t.place[i]?≠some j:=λi e=>h #[i,e];show .inl #[zkS B h',h']
def tm (q:Nat):SetTable:=#[q,#v[],#v[],0,true,0,true]
def stp (q:Nat)(h:Int):Nat->SetTable.Probe
 | 0=>(tm q).probeStart h
 | n+1=>(tm q).advance (stp q h n)
def wk (q:Nat)(h:Int)(n:Nat):Nat:=(stp q h n).j
def zil (q:Nat)(p:SetTable.Probe):((tm q).advance p).dummy=p.dummy:=by unfold SetTable.advance;split <;> rfl
theorem zfc (q:Nat)(h:Int):∀n,(stp q h n).dummy=none
 | 0=>rfl
 | n+1=>by change ((tm q).advance _).dummy=none;rw[zil,zfc q h n]
def zgw (q:Nat)(p:SetTable.Probe)(h:0<p.more):(tm q).advance p={ p with j:=p.j+1,more:=p.more - 1 }:=by unfold SetTable.advance;rw[if_pos h]
def zdg (q:Nat)(p:SetTable.Probe)(h:p.more=0):(tm q).advance p={ p with j:='ǎ' % (q+1),more:=SetTable.runEnd q ('ǎ' % (q+1)) - 'ǎ' % (q+1),i:='ǎ' % (q+1),perturb:=p.perturb / 32 }:=by unfold SetTable.advance;rw[if_neg '!'];rfl
def lp (q:Nat)(h:Int):Nat->Nat×Nat
 | 0=>(SetTable.bits h % (q+1),SetTable.bits h)
 | n+1=>SetTable.leap q (lp q h n).1 (lp q h n).2
def znZ (q i:Nat):SetTable.runEnd q i - i<=9:=by unfold SetTable.runEnd;split <;> lia
theorem zd6 (B:Nat)(h:Int){T i q:Nat}(e:stp B h T=#[i,SetTable.runEnd B i - i,i,q,none]):∀k,k<=SetTable.runEnd B i - i->stp B h (T+k)=#[i+k,SetTable.runEnd B i - i - k,i,q,none]
 | 0,_=>e
 | k+1,F=>by
  change (tm B).advance (stp B h (T+k))=_;rw[zd6 B h e k '!',zgw B _ '!'];grind
theorem zjF (q:Nat)(h:Int):∀k,∃T,T<=10 * k/\stp q h T=#[(lp q h k).1,SetTable.runEnd q (lp q h k).1 - (lp q h k).1,(lp q h k).1,(lp q h k).2,none]
 | 0=>#[0,aj _,A5]
 | k+1=>by obtain⟨T,B,e⟩:=zjF q h k;have F:=znZ q (lp q h k).1;show#[T+(SetTable.runEnd q (lp q h k).1 - (lp q h k).1)+1,by lia,?_];change (tm q).advance (stp q h (T+_))=_;rw[zd6 q h e _ '/',zdg q _ (Nat.sub_self _)];rfl
theorem zc3 (q:Nat)(h:Int):∀k,(lp q h k).2=SetTable.bits h / 32 ^ k
 | 0=>by change SetTable.bits h=_;simp
 | k+1=>by change (lp q h k).2 / 32=_;rw[zc3 q h k,Nat.div_div_eq_div_mul,Nat.pow_succ]
def zol (h:Int):SetTable.bits h<2 ^ 64:=by
 unfold SetTable.bits;grind
def lcg (m i:Nat):Nat:=(i * 5+1) % m
def orb (m:Nat):Nat->Nat->Nat
 | 0,i=>i
 | k+1,i=>lcg m (orb m k i)
theorem zjR (q:Nat)(h:Int):∀k,(lp q h (13+k)).1=orb (q+1) k (lp q h 13).1
 | 0=>rfl
 | k+1=>by
  change ((lp q h (13+k)).1 * 5+1+(lp q h (13+k)).2 / 32) % (q+1)=lcg (q+1) (orb (q+1) k _);rw[<- zjR q h k,zc3];have B:=zol h
  have e:SetTable.bits h / 32 ^ (13+k)=0:=by
   show Nat.div_eq_of_lt (aU B ?_)
   calc 2 ^ 64<=32 ^ 13:=by ext
    _<=32 ^ (13+k):=gb '#' '!'
  rw[e];rfl
theorem zcc (m:Nat)(a:Nat):∀ (b i:Nat),orb m (a+b) i=orb m b (orb m a i)
 | 0,i=>rfl
 | b+1,i=>by change lcg m (orb m (a+b) i)=lcg m (orb m b _);rw[zcc m a b i]
def zqT (m:Nat):Nat->Nat->AR
 | 0,_=>[]
 | n+1,i=>i::zqT m n (lcg m i)
def zms (m:Nat)(k i:Nat):orb m (k+1) i=orb m k (lcg m i):=by rw[Nat.add_comm,zcc];rfl
theorem zdO (m:Nat):∀ (n i k:Nat),k<n->(zqT m n i)[k]?=some (orb m k i)
 | n+1,i,0,_=>rfl
 | n+1,i,k+1,h=>by rw[zms];show zdO m n (lcg m i) k '!'
theorem zhe (m:Nat):∀ (n i:Nat),(zqT m n i).length=n
 | 0,_=>rfl
 | n+1,i=>by change (zqT m n _).length+1=n+1;rw[zhe m n]
structure Ring (m:Nat):Prop where
 pos:0<m
 all:∀v,v<m->v∈zqT m m 0
 back:orb m m 0=0
def Ring.reach(r:Ring m)(hi:i<m)(J:j<m):∃k,k<m/\orb m k i=j:=by
 obtain⟨a,F,U⟩:=cE.mp (r.all i hi);obtain⟨b,I,Y⟩:=cE.mp (r.all j J);rw[zhe] at F I
 have q:orb m a 0=i:=by
  have:=zdO m m 0 a F;right
 have B:orb m b 0=j:=by
  have:=zdO m m 0 b I;right
 by_cases O:a<=b;show#[b - a,by lia,?_];rw[<- q,<- zcc,show a+(b - a)=b by lia];show B;show#[b+m - a,by lia,?_];rw[<- q,<- zcc,show a+(b+m - a)=m+b by lia,zcc,r.back];show B
def zte (m:Nat):Bool:=((List.range m).all λv=>(zqT m m 0).contains v)&&orb m m 0==0
def zdW(q:0<m)(h:zte m=true):Ring m:=by
 unfold zte at h;rw[aR] at h;show#[q,λv B=>?_,cG h.2];right
def zvN:Ring 8:=zdW '#' 'S'
def ztd:Ring 32:=zdW '#' 'S'
def zqn:Ring 128:=zdW '#' 'S'
def zqo:Ring 512:=zdW '#' 'S'
def zni(r:Ring (q+1))(h:Int)(B:j<=q):∃n,n<10 * SetTable.turns q/\wk q h n=j:=by have F:(lp q h 13).1<q+1:=ij _ (gU _);obtain⟨k,J,e⟩:=r.reach F (ik B);obtain⟨T,O,I⟩:=zjF q h (13+k);show#[T,by unfold SetTable.turns;lia,?_];change (stp q h T).j=j;rw[I];change (lp q h (13+k)).1=j;rw[zjR,e]
def zqq {xs:Array Nat}(B:Ris xs){i j a b:Nat}(hi:xs[i]?=some a)(F:xs[j]?=some b)(h:a<b):i<j:=by
 obtain⟨h1,h2⟩:=xK hi;obtain⟨I,J⟩:=xK F;rcases cW i j with q | q | q;show q;subst q;lia;have:=B j i q h1;lia
theorem zhm(q:Ris xs):∀ (M:Nat),(∀j,j<M->∃i:Nat,xs[i]?=some j)->∀ (j i:Nat),j<M->xs[i]?=some j->j<=i
 | _,_,0,_,_,_=>aP _
 | M,h,j+1,i,I,e=>by obtain⟨F,B⟩:=h j '!';have h1:=zqq q B e (Nat.lt_succ_self j);have h2:=zhm q M h j F '!' B;lia
def zqp(q:Ris xs)(h:xs.size<M):∃j,j<M/\∀i:Nat,xs[i]?≠some j:=by show cN λB=>?_;have all:∀j,j<M->∃i:Nat,xs[i]?=some j:=λj F=>cN λI=>B #[j,F,λi e=>I #[i,e]];obtain⟨i,e⟩:=all (M - 1) '!';have h1:=zhm q M all (M - 1) i '!' e;have h2:=(xK e).1;lia
section
variable {t:SetTable}{hashAt:Nat->Int}{h:Int}
theorem zhh (F:Ris t.place)(I:t.dummies = #v[]):∀ (q n:Nat),(∃N,n<=N/\N<n+q/\∀i:Nat,t.place[i]?≠some (wk t.mask h N))->
  ∃N,n<=N/\(∀m,n<=m->m<N->∃i,t.place[i]?=some (wk t.mask h m)/\hashAt i≠h)/\
   (((∀i:Nat,t.place[i]?≠some (wk t.mask h N))/\SetTable.probe.go t hashAt h q '³'=some (.empty (wk t.mask h N) none))\/
    ∃i,t.place[i]?=some (wk t.mask h N)/\hashAt i=h/\SetTable.probe.go t hashAt h q '³'=some (.candidate (wk t.mask h N) i (stp t.mask h (N+1))))
 | 0,n,⟨N,h1,h2,_⟩=>by lia
 | q+1,n,⟨N,h1,h2,J⟩=>by
  rcases zqy F I 'ĺ' with ⟨e,hn⟩ | ⟨i,e,hi⟩;show#[n,aj _,λm a b=>by lia,.inl #[hn,?_]];change (match t.slot 'ĺ' with | .empty=>some (SetTable.Met.empty 'ĺ' '³'.dummy) | .dummy=>_ | .live i=>_)=_;rw[e,zfc];by_cases B:hashAt i=h;show#[n,aj _,λm a b=>by lia,.inr #[i,hi,B,?_]];change (match t.slot 'ĺ' with | .empty=>_ | .dummy=>_ | .live i=>if hashAt i==h then some (SetTable.Met.candidate 'ĺ' i (t.advance '³')) else _)=_;rw[e];change (if (hashAt i==h)=true then _ else _)=_;rw[if_pos (iG.mpr B)];rfl;have Z:n≠N:=λz=>by subst z;show J i hi
  obtain⟨N',a1,O,a3⟩:=zhh F I q (n+1) #[N,by lia,by lia,J];have e2:SetTable.probe.go t hashAt h (q+1) '³'=SetTable.probe.go t hashAt h q (stp t.mask h (n+1)):=by change (match t.slot 'ĺ' with | .empty=>_ | .dummy=>_ | .live i=>if hashAt i==h then _ else SetTable.probe.go t hashAt h q (t.advance '³'))=_;rw[e];change (if (hashAt i==h)=true then _ else _)=_;rw[if_neg (λz=>B (iG.mp z))];rfl
  show#[N',by lia,λm b1 U=>?_,?_];by_cases Y:m=n;subst Y;show#[i,hi,B];show O m '!' U;right
variable {prog:Aa}{w:Ab}
abbrev tk (prog:Aa)(w:Ab):HeapKind prog w (List Key):=tupleKind (zV prog w)
def zuj (t:SetTable)(h:Int)(i:Nat):Prop:=∃n,n<10 * SetTable.turns t.mask/\t.place[i]?=some 'ĺ'/\∀m,m<n->∃q:Nat,t.place[q]?=some (wk t.mask h m)
def uZ (m:Nat):Prop:=m=7\/m=31\/m=127\/m=511
def uZ.ring(h:uZ m):Ring (m+1):=by
 rcases h with rfl | rfl | rfl | rfl;show zvN;show ztd;show zqn;show zqo
def uZ.le(h:uZ m):7<=m/\m<=511:=by rcases h with rfl | rfl | rfl | rfl <;> lia
def uZ.odd(h:uZ m):(m % 2==0)=false:=by rcases h with rfl | rfl | rfl | rfl <;> rfl
structure Tb (prog:Aa)(w:Ab)(t:SetTable)(es:Array (Int×Value))(xs:List (List Key×Addr)):Prop where
 eq:es.toList=xs.map λq=>((tk prog w).hash q.1,Value.ref q.2)
 nd:(xs.map (·.1)).Nodup
 dm:t.dummies = #v[]
 ris:Ris t.place
 le:∀ (i j:Nat),t.place[i]?=some j->j<=t.mask
 sz:t.place.size=xs.length
 msk:uZ t.mask
 few:xs.length<=t.mask
 plain:t.plain=true
 led:t.led = !w.params.followText "set-order"
 reach:∀ (i:Nat) (q:List Key×Addr),xs[i]?=some q->zuj t ((tk prog w).hash q.1) i
variable {es:Array (Int×Value)}{xs:List (List Key×Addr)}
def Tb.size (T:'å'):es.size=xs.length:=by rw[<- aM,T.eq,ae]
def Tb.get (T:'å'){i:Nat}{q:List Key×Addr}(h:xs[i]?=some q):es[i]?=some ('C'.hash q.1,Value.ref q.2):=by rw[<- cq,T.eq,aF,h];rfl
def Tb.at' (T:'å'){i j:Nat}(h:t.place[i]?=some j):∃q,xs[i]?=some q:=by
 have:=(xK h).1;rw[T.sz] at this;right
def Tb.fits (T:'å'):t.fits es.size=true:=by unfold SetTable.fits SetTable.fill;rw[T.size,T.sz,T.dm];have:=T.few;simp;lia
def Tb.empty (T:'å')(h:Int):∃N,N<10 * SetTable.turns t.mask/\∀i:Nat,t.place[i]?≠some (wk t.mask h N):=by have:=T.few;obtain⟨j,q,B⟩:=zqp T.ris (M:=t.mask+1) (by rw[T.sz];lia);obtain⟨N,h1,h2⟩:=zni T.msk.ring h (dM q);show#[N,h1,by rw[h2];show B]
variable {A:Ae}{E:AA}{s:AZ}
def zfr(h:(zV prog w).is k v=true):(∃i t,v = .int i t)\/∃x t,v = .str x t:=by
 rcases zP h with ⟨i,t,_,e⟩ | ⟨x,t,_,e⟩;show .inl #[i,t,e];show .inr #[x,t,e]
theorem zb0:∀ {ks:List Key} {vs:AN},ItemsAre (zV prog w) ks vs->∀v∈vs,(∃i t,v = .int i t)\/∃x t,v = .str x t
 | _,_,.nil,v,h=>by simp at h
 | _,_,.cons h1 h2,v,h=>by
  rcases au.mp h with rfl | h;show zfr h1;show zb0 h2 v h
def zc5(O:'C'.is s.heap k b)(h:Q false s):Ag prog w A (ofAClassStatement 8 'q') Q E s:=by
 have F:IsTupleKey (zV prog w) s.heap k b:=O;have U:=F.typeIs;obtain⟨o,B,n,Y,_,Z,hi⟩:=F;unfold ofAClassStatement;show aa (dD U ?_);dsimp only;rw[if_pos '#'];show aa '3';simp only[dO,aN,if_false];show aa (cL Y Z ?_);show aa ?_;change wpAny _ _ (forIn B _ _) _ _ s;rw[<- fj];show dQ _ (λzu r s'=>r.1=none/\s'=s/\∀v∈zu,(∃i t,v=Value.int i t)\/∃x t,v=Value.str x t) _ ?_ ?_ _ _ #[A5,A5,zb0 hi]
 ·rintro v zu r s' ⟨I,rfl,q⟩;have e:ofAClassStatement 7 v=pure false:=by rcases q v aq with ⟨i,t,rfl⟩ | ⟨x,t,rfl⟩ <;> rfl
  rw[e];show aa '3';simp only[aN,if_false];show af #[A5,A5,λu J=>q u (ak _ J)]
 rintro⟨r1,r2⟩ s' ⟨I,rfl,_⟩;simp only at I;subst I;show af h
def ztH(U:'C'.is s.heap k b):∀ (l:AN),(∀v∈l,∃F q,v = .ref q/\'C'.is s.heap F q)->Q false s->Ag prog w A (searchCouldBeSeen 'q' l) Q E s:=by
 intro l Y h;unfold searchCouldBeSeen;show aa ?_;show dQ _ (λzu r s'=>r.1=none/\s'=s/\∀v∈zu,∃F q,v=Value.ref q/\'C'.is s.heap F q) _ ?_ ?_ _ _ #[A5,A5,Y]
 ·rintro v zu r s' ⟨J,rfl,B⟩;obtain⟨F,q,rfl,I⟩:=B v aq;have next:∀u∈zu,∃F q,u=Value.ref q/\'C'.is s'.heap F q:=λu O=>B u (ak _ O);dsimp only;split
  ·show af #[A5,A5,next]
  ·show aa ('C'.quiet U ?_);simp only[dO,aN,if_false];show aa ('C'.quiet I ?_);simp only[dO,aN,if_false];show aa (zc5 U ?_);simp only[aN,if_false];show aa (zc5 I ?_);simp only[aN,if_false];show af #[A5,A5,next]
 rintro⟨Z,r2⟩ s' ⟨J,rfl,_⟩;simp only at J;subst J;show af h
def zee (t:SetTable)(xs:List (List Key×Addr))(h:Int)(k:List Key)(n:Nat):Prop:=∀m,m<n->∃ (i:Nat) (q:List Key×Addr),t.place[i]?=some (wk t.mask h m)/\xs[i]?=some q/\q.1≠k
theorem ze7 {a b:Addr}{o:Obj}{ep:Nat}{k:List Key}{adding:Bool}{Q:SetFound->AZ->Prop}(hu:A.units<cLine)(T:'å')(hk:'C'.is s.heap k b)(hel:∀q∈xs,'C'.is s.heap q.1 q.2)
  (ho:s.heap.get? a=some o) (hd:o.data = .set es ep t)
  (found:∀r i q,xs[i]?=some q->q.1=k->(r=none/\adding=true\/r=some i)->Q (.there r) s)
  (free:∀N,N<10 * SetTable.turns t.mask->(∀i:Nat,t.place[i]?≠some 'Î')->zee t xs '^' k N->Q (.free 'Î' false) s) :
  ∀ (fuel n:Nat) (stand:Option SetTable.Probe),stand.getD (t.probeStart '^')=stp t.mask '^' n->10 * SetTable.turns t.mask<n+fuel->n<=10 * SetTable.turns t.mask->zee t xs '^' k n->
   Ag prog w A (setSearchFrom a 'q' '^' adding fuel stand) Q E s
 | 0,n,stand,_,h2,h3,_=>by lia
 | fuel+1,n,stand,h1,h2,h3,h4=>by
  unfold setSearchFrom;show aa (bL ho hd T.fits ?_);dsimp only;rw[show t.gaveWay=false from T.msk.odd];simp only[aN,if_false];rw[h1];obtain⟨N0,hN0,eN0⟩:=T.empty '^'
  have hn0:n<=N0:=by
   rcases Nat.lt_or_ge N0 n with q | q;obtain⟨i,_,e,_⟩:=h4 N0 q;show absurd e (eN0 i);show q
  have pass:∀N,n<=N->(∀m,n<=m->m<N->∃i:Nat,t.place[i]?=some (wk t.mask '^' m)/\(es[i]?.map '%').getD 0≠'C'.hash k)->zee t xs '^' k N:=λN hN hh m hm=>by
   rcases Nat.lt_or_ge m n with q | q;show h4 m q;obtain⟨i,e1,e2⟩:=hh m q hm;obtain⟨q,hq⟩:=T.at' e1;show#[i,q,e1,hq,λz=>e2 ?_];rw[T.get hq,<- z];rfl
  obtain⟨N,hN,hp,hc⟩:=zhh (t:=t) (hashAt:=λi=>(es[i]?.map '%').getD 0) (h:='C'.hash k) T.ris T.dm (10 * SetTable.turns t.mask) n #[N0,hn0,by lia,eN0]
  have hNle:N<=N0:=by
   rcases Nat.lt_or_ge N0 N with q | q;obtain⟨i,e,_⟩:=hp N0 hn0 q;show absurd e (eN0 i);show q
  rcases hc with ⟨he,hg⟩ | ⟨i,hi,hh,hg⟩;have hg':t.probe (λi=>(es[i]?.map '%').getD 0) '^' (stp t.mask '^' n)=some (.empty 'Î' none):=hg;have fin:=free N '!' he (pass N hN hp);generalize hm:SetTable.probe t _ _ _=met;have:met=some (.empty 'Î' none):=hm.symm.trans hg';rw[this];dsimp only;show af fin;have hg':t.probe (λi=>(es[i]?.map '%').getD 0) '^' (stp t.mask '^' n)=some (.candidate 'Î' i (stp t.mask '^' (N+1))):=hg;generalize hm:SetTable.probe t _ _ _=met;have:met=some (.candidate 'Î' i (stp t.mask '^' (N+1))):=hm.symm.trans hg';rw[this];dsimp only;obtain⟨q,hq⟩:=T.at' hi;have hqe:=T.get hq;have hqk:=hel q (aB hq);have stl:t.slot 'Î' = .live i:=zaL T.ris hi
  have core:Ag prog w A (do
    let some (_,y):=es[i]? | unsupported "internal:set-entry"
    let equal <- holding [y] (eqBool y 'q')
    let (es',_,t') <- setState a
    if adding&&equal then return .there none
    let some smem:=t'.sameMemory t.moves t.mask | unsupported "set.changed-during-lookup:is-the-new-block-at-the-old-address"
    let still <- match (if smem then t'.slot 'Î' else .empty) with
     | .live i'=>match es'[i']? with
      | some (_,y')=>do pure (if <- isSame y' y then some i' else none)
      | none=>pure none
     | _=>pure none
    match still with
    | none=>rule "set.search.anew";setSearchFrom a 'q' '^' adding fuel none
    | some i'=>if equal then return .there (some i') else setSearchFrom a 'q' '^' adding fuel (some (stp t.mask '^' (N+1)))) Q E s:=by
   rw[hqe];dsimp only;show aa (bP ('C'.eqBool hu hqk hk ?_));show aa (bL ho hd T.fits ?_);dsimp only;by_cases hkk:q.1=k;rw[aA hkk]
   cases adding with
   | true=>
    simp only[Bool.and_self,if_true];show af (found none i q hq hkk (.inl #[A5,A5]))
   | false=>
    simp only[Bool.false_and,aN,if_false];have e1:t.sameMemory t.moves t.mask=some true:=by unfold SetTable.sameMemory;simp
    rw[e1];dsimp only;simp only[if_true];rw[stl];dsimp only;rw[hqe];dsimp only;show aa (wpAny_isSame_ref_self (aa '3'));simp only[if_true];show af (found (some i) i q hq hkk 'F')
   rw[aG hkk];simp only[Bool.and_false,aN,if_false];have e1:t.sameMemory t.moves t.mask=some true:=by unfold SetTable.sameMemory;simp
   rw[e1];dsimp only;simp only[if_true];rw[stl];dsimp only;rw[hqe];dsimp only;show aa (wpAny_isSame_ref_self (aa '3'));simp only[if_true];show ze7 hu T hk hel ho hd found free fuel (N+1) _ A5 '!' '!' λm hm=>?_;rcases Nat.lt_succ_iff_lt_or_eq.mp hm with z | z;show pass N hN hp m z;subst z;show#[i,q,hi,hq,hkk]
  split;show aa (ztH hk _ (λv hv=>?_) ?_);obtain⟨e,he,rfl⟩:=aJ.mp hv;have he':e∈es.toList:=by have:=bZ.mp he;show bZ.mpr (Array.mem_filter.mp this).1
  rw[T.eq] at he';obtain⟨q',hq',rfl⟩:=aJ.mp he';show#[_,_,A5,hel q' hq'];simp only[aN,if_false];show core;show core
end
def zeA {α:Type}(l:List α)(p:Nat)(x:α):List α:=l.take p++x::l.drop p
def zfO {α:Type}{l:List α}{p i:Nat}{x:α}(hp:p<=l.length)(h:i<p):(zeA l p x)[i]?=l[i]?:=by unfold zeA;rw[bD '?',cm h]
def zfM{α:Type}{l:List α}{x:α}(hp:p<=l.length):(zeA l p x)[p]?=some x:=by
 unfold zeA;right
def zfN {α:Type}{l:List α}{p i:Nat}{x:α}(hp:p<=l.length)(h:p<=i):(zeA l p x)[i+1]?=l[i]?:=by unfold zeA;rw[bp '?',bi,show i+1 - min p l.length=(i - p)+1 by lia,cT,gW,show p+(i - p)=i by lia]
def zdu {α:Type}{l:List α}{p:Nat}{x:α}(hp:p<=l.length):(zeA l p x).length=l.length+1:=by
 unfold zeA;grind
def zlN {α q:Type}(f:α->q)(l:List α)(p:Nat)(x:α):(zeA l p x).map f=zeA (l.map f) p (f x):=by
 unfold zeA;right
def zjg {α:Type}(l:List α)(p:Nat)(x:α):(zeA l p x).Perm (x::l):=by
 unfold zeA;show List.perm_middle.trans ?_;right
def yk{α:Type}(xs:Array α)(x:α):(SetTable.insertAt xs p x).toList=zeA xs.toList p x:=by
 unfold SetTable.insertAt zeA;rw[a6,bX,Array.toList_extract,Array.toList_extract,List.extract_eq_take_drop,List.extract_eq_take_drop];rw[iC,eG,aD];congr 1;change x::_=_;congr 1;change []++List.take _ (List.drop p xs.toList)=_;rw[fq];show bw ?_;right
def zcB {α:Type}(xs:Array α)(i:Nat):xs[i]?=xs.toList[i]?:=by right
def zfP{xs:Array Nat}(hp:p<=xs.size)(h:xs[i]?=some v):(SetTable.insertAt xs p j)[if i<p then i else i+1]?=some v:=by
 rw[zcB,yk];rw[zcB] at h;have q:p<=xs.toList.length:=by rw[aM];show hp
 split
 ·rename_i hi;rw[zfO q hi,h]
 ·rename_i hi;rw[zfN q '!',h]
def zar{xs:Array Nat}(hp:p<=xs.size)(h:(SetTable.insertAt xs p j)[i]?=some v):(i=p/\v=j)\/(i<p/\xs[i]?=some v)\/∃B,i=B+1/\p<=B/\xs[B]?=some v:=by
 rw[zcB,yk] at h;have F:p<=xs.toList.length:=by rw[aM];show hp
 rcases cW i p with q | q | q;rw[zfO F q,<- zcB] at h;right;subst q;rw[zfM F] at h;right;obtain⟨B,rfl⟩:∃B,i=B+1:=#[i - 1,by lia];rw[zfN F '!',<- zcB] at h;show .inr (.inr #[B,A5,by lia,h])
def zhY(Z:Ris xs)(hn:∀i:Nat,xs[i]?≠some j):Ris 'Ǵ':=by
 obtain⟨J,b2,b3⟩:=xQ Z j;intro i i2 U h2;have e1:=zfG (xs:=SetTable.insertAt xs 'ȵ' j) (i:=i) '!';have I:=zfG h2;generalize 'Ǵ'.getD i 0=v at e1;generalize 'Ǵ'.getD i2 0=O at I
 have Y:∀i v,SetTable.below xs j<=i->xs[i]?=some v->j<v:=λi v h e=>by
  obtain⟨a1,a2⟩:=xK e;grind
 have F:∀i v,i<SetTable.below xs j->xs[i]?=some v->v<j:=λi v h e=>by obtain⟨a1,a2⟩:=xK e;have:=b2 i h;lia
 have B:∀i i2 v O,i<i2->xs[i]?=some v->xs[i2]?=some O->v<O:=λi i2 v O h e I=>by
  obtain⟨a1,a2⟩:=xK e;obtain⟨a3,a4⟩:=xK I;have:=Z i i2 h a3
  omega
 rcases zar J e1 with ⟨rfl,rfl⟩ | ⟨q,e⟩ | ⟨i',rfl,q,e⟩;rcases zar J I with ⟨rfl,rfl⟩ | ⟨q',e'⟩ | ⟨i'',rfl,q',e'⟩;lia;lia;show Y _ _ q' e';rcases zar J I with ⟨rfl,rfl⟩ | ⟨q',e'⟩ | ⟨i'',rfl,q',e'⟩;show F _ _ q e;show B _ _ _ _ U e e';show B _ _ _ _ '!' e e';rcases zar J I with ⟨rfl,rfl⟩ | ⟨q',e'⟩ | ⟨i'',rfl,q',e'⟩;lia;lia;show B _ _ _ _ '!' e e'
section
variable {prog:Aa}{w:Ab}{t:SetTable}{es:Array (Int×Value)}{xs:List (List Key×Addr)}
def zoN:SetTable.has #v[] j=false:=rfl
def Tb.put(T:'å')(hN:N<10 * SetTable.turns t.mask)(he:∀i:Nat,t.place[i]?≠some 'Î')(hp:zee t xs '^' k N)(hk:k∉xs.map '%')(hf:xs.length+1<=t.mask)(ab:wk t.mask '^' N<=t.mask) :
  ∃O,Tb prog w (t.put 'Î').1 (SetTable.insertAt es (t.put 'Î').2 ('C'.hash k,.ref b)) O/\O.Perm ((k,b)::xs):=by
 generalize hj:wk t.mask '^' N=j at *;obtain⟨U,b2,b3⟩:=xQ T.ris j;have ac:(t.put j).2=SetTable.below t.place j:=rfl
 have ht:(t.put j).1={ t with place:=SetTable.insertAt t.place (SetTable.below t.place j) j }:=by
  unfold SetTable.put;dsimp only;rw[T.dm,zoN];grind
 generalize ad:SetTable.below t.place j=p at *;have F:p<=xs.length:=by rw[<- T.sz];show U
 have B:∀ {i v:Nat},t.place[i]?=some v->∃I:Nat,(SetTable.insertAt t.place p j)[I]?=some v:=λ{i v} h=>#[_,zfP U h];have Y:=zjg xs p (k,b);show#[zeA xs p (k,b),?_,Y];rw[ac,ht];show#[?_,?_,T.dm,?_,?_,?_,T.msk,?_,T.plain,T.led,?_];rw[yk,T.eq,zlN];rw[(Y.map '%').nodup_iff,az,dG];show#[hk,T.nd];have:=zhY T.ris he;right;intro i v e;rcases zar U e with ⟨_,rfl⟩ | ⟨_,e'⟩ | ⟨_,_,_,e'⟩;show ab;show T.le _ _ e';show T.le _ _ e';change (SetTable.insertAt t.place p j).size=_;rw[<- aM,yk,zdu 'I',zdu F,aM,T.sz];change (zeA xs p (k,b)).length<=t.mask;rw[zdu F];show hf;intro i q J;rcases cW i p with z | z | z;rw[zfO F z] at J;obtain⟨n,h1,h2,h3⟩:=T.reach i q J;show#[n,h1,?_,λm Z=>?_];have:=zfP (j:=j) U h2;right;obtain⟨I,e⟩:=h3 m Z;show B e;subst z;rw[zfM F] at J;cases J;show#[N,hN,?_,λm Z=>?_];change (SetTable.insertAt t.place i j)[i]?=_;rw[zcB,yk,zfM 'I'];right;obtain⟨I,q',e,_⟩:=hp m Z;show B e;obtain⟨I,rfl⟩:∃I,i=I+1:=#[i - 1,by lia];rw[zfN F '!'] at J;obtain⟨n,h1,h2,h3⟩:=T.reach I q J;show#[n,h1,?_,λm Z=>?_];have:=zfP (j:=j) U h2;rw[if_neg '!'] at this;show this;obtain⟨I,e⟩:=h3 m Z;show B e
end
theorem zdE:∀ (n:Nat) {l:AR},l.Nodup->(∀x∈l,x<n)->l.length<=n
 | 0,l,_,h=>by
  cases l with
  | nil=>show aj _
  | cons a _=>show absurd (h a aq) (dL _)
 | n+1,l,q,h=>by
  by_cases F:n∈l
  have h1:=zdE n (q.erase n) λx B=>by
   grind
  grind
  have:=zdE n q λx B=>by
   grind
  lia
theorem zdQ {α:Type}[BEq α][LawfulBEq α]:∀ {l l':List α},l.Nodup->l'.Nodup->(∀x,x∈l↔x∈l')->l.Perm l'
 | [],l',_,_,h=>by
  cases l' with
  | nil=>show .nil
  | cons a _=>show absurd ((h a).mpr aq) '$'
 | a::l,l',B,q,h=>by grind
def St0 (q:Nat)(h:Int)(K:Nat):SetTable.Probe:=#['@'.1,SetTable.runEnd q '@'.1 - '@'.1,'@'.1,'@'.2,none]
def zjG {q:Nat}{h:Int}{T K:Nat}(e:stp q h T=St0 q h K):stp q h (T+(SetTable.runEnd q '@'.1 - '@'.1)+1)=St0 q h (K+1):=by change (tm q).advance (stp q h (T+_))=_;rw[zd6 q h e _ '/',zdg q _ (Nat.sub_self _)];rfl
theorem zrY (q:Nat)(h:Int):∀K,'@'.1<=q
 | 0=>dM (ij _ (gU _))
 | K+1=>dM (ij _ (gU _))
def zcm {q i:Nat}(h:i<=q):SetTable.runEnd q i<=q/\i<=SetTable.runEnd q i:=by unfold SetTable.runEnd;split <;> lia
theorem zex{h:Int}{owner:Array '0'}(hs:owner.size=q+1):∀ (B K T:Nat),T<=10 * K->stp q h T=St0 q h K->(∀m,m<T->∃F,owner[wk q h m]?=some (some F))->
  (∃K',K<=K'/\K'<K+B/\owner[(lp q h K').1]?=some none)->
  ∃N,SetTable.layClean.free q owner B '@'.1 '@'.2=some (wk q h N)/\N<10 * (K+B)/\wk q h N<=q/\owner[wk q h N]?=some none/\∀m,m<N->∃F,owner[wk q h m]?=some (some F)
 | 0,K,T,_,_,_,⟨K',h1,h2,_⟩=>by lia
 | B+1,K,T,hT,eT,ac,⟨K',h1,h2,h3⟩=>by
  have as:=zrY q h K;obtain⟨r1,r2⟩:=zcm as;have r9:=znZ q '@'.1;have I:∀k,k<=SetTable.runEnd q '@'.1 - '@'.1->wk q h (T+k)='@'.1+k:=λk Y=>by change (stp q h (T+k)).j=_;rw[zd6 q h eT k Y]
  have inR:∀k,k<=SetTable.runEnd q '@'.1 - '@'.1->∃u,owner['@'.1+k]?=some u/\owner.getD ('@'.1+k) (some 0)=u:=λk Y=>by
   have a4:'@'.1+k<owner.size:=by lia
   right
  change ∃N,(match (List.range (SetTable.runEnd q '@'.1+1 - '@'.1)).find? λk=>(owner.getD ('@'.1+k) (some 0)).isNone with
   | some k=>some ('@'.1+k)
   | none=>SetTable.layClean.free q owner B (lp q h (K+1)).1 (lp q h (K+1)).2)=some (wk q h N)/\_
  cases hf:(List.range (SetTable.runEnd q '@'.1+1 - '@'.1)).find? λk=>(owner.getD ('@'.1+k) (some 0)).isNone with
  | some k=>
   obtain⟨hp,i,hi,ad,ag⟩:=List.find?_eq_some_iff_getElem.mp hf;rw[fB] at ad;subst ad;rw[aZ] at hi;have Y:i<=SetTable.runEnd q '@'.1 - '@'.1:=by lia
   obtain⟨u,J,O⟩:=inR i Y;rw[O] at hp
   have a0:u=none:=by
    cases u with
    | none=>rfl
    | some z=>show absurd hp '$'
   subst a0;show#[T+i,by rw[I i Y],by lia,by rw[I i Y];lia,by rw[I i Y];show J,λm hm=>?_];by_cases ab:m<T;show ac m ab;obtain⟨U,rfl⟩:∃U,m=T+U:=#[m - T,by lia];obtain⟨u,J,O⟩:=inR U '!';have:=ag U '!';rw[fB,O] at this;rw[I U '!',J]
   cases u with
   | none=>simp at this
   | some F=>show#[F,A5]
  | none=>
   have al:=List.find?_eq_none.mp hf
   have Z:∀k,k<=SetTable.runEnd q '@'.1 - '@'.1->∃F,owner['@'.1+k]?=some (some F):=λk Y=>by
    obtain⟨u,J,O⟩:=inR k Y;have:=al k (aL.mpr '!');rw[O] at this
    cases u with
    | none=>simp at this
    | some F=>show#[F,J]
   have a5:K≠K':=λz=>by
    subst z;obtain⟨F,e⟩:=Z 0 (aP _);grind
   have an:∀m,m<T+(SetTable.runEnd q '@'.1 - '@'.1)+1->∃F,owner[wk q h m]?=some (some F):=λm hm=>by
    by_cases ab:m<T;show ac m ab;obtain⟨U,rfl⟩:∃U,m=T+U:=#[m - T,by lia];rw[I U '!'];show Z U '!'
   obtain⟨N,a1,a2,a3⟩:=zex hs B (K+1) _ '!' (zjG eT) an #[K',by lia,by lia,h3];show#[N,a1,by lia,a3]
structure Own (mask:Nat)(hs:AG)(n:Nat)(owner:Array (Option Nat)):Prop where
 size:owner.size=mask+1
 lt:∀ (j i:Nat),owner[j]?=some (some i)->i<n
 inj:∀ (j j' i:Nat),owner[j]?=some (some i)->owner[j']?=some (some i)->j=j'
 reach:∀ (i:Nat) (h:Int),i<n->hs[i]?=some h->∃N,N<10 * SetTable.turns mask/\owner[wk mask h N]?=some (some i)/\∀m,m<N->∃i',owner[wk mask h m]?=some (some i')
def Own.gap{hs:AG}(o:Own q hs n owner)(hn:n<=q):∃j,j<=q/\owner[j]?=some none:=by
 show cN λJ=>?_
 have all:∀j,j<q+1->∃i,owner[j]?=some (some i):=λj F=>by
  have O:j<owner.size:=by rw[o.size];show F
  cases e:owner[j] with
  | none=>show absurd #[j,dM F,'9'] J
  | some i=>show#[i,'9']
 have U:=zdE n (l:=(List.range (q+1)).map λj=>((owner[j]?).join).getD 0) ?_ ?_;rw[ae,aZ] at U;lia;show bM.mpr (List.Pairwise.imp_of_mem ?_ fW);intro a b Y Z I e;show I ?_;obtain⟨i,hi⟩:=all a (aL.mp Y);obtain⟨i',B⟩:=all b (aL.mp Z);rw[hi,B] at e;have:i=i':=e;subst this;show o.inj _ _ _ hi B;intro x hx;obtain⟨j,F,rfl⟩:=aJ.mp hx;obtain⟨i,hi⟩:=all j (aL.mp F);rw[hi];show o.lt _ _ hi
def Own.step{hs:AG}{h:Int}(o:Own B hs n owner)(hr:Ring (B+1))(hn:n<=B)(hh:hs[n]?=some h) :
  ∃j,SetTable.layClean.free B owner (SetTable.turns B) (SetTable.bits h % (B+1)) (SetTable.bits h)=some j/\Own B hs (n+1) (owner.setIfInBounds j (some n)):=by
 obtain⟨g,hg,eg⟩:=o.gap hn;have hb:(lp B h 13).1<B+1:=ik (zrY B h 13);obtain⟨k,hk,e⟩:=hr.reach hb (ik hg);obtain⟨N,h1,h2,h3,h4,h5⟩:=zex o.size (SetTable.turns B) 0 0 '/' (h:=h) A5 (λm Y=>absurd Y (dL _)) #[13+k,aP _,by unfold SetTable.turns;lia,by rw[zjR,e];show eg];have hj:wk B h N<owner.size:=by rw[o.size];lia
 have I:'ȃ'[wk B h N]?=some (some n):=by right
 have F:∀j,j≠wk B h N->'ȃ'[j]?=owner[j]?:=λj ab=>by rw[Array.getElem?_setIfInBounds];rw[if_neg (λz=>ab z.symm)]
 have J:∀j i,owner[j]?=some (some i)->'ȃ'[j]?=some (some i):=λj i e=>by
  by_cases q:j=wk B h N;rw[q,h4] at e;cases e;rw[F j q];show e
 show#[wk B h N,h1,by simp[o.size],λj i e=>?_,λj j' i e U=>?_,λi h' hi O=>?_];by_cases q:j=wk B h N;right;rw[F j q] at e;have:=o.lt _ _ e;lia;by_cases q:j=wk B h N;subst q;rw[I] at e;cases e;by_cases Z:j'=wk B h N;show Z.symm;rw[F j' Z] at U;have:=o.lt _ _ U;lia;rw[F j q] at e;by_cases Z:j'=wk B h N;subst Z;rw[I] at U;cases U;have:=o.lt _ _ e;lia;rw[F j' Z] at U;show o.inj _ _ _ e U;by_cases q:i=n;subst q;rw[hh] at O;cases O;show#[N,by lia,I,λm Y=>?_];obtain⟨i',e⟩:=h5 m Y;show#[i',J _ _ e];obtain⟨M,m1,m2,m3⟩:=o.reach i h' '!' O;show#[M,m1,J _ _ m2,λm Y=>?_];obtain⟨i',e⟩:=m3 m Y;show#[i',J _ _ e]
def zmu (q:Nat)(hs:AG):Own q hs 0 (Array.replicate (q+1) none):=by
 have B:∀j i,(Array.replicate (q+1) (none:Option Nat))[j]?≠some (some i):=λj i e=>by
  rw[Array.getElem?_replicate] at e;grind
 show#['4',λj i e=>absurd e (B j i),λj F i e=>absurd e (B j i),λi h hi=>absurd hi (dL _)]
theorem zgQ(J:Ring (B+1)):∀ (zu q:AG) (owner:Array '0'),(q++zu).length<=B->Own B (q++zu) q.length owner->
  ∃F,zu.foldl (λ(acc:Option (Array (Option Nat)×Nat)) h=>acc.bind λx=>(SetTable.layClean.free B x.1 (SetTable.turns B) (SetTable.bits h % (B+1)) (SetTable.bits h)).bind λj=>some (x.1.setIfInBounds j (some x.2),x.2+1)) (some (owner,q.length))=some (F,(q++zu).length)/\Own B (q++zu) (q++zu).length F
 | [],q,owner,_,o=>by right
 | h::zu,q,owner,I,o=>by
  have U:q.length+(zu.length+1)<=B:=by rw[ay,aS] at I;show I
  obtain⟨j,e,o'⟩:=o.step J '!' (h:=h) '$';have O:q++h::zu=(q++[h])++zu:=by rw[aD];rfl
  have Y:q.length+1=(q++[h]).length:=by rw[ay];rfl
  rw[O,Y] at o';obtain⟨F,f1,f2⟩:=zgQ J zu (q++[h]) _ (by rw[<- O];show I) o';grind
def zeM(B:Ring (q+1))(hs:Array Int)(F:hs.size<=q):∃owner,SetTable.layClean q hs=some owner/\Own q hs.toList hs.size owner:=by
 obtain⟨owner,h1,h2⟩:=zgQ B hs.toList [] (Array.replicate (q+1) none) 'I' (zmu q _);rw[fq,aM] at h2;show#[owner,?_,h2];unfold SetTable.layClean;right
def yY (q:Nat)(owner:Array '0'):List (Nat×Nat):=(List.range (q+1)).filterMap λj=>(owner.getD j none).map (j,·)
def xE{hs:AG}(o:Own q hs n owner):(j,i)∈yY q owner↔owner[j]?=some (some i):=by
 unfold yY;rw[dB];constructor;rintro⟨O,F,e⟩;obtain⟨U,I,J⟩:=aI.mp e;cases J;have B:j<owner.size:=by rw[o.size];show aL.mp F
 right;intro e;obtain⟨B,I⟩:=dg.mp e;show#[j,aL.mpr (by rw[<- o.size];show B),?_];right
def zjP (q:Nat)(owner:Array '0'):(yY q owner).Pairwise λa b=>a.1<b.1:=by
 unfold yY;show List.pairwise_filterMap.mpr ((dR).imp ?_);right
def zjO{hs:AG}(o:Own q hs hs.length owner):((yY q owner).map 'Ã').Perm (List.range hs.length):=by
 show zdQ ?_ fW λi=>?_;show bM.mpr (List.Pairwise.imp_of_mem ?_ (zjP q owner));intro a b B F I e;have h1:=(xE o).mp B;have h2:=(xE o).mp F;rw[e] at h1;have:=o.inj _ _ _ h1 h2;lia;rw[aL];constructor;intro h;obtain⟨⟨j,J⟩,h1,rfl⟩:=aJ.mp h;show o.lt _ _ ((xE o).mp h1);intro h;obtain⟨N,_,e,_⟩:=o.reach i hs[i] h (am h);show aJ.mpr #[(_,i),(xE o).mpr e,A5]
def zcj {α:Type}(l:List α):(List.range l.length).filterMap (λi=>l[i]?)=l:=by
 have:∀ (n:Nat) (l:List α),n=l.length->'Ç'.filterMap (λi=>l[i]?)=l:=by
  intro n
  induction n with
  | zero=>intro l h;cases l with | nil=>rfl | cons _ _=>simp at h
  | succ n q=>
   intro l h
   cases l with
   | nil=>simp at h
   | cons a l=>
    rw[List.range_succ_eq_map,bu];change a::_=_;rw[List.filterMap_map];congr 1;show q l '¿'
 show this _ l A5
section
variable {prog:Aa}{w:Ab}{t:SetTable}{es:Array (Int×Value)}{xs:List (List Key×Addr)}
def Tb.laid(T:'å')(hm:uZ B)(hl:xs.length<=B)(O Y:Nat) :
  ∃t' F ab,SetTable.laid B O Y t.led true (es.map '%')=some (t',F)/\(F.filterMap (es[·]?)).size=es.size/\Tb prog w t' (F.filterMap (es[·]?)) ab/\ab.Perm xs/\t'.mask=B:=by
 obtain⟨owner,e,o⟩:=zeM hm.ring (es.map '%') (by rw[Array.size_map,T.size];show hl);have hh:(es.map '%').toList=xs.map λq=>'C'.hash q.1:=by rw[iA,T.eq,aK];rfl
 have hsz:(es.map '%').size=xs.length:=by rw[Array.size_map,T.size]
 rw[hh,hsz] at o;have o':Own B (xs.map λq=>'C'.hash q.1) (xs.map λq=>'C'.hash q.1).length owner:=by rw[ae];show o
 have hp:=zjO o';rw[ae] at hp;have ac:(('Ė'.toArray).filterMap (es[·]?)).toList='Ė'.filterMap (es.toList[·]?):=by right
 have J:('Ė'.filterMap (xs[·]?)).Perm xs:=by have:=hp.filterMap (xs[·]?);rw[zcj] at this;show this
 have ad:'Ė'.filterMap (es.toList[·]?)=('Ė'.filterMap (xs[·]?)).map λq=>('C'.hash q.1,Value.ref q.2):=by rw[List.map_filterMap];congr 1;funext i;rw[T.eq,aF]
 have Z:∀ {c:Nat} {q:List Key×Addr},('Ė'.filterMap (xs[·]?))[c]?=some q->∃j i,'ö'[c]?=some (j,i)/\xs[i]?=some q:=by
  have as:∀ (l:List (Nat×Nat)),(∀p∈l,p.2<xs.length)->∀ {c:Nat} {q:List Key×Addr},((l.map 'Ã').filterMap (xs[·]?))[c]?=some q->∃j i,l[c]?=some (j,i)/\xs[i]?=some q:=by
   intro l
   induction l with
   | nil=>intro _ c q h;simp at h
   | cons p l ih=>
    intro ag c q h;have a0:=ag p aq;rw[az,bu,am a0] at h
    cases c with
    | zero=>
     show#[p.1,p.2,A5,?_];right
    | succ c=>show ih (λp' a1=>ag p' (ak _ a1)) '¿'
  intro c q h;show as _ (λp hp=>?_) h;obtain⟨j,i⟩:=p;show o.lt _ _ ((xE o).mp hp)
 have I:∀ {c j i:Nat},'ö'[c]?=some (j,i)->'Ŏ'[c]?=some j:=λ{c j i} h=>by right
 show#[_,_,'Ė'.filterMap (xs[·]?),by unfold SetTable.laid;rw[e];rfl,?_,#[?_,?_,A5,?_,?_,?_,hm,?_,A5,by show T.led,?_],J,A5];change (('Ė'.toArray).filterMap (es[·]?)).size=es.size;rw[<- aM,ac,ad,ae,J.length_eq,T.size];show ac.trans ad;rw[(J.map '%').nodup_iff];show T.nd;intro i j al hj
 have an:j<'ö'.length:=by
  have:'Ŏ'.size='ö'.length:=by simp
  rw[<- this];show hj
 have a2:i<'ö'.length:=Nat.lt_trans al an;have:=ce.mp (zjP B owner) i j a2 an al;change 'Ŏ'.getD i 0<'Ŏ'.getD j 0;right;intro c j hc;have U:('ö'.map '%')[c]?=some j:=by rw[zcB] at hc;show hc
 rw[aF] at U;obtain⟨⟨j',i'⟩,h1,rfl⟩:=aI.mp U;have h2:=(xE o).mp (aB h1);have:=(dg.mp h2).1;rw[o.size] at this;change j'<=B;lia;change 'Ŏ'.size=_;have h1:'Ŏ'.size='ö'.length:=by simp
 rw[h1,J.length_eq];have:=hp.length_eq;grind;rw[J.length_eq];show hl;intro c q hq;obtain⟨j,i,h1,h2⟩:=Z hq;have hi:=(ai.mp h2).1;obtain⟨N,n1,n2,n3⟩:=o.reach i ('C'.hash q.1) hi 'I';have hj:=o.inj _ _ _ ((xE o).mp (aB h1)) n2;subst hj;show#[N,n1,I h1,λm a3=>?_];obtain⟨i',e'⟩:=n3 m a3;obtain⟨c',U,a4⟩:=cE.mp ((xE o).mpr e');show#[c',I (by rw[am U,a4])]
variable {A:Ae}{E:AA}{s:AZ}
def zbQ (prog:Aa)(w:Ab)(h:Heap)(a:Addr)(xs:List (List Key×Addr)):Prop:=∃o es ep t,h.get? a=some o/\o.ExactSet/\o.data = .set es ep t/\Tb prog w t es xs/\xs.length * 5<t.mask * 3
def zbE{ns:AG}(hk:'C'.is s.heap 'l' b)(h:Q true s):Ag prog w A (hashByValue 8 'q') Q E s:=by
 have J:IsTupleKey (zV prog w) s.heap 'l' b:=hk;have hT:=J.typeIs;obtain⟨o,B,n,ho,_,hd,hi⟩:=J
 have I:∀ {ns:AG} {vs:AN},ItemsAre (zV prog w) 'l' vs->∀v∈vs,∃i t,v=Value.int i t:=by
  intro ns
  induction ns with
  | nil=>intro vs h v O;cases h;simp at O
  | cons n ns ih=>
   intro vs h v O
   cases h with
   | cons h1 h2=>
    rcases au.mp O with rfl | O
    ·have U:zfT (Sum.inl n) v=true:=h1;rcases zP U with ⟨i,t,_,e⟩ | ⟨x,t,z,_⟩
     all_goals right
    show ih h2 v O
 unfold hashByValue;show aa (dY hT F.slot_tuple_hash.lookup ?_);dsimp only;show aa (cL ho hd ?_);show aa ?_;change wpAny _ _ (forIn B _ _) _ _ s;rw[<- fj];show dQ _ (λzu r s'=>r.1=none/\s'=s/\∀v∈zu,∃i t,v=Value.int i t) _ ?_ ?_ _ _ #[A5,A5,I hi];rintro v zu r s' ⟨Y,rfl,q⟩;obtain⟨i,t,rfl⟩:=q v aq;have e:hashByValue 7 (Value.int i t)=pure true:=rfl;rw[e];show aa '3';simp only[dO,aN,if_false];show af #[A5,A5,λu Z=>q u (ak _ Z)];rintro⟨r1,r2⟩ s' ⟨Y,rfl,_⟩;simp only at Y;subst Y;show af h
def zc8{h:Heap}{a:Addr}{o:Obj}{es:Array (Int×Value)}{es':Array (Int×Value)}(B:h.get? a=some o)(q:o.data = .set es ep t) :
  (h.update a (Obj.putSet es' t')).get? a=some { o with data:=.set es' (ep+1) t' }:=by
 have:=bI (Obj.putSet es' t') B (by rw[putSet_of es' t' q];rfl);rw[putSet_of es' t' q] at this;show this
def zmX(T:'å')(ho:s.heap.get? a=some o)(hx:o.ExactSet)(hd:o.data = .set es ep t)(hw:SetTable.sizeAbove wanted=mask+1)(hm:uZ mask)(hl:xs.length * 5<mask * 3)(h:∀h' xs',Heap.SameBut a s.heap h'->zbQ prog w h' a xs'->xs'.Perm xs->Q () '5'):Ag prog w A (setRelay a wanted) Q E s:=by
 unfold setRelay;show aa (bL ho hd T.fits ?_);dsimp only;have:=hm.le;rw[if_neg (by rw[hw,cH];lia)];obtain⟨t',order,xs',e,hsz,T',hp,hmk⟩:=T.laid hm '!' t.finger (t.movedTo mask);have e':t.relaid (es.map '%') wanted=some (t',order):=by unfold SetTable.relaid;rw[hw,T.plain];show e
 have core:∀ {R:Array (Int×Value)×SetTable->AZ->Prop},R (order.filterMap (es[·]?),t') s->Ag prog w A (do
   let some (t,order):=t.relaid (es.map '%') wanted | unsupported "internal:set-table-without-room"
   let es':=order.filterMap (es[·]?)
   if es'.size != es.size then unsupported "internal:set-table-lost-an-element"
   pure (es',t)) R E s:=λ{R} hR=>by
  rw[e'];dsimp only;rw[hsz];simp only[ii,aN,if_false]
  first | show af hR | show aa '?'
 show aa (core ?_);show wpAny_storeSet_of ho hd ?_ (by rw[hsz,T.size,cH];lia);show h _ xs' (bn _ a _) #[_,_,_,t',zc8 ho hd,hx,A5,T',?_] hp;rw[hp.length_eq,hmk];show hl
def Tb.out(T:'å')(Y:N<10 * SetTable.turns t.mask)(J:∀i:Nat,t.place[i]?≠some 'Î')(hp:zee t xs '^' k N):k∉xs.map '%':=λz=>by
 obtain⟨q,O,B⟩:=aJ.mp z;obtain⟨i,hi⟩:=List.mem_iff_getElem?.mp O;obtain⟨n,h1,h2,I⟩:=T.reach i q hi;rw[B] at h2 I;rcases cW N n with z | z | z;obtain⟨F,e⟩:=I N z;show J F e;right;obtain⟨F,Z,U,e2,e3⟩:=hp n z
 have:F=i:=by
  have a1:=zaL T.ris U;have a2:=zaL T.ris h2;right
 grind
def zq6{ns:AG}(hu:A.units<cLine)(S:zbQ prog w s.heap a xs)(hk:'C'.is s.heap 'l' b)(an:∀q∈xs,'C'.is s.heap q.1 q.2)(hn:xs.length<300)(h:∀r h' n O,Heap.SameBut a s.heap h'->zbQ prog w h' a O->('l'∈xs.map '%'->O=xs)->('l'∉xs.map '%'->O.Perm ((ns.map Sum.inl,b)::xs))->Q r { s with heap:=h',toks:=n }) :
  Ag prog w A (setAdd a 'q') Q E s:=by
 obtain⟨o,es,ep,t,ho,hx,hd,T,B⟩:=S;unfold setAdd;show bP (aa ('C'.pyHash hu hk ?_));unfold setAddHashed;show bP ?_;rw[show (100000:Nat)=99999+1 from rfl];unfold setAddHashedIn;show aa (bL (s:='Ũ') ho hd T.fits ?_);dsimp only;rw[show byScan 'q' es=false from rfl];simp only[aN,if_false];unfold setSearch;have hm:=T.msk.le;have a5:t.fill=xs.length:=by unfold SetTable.fill;rw[T.sz,T.dm];rfl
 show aa (ze7 (s:='Ũ') hu T hk an ho hd ?found ?free 100000 0 none A5 (by unfold SetTable.turns;lia) (aP _) (λm hm=>absurd hm (dL _)))
 case found=>
  intro r i q hq as _;dsimp only;have ab:'l'∈xs.map '%':=aJ.mpr #[q,aB hq,as];show af (h false s.heap _ xs (Heap.SameBut.refl a s.heap) #[o,es,ep,t,ho,hx,hd,T,B] (λ_=>rfl) (λz=>absurd ab z))
 case free=>
  intro N hN he hp;have U:=T.out hN he hp;dsimp only;show aa (bL (s:='Ũ') ho hd T.fits ?_);dsimp only
  have ac:wk t.mask ('C'.hash 'l') N<=t.mask:=by
   have:∀ (h:Int) (n:Nat),wk t.mask h n<=t.mask/\'³'.j+'³'.more<=t.mask:=by
    intro h n
    induction n with
    | zero=>
     have h0:SetTable.bits h % (t.mask+1)<=t.mask:=dM (ij _ (gU _));obtain⟨r1,r2⟩:=zcm h0;show#[h0,?_];change SetTable.bits h % (t.mask+1)+(SetTable.runEnd t.mask (SetTable.bits h % (t.mask+1)) - SetTable.bits h % (t.mask+1))<=t.mask;lia
    | succ n ih=>
     change ((tm t.mask).advance '³').j<=t.mask/\((tm t.mask).advance '³').j+((tm t.mask).advance '³').more<=t.mask;by_cases a0:0<'³'.more;rw[zgw _ _ a0];grind;rw[zdg _ _ '!'];have h0:('³'.i * 5+1+'³'.perturb / 32) % (t.mask+1)<=t.mask:=dM (ij _ (gU _));obtain⟨r1,r2⟩:=zcm h0;grind
   show (this _ _).1
  obtain⟨a1,T1,Y⟩:=T.put (b:=b) hN he hp U '!' ac;generalize ad:t.put (wk t.mask ('C'.hash 'l') N)=tp at T1;obtain⟨t1,p⟩:=tp;dsimp only at T1 ⊢
  have ag:t1.mask=t.mask:=by
   have:t1=(t.put (wk t.mask ('C'.hash 'l') N)).1:=by rw[ad]
   rw[this];rfl
  rw[T1.plain];simp only[if_true];show aa (zbE (s:='Ũ') hk ?_);simp only[if_true];have Z:=Y.length_eq;rw[aS] at Z;show aa (wpAny_storeSet_of (s:='Ũ') ho hd ?_ (by rw[T1.size,cH];lia));have g1:=zc8 (es':=SetTable.insertAt es p ('C'.hash 'l',.ref b)) (t':=t1) ho hd;have al:=bn s.heap a (Obj.putSet (SetTable.insertAt es p ('C'.hash 'l',.ref b)) t1);simp only[Bool.not_false,Bool.true_and];have J:t1.fill=xs.length+1:=by unfold SetTable.fill;rw[T1.sz,T1.dm,Z];rfl
  by_cases hf:t1.tooFull=true
  ·rw[if_pos hf];unfold SetTable.tooFull at hf;rw[J,ag] at hf;have I:=bh hf;rw[T.size]
   have next:∃F,SetTable.sizeAbove (SetTable.grown (xs.length+1))=F+1/\uZ F/\(xs.length+1) * 5<F * 3:=by
    rcases T.msk with e | e | e | e;rw[e] at I B;have:xs.length=4:=by lia
    rw[this];show#[31,by ext,.inr (.inl rfl),by lia];rw[e] at I B;have:xs.length=18:=by lia
    rw[this];show#[127,by ext,.inr (.inr (.inl rfl)),by lia];rw[e] at I B;have:xs.length=76:=by lia
    rw[this];show#[511,by ext,.inr (.inr (.inr rfl)),by lia];rw[e] at I B;lia
   obtain⟨F,m1,m2,m3⟩:=next;show aa (zmX (s:={ s with heap:=s.heap.update a (Obj.putSet (SetTable.insertAt es p ('C'.hash 'l',.ref b)) t1),toks:=s.toks+'C'.draws 'l' }) T1 g1 hx A5 m1 m2 (by rw[Z];show m3) λh' a2 a3 S2 a4=>?_);show af (h true h' _ a2 (al.trans a3) S2 (λz=>absurd z U) λ_=>a4.trans Y)
  rw[if_neg hf];unfold SetTable.tooFull at hf;rw[J,ag] at hf;have I:¬ ((xs.length+1) * 5 ≥ t.mask * 3):=λz=>hf (aA z);show af (h true _ _ a1 al #[_,_,_,t1,g1,hx,A5,T1,?_] (λz=>absurd z U) λ_=>Y);right
end
open PySem.W
def zM:Slot "set_iterator" "__next__" "set_iterator.__next__" :=
 .of (owner := "set_iterator") (n := "__next__") (by rw[typeLookup_type,builtinLookup_eq_fast];kernel_rfl) 'S' 'S' 'S'
  (by first | show .inl 'S' | show .inr 'S') (by rw[isSubtype_type];kernel_rfl)
def xW:Slot "set_iterator" "__iter__" "set_iterator.__iter__" :=
 .of (owner := "set_iterator") (n := "__iter__") (by rw[typeLookup_type,builtinLookup_eq_fast];kernel_rfl) 'S' 'S' 'S'
  (by first | show .inl 'S' | show .inr 'S') (by rw[isSubtype_type];kernel_rfl)
def xA:entryFor table "set_iterator.__next__" = some Builtin.«set_iterator.__next__»:=entryFor_of_tree (by kernel_rfl)
def zal:entryFor table "set_iterator.__iter__" = some Builtin.«dict_keyiterator.__iter__»:=entryFor_alias (id' := "dict_keyiterator.__iter__") (by kernel_rfl) A5 'S' (by kernel_rfl)
def zcC:entryFor table "set.__iter__" = some Builtin.«frozenset.__iter__»:=entryFor_alias (id' := "frozenset.__iter__") (by kernel_rfl) A5 'S' (by kernel_rfl)
def xP (a:Value):argsOk "set_iterator.__next__" #[[a],[]]:=by unfold argsOk;kernel_rfl
def zaS (a:Value):argsOk "set_iterator.__iter__" #[[a],[]]:=by unfold argsOk;kernel_rfl
theorem zjd {α:Type}(next:Nat->Nat):∀ (n k:Nat) (left:List α) (out:Array α),left.length=n->(pickOrder.go next n k left out).toList.Perm (out.toList++left)
 | 0,k,left,out,h=>by
  have:left=[]:=a9 h;subst this;change out.toList.Perm (out.toList++[]);right
 | n+1,k,left,out,h=>by
  have q:next k % left.length<left.length:=ij _ '!'
  change (match left[next k % left.length]? with
   | some x=>pickOrder.go next n (k+1) (left.eraseIdx (next k % left.length)) (out.push x)
   | none=>out).toList.Perm _
  rw[am q];show (zjd next n (k+1) _ _ '?').trans ?_;rw[bX,aD];show fQ _ ?_;have e:left=left.take (next k % left.length)++left[next k % left.length]::left.drop (next k % left.length+1):=by right
  rw[List.eraseIdx_eq_take_drop_succ];show List.Perm.trans ?_ (List.Perm.of_eq e.symm);rw[List.singleton_append];show List.perm_middle.symm
def zeZ {α:Type}(next:Nat->Nat)(xs:Array α):(pickOrder next xs).toList.Perm xs.toList:=by
 change (pickOrder.go next xs.size 0 xs.toList #v[]).toList.Perm _;have:=zjd next xs.size 0 xs.toList #v[] (aM);grind
section
variable {prog:Aa}{w:Ab}{t:SetTable}{es:Array (Int×Value)}{xs:List (List Key×Addr)}{A:Ae}{E:AA}{s:AZ}
def zmt (w:Ab)(a:Addr)(ep:Nat)(es:Array (Int×Value)):Array (Int×Value):=if w.params.followText "set-order" then pickOrder (w.params.setOrder a ep) es else es
def zeY (a:Addr)(ep:Nat):(zmt w a ep es).toList.Perm es.toList:=by
 unfold zmt;split;show zeZ _ _;right
def yh (h:Heap)(it a:Addr)(q i n ep:Nat):Prop:=∃o,h.get? it=some o/\o.cls = .type "set_iterator" /\ o.data = .fields #v[.int q 0,.int i 0,.ref a,.int n 0,.int ep 0]
def yh.typeIs(x:yh s.heap it a q i n ep):s.TypeIs 'X' "set_iterator" := let ⟨o,ho,hc,_⟩:=x;#[o,ho,hc]
structure SetIs (prog:Aa)(w:Ab)(h:Heap)(a:Addr)(es:Array (Int×Value))(ep:Nat)(t:SetTable)(xs:List (List Key×Addr)):Prop where
 ob:∃o,h.get? a=some o/\o.ExactSet/\o.data = .set es ep t
 tb:Tb prog w t es xs
def zj5{e:Int×Value}(hit:yh s.heap it a slot i es.size ep)(S:'ǀ')(hs:w.params.followText "set-order" = true\/SetTable.below t.place slot=i)(hx:(zmt w a ep es)[i]?=some e)(hQ:∀h' slot',yh h' it a slot' '(' es.size ep->(w.params.followText "set-order" = true\/SetTable.below t.place slot'=i+1)->Heap.SameBut it s.heap h'->Q (some e.2) '5'):Ag prog w A (pyNext 'X') Q E s:=by
 obtain⟨o,ho,hc,hd⟩:=id hit;obtain⟨⟨os,hos,_,hds⟩,T⟩:=S;have hf:=T.fits;unfold pyNext
 show aa (dN (wpAny_callSpecial?_slot (name:='÷') hit.typeIs zM
  (aX zM hit.typeIs xA ?_ (xP _))))
 show aa '3';show aa (g8 ho hd ?_);dsimp only;show aa (gG hos hds hf ?_);rw[if_neg '$']
 have upd2:∀slot':Nat,∃h',yh h' it a slot' '(' es.size ep/\Heap.SameBut it s.heap h'/\∀ {A':Ae} {E':AA} {α:Type} {f:Sem α} {R:α->AZ->Prop},Ag prog w A' f R E' '5'->Ag prog w A' (do setField 'X' 0 (rawInt slot');setField 'X' 1 'Ⱥ';f) R E' s:=by
  intro slot';have h1:(s.heap.update it (Obj.mapFields 'ũ')).get? it=some (Obj.mapFields 'ũ' o):=bI _ ho (ee (cz hd _));have hd1:(Obj.mapFields 'ũ' o).data = .fields #v[.int slot' 0,.int i 0,.ref a,.int es.size 0,.int ep 0]:=by rw[cz hd];simp[rawInt]
  show#[(s.heap.update it (Obj.mapFields 'ũ')).update it 'Ǧ',#[_,bI _ h1 (ee (cz hd1 _)),?_,?_],(bn ..).trans (bn ..),λ{A' E' α f R} hR=>?_];rw[fL,fL];show hc;rw[cz hd1];simp[rawInt];show aa (bW ho hd '$' (aa (bW (s:={ s with heap:=s.heap.update it (Obj.mapFields 'ũ') }) h1 hd1 '$' hR)))
 unfold setNext
 cases hb:w.params.followText "set-order" with
 | true=>
  have hx':(pickOrder (w.params.setOrder a ep) es)[i]?=some e:=by
   unfold zmt at hx;right
  obtain⟨h',hi',sb',step⟩:=upd2 slot;show aa ?_;show aa (bL hos hds hf ?_);dsimp only;unfold setsByText;show aa (aa (bA '3'));rw[show '2'.w=w from rfl,hb];simp only[if_true];rw[if_neg '$'];unfold setWalk;show aa ?_;show aa (bL hos hds hf ?_);dsimp only;unfold setsByText;show aa (aa (bA '3'));rw[show '2'.w=w from rfl,hb];simp only[if_true];show aa (bA '3');show af ?_;rw[show '2'.w=w from rfl];simp only[bf];rw[hx'];dsimp only[Option.map];show step (af #[_,A5,af (hQ h' slot hi' (.inl hb) sb')])
 | false=>
  have hx':es[i]?=some e:=by
   unfold zmt at hx;grind
  have hsl:SetTable.below t.place slot=i:=by grind
  have hi:i<es.size:=(dg.mp hx').1;have hpl:t.place[i]?=some (t.place.getD i 0):=zfG (by rw[T.sz,<- T.size];show hi);obtain⟨h',hi',sb',step⟩:=upd2 (t.place.getD i 0+1);show aa ?_;show aa (bL hos hds hf ?_);dsimp only;unfold setsByText;show aa (aa (bA '3'));rw[show '2'.w=w from rfl,hb];simp only[aN,if_false];rw[if_neg 'ȸ'];show aa ?_;change wpAny _ _ 'ȯ' _ _ s;rw[if_neg (by rw[T.led,hb];simp)];show af ?_;simp only[bf];rw[hsl,hx',hpl];show af ?_;dsimp only;show step (af #[_,A5,af (hQ h' _ hi' (.inr ?_) sb')]);obtain⟨b1,b2,b3⟩:=xQ T.ris (t.place.getD i 0+1);have hi2:=(xK hpl).1;rcases cW (SetTable.below t.place (t.place.getD i 0+1)) '(' with z | z | z;have:=b3 i '!' hi2;lia;show z;have h1:=b2 '(' z;have h2:=T.ris i '(' (Nat.lt_succ_self i) '!';lia
def zmi(Y:'ë')(B:yh s.heap it a q es.size es.size ep)(S:'ǀ')(hs:w.params.followText "set-order" = true\/SetTable.below t.place q=es.size)(Z:∀h',Heap.ExtBut it s.heap h'->Q none '5'):Ag prog w A (pyNext 'X') Q E s:=by
 obtain⟨o,J,hc,O⟩:=id B;obtain⟨⟨os,F,_,I⟩,T⟩:=S;have hf:=T.fits;unfold pyNext
 show aa (dN (wpAny_callSpecial?_slot (name:='÷') B.typeIs zM
  (aX zM B.typeIs xA ?_ (xP _))))
 show aa '3';show aa (g8 J O ?_);dsimp only;show aa (gG F I hf ?_);rw[if_neg '$'];unfold setNext;show aa ?_;show aa (bL F I hf ?_);dsimp only;unfold setsByText;show aa (aa (bA '3'))
 cases hb:w.params.followText "set-order" with
 | true=>
  rw[show '2'.w=w from rfl,hb];simp only[if_true];rw[if_neg '$'];unfold setWalk;show aa ?_;show aa (bL F I hf ?_);dsimp only;unfold setsByText;show aa (aa (bA '3'));rw[show '2'.w=w from rfl,hb];simp only[if_true];show aa (bA '3');show af ?_;rw[show '2'.w=w from rfl];simp only[bf];have hn:(pickOrder (w.params.setOrder a ep) es)[es.size]?=none:=by rw[zcB];show List.getElem?_eq_none ?_;rw[(zeZ _ es).length_eq,aM];show aj _
  rw[hn];dsimp only[Option.map];show aa (bW J O '$' ?_);show wpAny _ _ 'ƨ' _ _ _;show aa ?_;simp only[newExc,newTuple];show aa (bg ?_ 'ĝ');show aa (m:=firstArgMember _ _) 'Ǝ';show bg ?_ 'ĝ';simp only[raiseNew];show aa (iq ?_);rw[show A.in1.handled=none from Y];show aa (af (wpAny_throw ?_));show aa (cP (T := "StopIteration") (b:=true) #[_,']',A5] fO ?_);show af (Z _ 'ƿ')
 | false=>
  have U:SetTable.below t.place q=es.size:=by grind
  rw[show '2'.w=w from rfl,hb];simp only[aN,if_false];rw[if_neg 'ȸ'];show aa ?_;change wpAny _ _ 'ȯ' _ _ s;rw[if_neg (by rw[T.led,hb];simp)];show af ?_;simp only[bf];rw[U,Array.getElem?_eq_none '/'];show af ?_;dsimp only;show aa (bW J O '$' ?_);show wpAny _ _ 'ƨ' _ _ _;show aa ?_;simp only[newExc,newTuple];show aa (bg ?_ 'ĝ');show aa (m:=firstArgMember _ _) 'Ǝ';show bg ?_ 'ĝ';simp only[raiseNew];show aa (iq ?_);rw[show A.in1.handled=none from Y];show aa (af (wpAny_throw ?_));show aa (cP (T := "StopIteration") (b:=true) #[_,']',A5] fO ?_);show af (Z _ 'ƿ')
def zjo(q:yh s.heap it a B i n ep)(h:Q 'X' s):Ag prog w A (pyIter 'X') Q E s:=by show il q.typeIs xW (aX xW q.typeIs zal ?_ (zaS _));change wpAny _ _ (ret 'X') _ _ s;show af #[_,A5,"set_iterator",_,q.typeIs,zM.lookup,h]
def SetIs.typeIs(S:'ǀ'):s.TypeIs 'J' "set" := let ⟨o,ho,hc,_⟩:=S.ob;#[o,ho,hc.1]
def zlQ(S:'ǀ')(h:Q '°' { s with heap:=s.heap.push { cls:=.type "set_iterator",data:=.fields #v[.int 0 0,.int 0 0,.ref a,.int es.size 0,.int ep 0] } }):Ag prog w A (pyIter 'J') Q E s:=by
 have I:=S.typeIs;obtain⟨⟨J,q,O,B⟩,T⟩:=S;have hf:=T.fits;show il I F.slot_set_iter (aX F.slot_set_iter I zcC ?_ (F.args_set_iter_1 _));unfold Builtin.«frozenset.__iter__»;show aa (m:=Builtin.Frozenset.slot0 "__iter__" #['r',[]]) '3';show aa ?_;unfold Builtin.Frozenset.sizeOf;show aa (gG q B hf '3');show aa ?_;unfold setDrawn;show aa (bL q B hf ?_);dsimp only;unfold setsByText;show aa (aa (bA '3'));show af ?_;rw[if_neg (by change ¬ ((!_&&(!t.plain&&decide (es.size > 1)))=true);rw[T.plain];simp)];show aa '3';show aa (wpAny_setEpoch_of q B hf ?_);show aa (bg (af #[_,A5,"set_iterator",_,#[_,']',A5],zM.lookup,?_]));simpa [rawInt] using h
open PySem.W PySem.Calls
def zm3(I:s.TypeIs (.ref r) "set")(h:Q false s):Ag prog w A (Builtin.List.listLengthHint (.ref r)) Q E s:=by
 unfold Builtin.List.listLengthHint;show aa (dY I PySem.F.slot_set_len.lookup ?_);generalize B:("set.__len__" : String)=id0
 wp_delta
 rw[show splitId id0=some ("set","__len__") from by subst B;decide +kernel];subst B;show aa (cP (T := "set") (b:=true) I (by rw[isSubtype_type];kernel_rfl) ?_);show wpAny_ite_split (λq=>absurd q '#') 'ª';show wpAny_ite_split 'ª' (λq=>absurd 'S' q);show aa (dD I ?_);show af h
def SetIs.keep(S:SetIs prog w h a es ep t xs)(k:∀o,h.get? a=some o->h'.get? a=some o):SetIs prog w h' a es ep t xs:=let ⟨⟨o,ho,r⟩,T⟩:=S;#[#[o,k o ho,r],T]
def yh.keep(S:yh h it a q i n ep)(k:∀o,h.get? it=some o->h'.get? it=some o):yh h' it a q i n ep:=let ⟨o,ho,r⟩:=S;#[o,k o ho,r]
def SetIs.lt(S:SetIs prog w h a es ep t xs):a<h.objs.size:=let ⟨⟨o,ho,_⟩,_⟩:=S;av ho
def zkR (hh:'ë')(I a:Addr)(ab:a≠I)(ep:Nat) :
  Walks prog w A I [I,a] [I] es.size (λi v=>∃e,(zmt w a ep es)[i]?=some e/\v=e.2) (λi h=>(∃q,yh h I a q i es.size ep/\(w.params.followText "set-order" = true\/SetTable.below t.place q=i))/\SetIs prog w h a es ep t xs) where
 sub:=λb J=>by simp at J;simp[J]
 frame:=λ_ _ _ st hk=>#[let ⟨Z,x,y⟩:=st.1;#[Z,x.keep λo e=>hk I '$' o e,y],st.2.keep λo e=>hk a '$' o e]
 item:=λi s Q E hi st O=>by
  obtain⟨⟨Z,B,hs⟩,S⟩:=st
  have U:i<(zmt w a ep es).size:=by
   have:=(zeY (w:=w) (es:=es) a ep).length_eq;grind
  show zj5 B S hs (e:=(zmt w a ep es)[i]) (aT U) λh' F Y ac sb=>?_;show O _ h' s.toks #[_,aT U,A5] #[#[F,Y,ac],S.keep λo e=>(sb.2 a ab).trans e] λb o J e=>sb.extBut b o (λh=>J (by simp[h])) e
 done:=λs Q E st O=>by obtain⟨⟨Z,B,hs⟩,S⟩:=st;show zmi hh B S hs λh' ad=>O h' s.toks λb o J e=>ad b o (λh=>J (by simp[h])) e
 self:=λ_ _ _ _ st O=>let ⟨Z,x,_⟩:=st.1;zjo x O
def zqu (a:Addr)(ep:Nat):KdlSrc prog w "set" a a es.size (λi v=>∃e,(zmt w a ep es)[i]?=some e/\v=e.2) (λh=>SetIs prog w h a es ep t xs) where
 type:=λs S=>S.typeIs
 there:=λ_ S=>#[S.lt,S.lt]
 keep:=λ_ _ S B=>S.keep λo e=>B a 'h' o e
 notList:=by ext
 notTuple:=by ext
 hint:=λ_ _ _ _ S q=>zm3 S.typeIs q
 iter:=λA s F S=>#[_,_,(λ_ _ q=>zlQ S q),zkR F _ a (aY S.lt) ep,#[#[0,#[_,']',A5,A5],.inr ?_],S.keep λo e=>ah _ e]]
where finally
 have b:=xQ S.tb.ris 0;rcases Nat.eq_zero_or_pos (SetTable.below t.place 0) with z | z;show z;show absurd (b.2.1 0 z) (dL _)
end
def zef (h:Heap)(L BB:Addr)(v:Value)(st:AG):Prop:=∃ (a:Addr) (q:AN),v = .ref a/\IsTup h a q.toArray/\yi 'Ĝ' q/\a≠L/\a≠BB
def zef.keep{st:AG}(r:zef h L BB v st)(kp:∀b o,b≠L->b≠BB->h.get? b=some o->h'.get? b=some o):zef h' L BB v st:=by obtain⟨a,q,e,⟨o,B,F⟩,I,h1,h2⟩:=r;show#[a,q,e,#[o,kp a o h1 h2 B,F],I,h1,h2]
theorem zc0:∀ {vs:AN} {A9:AF},Paired (zef h L BB) vs A9->(∀st∈A9,1<=st.length)->∃fs,W.KatTups h vs fs/\fs.length=A9.length/\∀f∈fs,∃a t,f=Value.int a t
 | _,_,.nil,_=>#[[],trivial,A5,λ_ h=>by simp at h]
 | _,_,.cons (b:=st) r I,h1=>by
  obtain⟨a,q,rfl,⟨o,J,O,n,U⟩,B,_⟩:=r;obtain⟨fs,f1,f2,f3⟩:=zc0 I λz Y=>h1 z (ak _ Y);have F:=h1 st aq
  match st,B,F with
  | z::zs,B,_=>
   cases B with
   | cons Z qq=>
    obtain⟨t,rfl⟩:=Z;show#[_::fs,#[#[a,o,_,n,A5,J,O,U,A5],f1],'9',λf hf=>?_];rcases au.mp hf with rfl | hf
    all_goals right
theorem yP {α q:Type}{R:α->q->Prop}:∀ {l:List α} {l':List q},Paired R l l'->∀ {i:Nat} (d:α) (d':q),i<l'.length->R (l.getD i d) (l'.getD i d')
 | _,_,.nil,i,_,_,h=>by simp at h
 | _,_,.cons r _,0,_,_,_=>r
 | _,_,.cons _ t,i+1,d,d',h=>by have:=yP t (i:=i) d d' '¿';simpa using this
theorem zba {α q:Type}{R:α->q->Prop}:∀ {l:List α} {l':List q},Paired R l l'->l.length=l'.length
 | _,_,.nil=>rfl
 | _,_,.cons _ t=>by rw[aS,aS,zba t]
section
variable {prog:Aa}{w:Ab}{A:Ae}{E:AA}{s:AZ}
def zl9{A9:AF}(Z:s.heap.Ns L m0)(ag:BB≠L)(ho:s.heap.get? BB=some 'ǉ')(hv:Paired (zef s.heap L BB) vs A9)(bm:A9.length<64)(al:1<=m)(hm:∀st∈A9,st.length=m)(an:A9.Nodup)(h:∀h' c p,List.Perm p 'ő'->((p.map λi=>A9.getD i []).Pairwise λa b=>HT.lexLt a b=true)->(∀b o,b≠L->b≠BB->s.heap.get? b=some o->h'.get? b=some o)->h'.Ns L m0->
   h'.get? BB=some (seqObj "list" (p.map λi=>vs.getD i .none).toArray c)->Q .none '5') :
  Ag prog w A (call (.builtin "list.sort") [.ref BB]) Q E s:=by
 have as:=zba hv;by_cases h2:2<=A9.length
 ·have B:∀p∈(u9 s.heap L).filter 'Ŷ',s.heap.get? p.1=some p.2/\p.1≠L/\p.1≠BB:=λp hp=>by
   have h1:=bJ.mp hp;have h2:=yp.mp (show (p.1,p.2)∈u9 s.heap L from h1.1);right
  have J:∀b,'Í'.get? b=none:=λb=>by
   cases e:'Í'.get? b with
   | none=>rfl
   | some o'=>
    have:=av e;simp at this
  show W.kat_lsort (h₀:='Í') (L:=L) (m:=m0) (D:=BB) (its:=vs.toArray) (n:=n) (news:=(BB,seqObj "list" vs.toArray n)::(u9 s.heap L).filter 'Ŷ') (g:=λo=>(BB,o)::(u9 s.heap L).filter 'Ŷ') #[Z,λb o e=>?_,aP _] (λp hp=>?_) (W.UpdF.head λq hq=>(B q hq).2.2) (vs:=vs) A5 '!' '!' λe1 h' F N=>?_;right;rcases au.mp hp with rfl | hp;right;show#[(B p hp).1,(B p hp).2.1,J _]
  ·have kp:∀b o,b≠L->b≠BB->s.heap.get? b=some o->h'.get? b=some o:=λb o hb hD e=>(N (b,o) 'ƭ').1;have O:Paired (zef h' L BB) vs A9:=Paired.mapP hv λv st r=>r.keep kp;obtain⟨fs,k1,k2,k3⟩:=zc0 O λst a0=>by rw[hm st a0];show al
   show W.kat_kind (T:=.type "int") (s:='5') k1 '!' (λf hf=>?_) '#' ?_;obtain⟨a,t,rfl⟩:=k3 f hf;intro A' Q' E' s' _ hq;show dD (typeIs_int s' a t) hq
   ·have hu:zbe A9.length (xD A9):=λi j hi I e=>by
     have e1:=zaw hm hi I;have e2:=zaw hm I hi;rw[e,aG (iu _)] at e1;rw[e,aG (iu _)] at e2;have gi:A9.getD i []=A9[i]:=by simp[hi]
     have gj:A9.getD j []=A9[j]:=by simp[I]
     rcases zax (a:=A9.getD i []) (b:=A9.getD j []) 'I' with h | h | h;rw[gi,gj] at h;show (dh an).mp h
     all_goals grind
    obtain⟨p,ab,U⟩:=zm5 hu h2;rw[show vs.length=A9.length by lia];show ab.wp (S:=λs'=>s'='5') (λi j C s' hi I Y hC=>?_) (λs' Y=>?_) _ A5;subst Y;obtain⟨a1,a3,b1,c1,d1,_⟩:=yP O .none [] hi;obtain⟨a2,a4,b2,c2,d2,_⟩:=yP O .none [] I;obtain⟨o1,a5,_,n1,a7⟩:=c1;obtain⟨o2,bb,_,n2,bc⟩:=c2;change wpAny _ _ (keyLt' _ (vs.getD i .none) (vs.getD j .none)) C _ _;rw[b1,b2];have gi:(A9.getD i []).length=m:=by right
    have gj:(A9.getD j []).length=m:=by right
    have l1:=d1.length;have l2:=d2.length;rw[ae] at l1 l2;show W.kat_lt (s:='5') a5 a7 bb bc ?_;rw[show decide (a3.toArray.size<a4.toArray.size)=false from aG '¶'];show zgW 0 d1 d2 (by rw[gi,gj]) ?_;have:=hC '5' A5;rw[show zeh (xD A9) i j=HT.lexLt (A9.getD i []) (A9.getD j []) from zaw hm hi I] at this;show this;subst Y;have ac:p.toList.Perm 'ő':=by have:=U.perm.toList;simpa using this
    have ad:∀i∈p.toList,i<A9.length:=λi hi=>aL.mp ((ac.mem_iff).mp hi);show W.KasFin.intro F N (W.UpdF.head λq' bd=>(B q' bd).2.2) λbk c F'' N''=>?_;show h bk c p.toList ac ?_ (λb o hb hD e=>(N'' (b,o) 'ƭ').1) F''.ns (N'' (BB,_) aq).1;have bo:p.size=A9.length:=xS U.perm;rw[ce];intro i j hi I bl;rw[ae,aM] at hi I;have hk:=U.lt_of bl '!';rw[di,di,eF,eF];have e1:p.getD i 0=p[i]:=by simp[hi]
    have e2:p.getD j 0=p[j]:=by simp[I]
    unfold key at hk;rw[e1,e2] at hk;rw[<- zaw hm (ad _ '$') (ad _ '$')];right
 show aX slot_list_sort #[_,ho,A5] entry_list_sort ?_ (args_list_sort _);show uO ho '!' λh' c kp hD=>#[_,A5,?_];show h h' c 'ő' (fP _) ?_ (λb o _ hb e=>kp b o hb e) ?_ ?_;grind;obtain⟨o,es,ep,g,k⟩:=Z;show#[o,es,ep,kp _ _ (Ne.symm ag) g,k];rw[<- as,uT];show hD
end
def zbn {α O:Type}{f:α->O}{l m:List O}(h:l.Perm m):∀ {xs:List α},m=xs.map f->∃q:List α,q.Perm xs/\l=q.map f:=by
 induction h with
 | nil=>
  right
 | cons x _ U=>
  intro xs e
  cases xs with
  | nil=>cases e
  | cons y ys=>
   rw[az] at e;injection e with Y F;obtain⟨q,h1,h2⟩:=U F;show#[y::q,h1.cons y,'9']
 | swap x y l=>
  intro xs e
  match xs,e with
  | [],e=>cases e
  | [_],e=>cases e
  | a::b::r,e=>
   rw[az,az] at e;injection e with Y F;injection F with F e3;show#[b::a::r,.swap _ _ _,by grind]
 | trans _ _ I J=>
  intro xs e;obtain⟨q,h1,h2⟩:=J e;obtain⟨B,Z,h4⟩:=I h2;show#[B,Z.trans h1,h4]
def zhp (P:Aa)(w:Ab)(a:Addr)(xs:List (List Key×Addr)):HO:=.ext λh=>zbQ P w h a xs
def uI (xs:AE):List (List Key×Addr):=xs.map λq=>(q.1.map Sum.inl,q.2)
def zkQ(S:zbQ P w h a xs):zJ P w H h a (zhp P w a xs):=by
 show#[S,?_,λh1 h2 q k=>?_];obtain⟨o,_,_,_,B,_⟩:=S;show#[o,B];obtain⟨o,es,ep,t,B,r⟩:=q;show#[o,es,ep,t,k o B,r]
def zkF(h:(#[Array.replicate (n+1) o,{}]:Heap).get? d=some u):u=o:=by
 unfold Heap.get? at h;simp only[Array.getElem?_replicate] at h;split at h;cases h;split at h;show (bK h).symm;cases h
def zqt(hs:∃h:Heap,h.get? d=some ob):(λh=>zbQ P w h a xs)≠λh=>h.get? d=some ob:=λe=>by
 obtain⟨B,F⟩:=hs;have h1:zbQ P w B a xs:=by rw[show zbQ P w B a xs=_ from congrFun e B];show F
 obtain⟨o,es,ep,t,O,I,U,T,J⟩:=h1;have k:∀q:Nat,({ o with data:=.set es q t }:Obj)=ob:=λq=>by have h2:zbQ P w (#[Array.replicate (a+1) { o with data:=.set es q t },{}]:Heap) a xs:=#[{ o with data:=.set es q t },es,q,t,by simp[Heap.get?],I,A5,T,J];rw[show zbQ P w _ a xs=_ from congrFun e _] at h2;show (zkF h2).symm
 have:=congrArg Obj.data ((k 0).trans (k 1).symm);cases this
def zg8:∀A7,pnK (zhp P w a xs)=some A7->zby A7 '±'=none:=λA7 e=>by
 unfold zhp pnK at e;dsimp only at e;rw[if_neg] at e;cases e;rintro⟨d,ob,hs,z⟩;show zqt hs z
def zgv (P:Aa)(w:Ab)(H:Hp)(a:Addr)(ks:AF):Prop:=∃xs:AE,H a=some (zhp P w a (uI xs))/\(∀q∈xs,H q.2=some 'Ħ')/\ks=xs.map '%'/\ks.Nodup
def zgv.stay{ks:AF}(S:zgv P w H a ks)(h:zq H H'):zgv P w H' a ks:=by obtain⟨xs,h1,h2,B,F⟩:=S;show#[xs,h _ _ h1 zg8,λq I=>h.tup (h2 q I),B,F]
theorem zfQ:∀ns:AG,'l'.map kV=ns.map V.int
 | []=>rfl
 | n::ns=>by rw[az,az,az,zfQ ns];rfl
section
variable {X:Cx}
def zjz{A6:AB}{G:St}{H:Hp}{s:AZ}(I:')'){ns:AG}(h:H b=some (.tup 'K')):(tk X.prog X.w).is s.heap 'l' b:=by
 obtain⟨its,B,⟨o,F,J,n,O⟩,_⟩:=I.tuple (.of h);show#[o,its.toArray,n,F,J,O,?_]
 have q:∀ {ns:AG} {its:AN},yi 'K' its->ItemsAre (zV X.prog X.w) 'l' its:=by
  intro ns
  induction ns with
  | nil=>intro its r;cases r;show .nil
  | cons n ns U=>
   intro its r
   cases r with
   | cons Y Z=>
    obtain⟨t,rfl⟩:=Y;show .cons (zeJ n t) (U Z)
 show q B
def znX (P:Aa)(w:Ab):AT->Hp->VK->Prop:=λxs H Q=>∃ (a:Addr) (ks:AF) (m:Nat),xs='r'/\zgv P w H a ks/\ks.length<64/\1<=m/\(∀st∈ks,st.length=m)/\
 ∀ (ys:AT) (q:AF),IsL H (q.map stD) ys->q.Perm ks->'Ʊ'->New H (.lst ys) Q
theorem zgU:∀ {xs:AE},(∀q∈xs,H q.2=some 'Ħ')->IsL H ((xs.map '%').map stD) (xs.map λq=>V.ref q.2)
 | [],_=>rfl
 | q::xs,h=>#[_,_,A5,#[q.2,_,A5,h q aq,IsL.ints],zgU λr B=>h r (ak _ B)]
theorem zfi:∀ (xs:AE),yi (xs.map λq=>V.ref q.2) (xs.map λq=>Value.ref q.2)
 | []=>.nil
 | q::xs=>.cons A5 (zfi xs)
def zlw (hc:'D'):CallQ X (.builtin "sorted") (znX X.prog X.w):=#[by
 intro A6 s G H xs us Q I r h;obtain⟨a,ks,m,rfl,⟨xs,hH,a7,rfl,bb⟩,bc,bd,hm,q⟩:=h;obtain⟨u,rfl,ru⟩:=zea r;cases ru;obtain⟨⟨o,es,ep,t,ho,hx,hd,T,_⟩,_⟩:=(show zJ X.prog X.w H s.heap a (zhp X.prog X.w a (uI xs)) from I.hok a _ hH);have S:SetIs X.prog X.w s.heap a es ep t (uI xs):=#[#[o,ho,hx,hd],T];obtain⟨m0,al,_⟩:=id I.loc;have hsz:es.size=xs.length:=by rw[T.size];unfold uI;rw[ae]
 rw[ae] at bc
 have bk:∀b,'Í'.get? b=none:=λb=>by
  cases e:'Í'.get? b with
  | none=>rfl
  | some o'=>
   have:=av e;simp at this
 have an:=zeY (w:=X.w) (es:=es) a ep;have bl:es.toList=xs.map λq=>((tk X.prog X.w).hash (q.1.map Sum.inl),Value.ref q.2):=by rw[T.eq];unfold uI;rw[aK];rfl
 rw[bl] at an;obtain⟨B,O,bm⟩:=zbn an A5;show kdu_sorted (h₀:='Í') (L:=X.env.locals) (m:=m0) (news:=u9 s.heap X.env.locals) (zqu (t:=t) (xs:=uI xs) a ep) (I.ok.hd hc) #[al,λb o e=>'I',aP _] (λp hp=>?_) S (by rw[hsz,cH];lia) λBB h' as vs F N bo hl hP=>?_;obtain⟨b,o⟩:=p;have:=yp.mp hp;right
 have bs:vs=B.map λq=>Value.ref q.2:=by
  have b6:=O.length_eq;show iz 'I' λj h1 h2=>?_;obtain⟨e,he,hv⟩:=hP j vs[j] (am h1);rw[zcB,bm,aF] at he;rw[ae] at h2;rw[am h2] at he;rw[hv,di,<- bK he]
 have kp:∀b o,b≠X.env.locals->s.heap.get? b=some o->h'.get? b=some o:=λb o hb e=>(N (b,o) (ak _ (yp.mpr #[hb,e]))).1;have a0:BB≠X.env.locals:=(N (BB,_) aq).2.1
 have bt:s.heap.get? BB=none:=by
  cases e:s.heap.get? BB with
  | none=>rfl
  | some o=>show absurd (bo (BB,o) (yp.mpr #[a0,e])) (cJ _)
 have Y:H BB=none:=by
  cases e:H BB with
  | none=>rfl
  | some o=>
   obtain⟨o',a1⟩:=zeQ (I.hok BB o e);grind
 have U:∀q∈B,H q.2=some 'Ħ':=λq Z=>a7 q ((O.mem_iff).mp Z)
 have a2:Paired (zef h' X.env.locals BB) vs (B.map '%'):=by
  rw[bs]
  have bx:∀ (l:AE),(∀q∈l,H q.2=some 'Ħ')->Paired (zef h' X.env.locals BB) (l.map λq=>Value.ref q.2) (l.map '%'):=by
   intro l
   induction l with
   | nil=>intro _;show .nil
   | cons q l ih=>
    intro hl;have Z:=hl q aq;obtain⟨ab,rv,⟨o',a1,b0⟩,_⟩:=I.tuple (.of Z);have a3:=ze Z I.free;show .cons #[q.2,ab,A5,#[o',kp _ _ a3 a1,b0],rv,a3,ze Z Y] (ih λr hr=>hl r (ak _ hr))
  show bx B U
 have ac:=O.map '%';show zl9 (s:={ s with heap:=h',toks:=as }) F.ns a0 (N (BB,_) aq).1 a2 'I' bd (λst b1=>hm st ((ac.mem_iff).mp b1)) (ac.nodup_iff.mpr bb) λb7 c p hp a4 b2 b3 a5=>?_;have b4:∀i∈p,i<B.length:=λi hi=>by have:=aL.mp ((hp.mem_iff).mp hi);rwa[ae] at this
 have J:(p.map λi=>(B.map '%').getD i [])='Ů'.map '%':=by right
 have ad:(p.map λi=>vs.getD i .none)='Ů'.map λq=>Value.ref q.2:=by right
 have b5:∀q∈'Ů',H q.2=some 'Ħ':=λq Z=>by
  obtain⟨i,hi,rfl⟩:=aJ.mp Z;have h1:=b4 i hi;have:B.getD i ([],0)=B[i]:=by simp[h1]
  rw[this];show U _ (bj h1)
 rw[ad] at a5;rw[J] at a4;have ag:p.length=xs.length:=by rw[hp.length_eq,aZ,ae,O.length_eq]
 have I':=zji I al (ys:='Ů'.map λq=>V.ref q.2) (λb o hb e=>b2 b o hb '?' (kp b o hb e)) b3 bt Y a5 (zfi _) (by rw[ae,ae,ag,cH];lia) as;show#[.ref BB,_,I',A5,(q _ ('Ů'.map '%') (zgU b5) ?_ a4).at Y];show List.Perm.trans ?_ ac;rw[<- J];have:=hp.map λi=>(B.map '%').getD i [];rwa[uT] at this]
end
def zep (elt target iter:Expr)(ifs:AO)(scope:Scope)(pos:Pos)(it acc:Value)(env:Env) :
  compTurn 'ǂ' 0 it acc env=(do
   standAt iter.pos
   match <- pyNext it with
   | none=>pure (.done .next)
   | some v=>
    letOwnedTupleGo target it v
    assign target env v
    let mut ok:=true
    for c in ifs do
     if ok then ok <- isTrue c env (eval c env)
    if ok then
     (do let v <- eval elt env;standAt elt.pos;let _ <- call (.builtin "set.add") [acc,v])
    again (.compLoop 'ǂ' 0 it acc env)):=by rfl
section
variable {prog:Aa}{w:Ab}{A:Ae}{E:AA}{R:Result->AZ->Prop}{s:AZ}
def uC {elt target iter ifs zu scope pos it acc env}
  (h0:codeAny '2' A (.compLoop 'Ʋ' 0 it acc env) R s)
  (h:Ag prog w A (pyIter it) (λit' s'=>codeAny '2' A (.compLoop 'Ʋ' 0 it' acc env) R s')
   (notedBy '2' A env λx s'=>R (.error x) s') s) :
  codeAny '2' A (.compStart 'Ʋ' 0 it acc env) R s:=by
 show ff ?_;change wpAny _ _ ((compStart 'Ʋ' 0 it acc env).onRaise 'ţ') _ _ s;show wpAny_notedAt ?_;unfold compStart;change wpAny _ _ (ask >>= _) _ _ s;show aa (bA (wpAny_ite ?_));split
 first
  | show aa '?'
  | show af (And.intro A5 h0)
 first
  | show aa '?'
  | (show aa (cD ?_);change wpAny _ _ (standAt iter.pos >>= _) _ _ s;show aa (bv (aa (aE h (λit' s' h'=>af (And.intro A5 h')) λ_ _ x=>x))))
def zbB(I:'Ą')(turn:∀n s,I n s->Ag prog w A (pyNext it) (λr s₁=>match r with
   | none=>R '©' s₁
   | some v=>Ag prog w A 'ŭ' (λ_ s₂=>Ag prog w A 'ſ' (λ_ s₃=>
     Ag prog w A 'Ŀ' (λok s₄=>
      if ok=true then Ag prog w A (eval elt env) (λx s₅=>
       Ag prog w A (call (.builtin "set.add") [acc,x]) 'ǆ' '&' s₅) '&' s₄
      else ∃m,m<n/\I m s₄) '&' s₃) '&' s₂) '&' s₁) '&' s)(n:Nat)(h:I n s) :
  codeAny '2' A (.compLoop 'ǂ' 0 it acc env) R s:=by
 show dZ A5 I 'ě' n h;change wpAny _ A ((compTurn 'ǂ' 0 it acc env).onRaise 'ċ') _ _ s;show eL ?_;rw[zep];show aa 'Ĉ'
 cases r with
 | none=>show af h₁
 | some v=>
  show aa 'Ċ';show aa 'ć'
  cases ok with
  | false=>show af #[A5,h₄]
  | true=>
   show aa (aa (aE h₄ (λx s₅ h₅=>aa (bv (aa (aE h₅ (λ_ s₆ h₆=>af (af #[A5,h₆])) λ_ _ h'=>h'.elim)))) λ_ _ h'=>h'.elim))
def zj2(h:Q '°' { s with heap:=s.heap.push 'ȥ' }):Ag prog w A (newSet (.type "set")) Q E s:=by unfold newSet setsByText;show aa (aa (bA '3'));dsimp only;simp only[newObj];show aa (wpAny_alloc (af h))
def zkP (h:Heap):zbQ prog w (h.push 'ȥ') h.objs.size []:=by
 show#[_,#v[],0,_,']',#[A5,A5,A5],A5,#[A5,fN,A5,λi j _ B=>?_,λi j e=>?_,A5,.inl A5,aP _,A5,A5,λi q e=>?_],by change 0 * 5<7 * 3;decide];show absurd B (dL _);simp[SetTable.fresh] at e;simp at e
end
theorem x9:∀ {ns q:AG},ns.map (Sum.inl:Int->Key)=q.map Sum.inl->ns=q
 | [],[],_=>rfl
 | [],_::_,e=>by cases e
 | _::_,[],e=>by cases e
 | n::ns,m::q,e=>by rw[az,az] at e;injection e with B F;rw[Sum.inl.inj B,x9 F]
section
variable {X:Cx}
def zh1 {A6:AB}{G:St}{H:Hp}{s:AZ}{acc b:Addr}{ns:AG}{ks:AF}{Q:AA}(hu:'Ë')(I:')')(S:zgv X.prog X.w H acc ks)(hb:H b=some (.tup 'K'))(hn:ks.length<300)
  (h:∀o ks' s',zgv X.prog X.w (upd H acc o) acc ks'->(∀x,x∈ks'↔x=ns\/x∈ks)->ks'.length<=ks.length+1->Inv X A6 G (upd H acc o) s'->Q .none s') :
  Af X (call (.builtin "set.add") [.ref acc,.ref b]) Q X.xe s:=by
 obtain⟨xs,hH,hel,rfl,hnd⟩:=S;have hS:=(show zJ X.prog X.w H s.heap acc (zhp X.prog X.w acc (uI xs)) from I.hok acc _ hH).1;obtain⟨o,es,ep,t,ho,hx,hd,T,hroom⟩:=id hS;show aX F.slot_set_add #[o,ho,hx.1] F.entry_set_add ?_ (F.args_set_add_2 _ _);unfold Builtin.«set.add»;show aa (m:=Builtin.Frozenset.oneOther "add" #[[.ref acc,.ref b],[]]) '3';have hba:b≠acc:=zj1 hb hH 'ƃ';have hea:∀q∈xs,q.2≠acc:=λq hq=>zj1 (hel q hq) hH 'ƃ';rw[ae] at hn;show aa (zq6 (A:=X.A.in1) (xs:=uI xs) (ns:=ns) (bQ '/' hu) hS (zjz I hb) (λq hq=>?_) (by unfold uI;rw[ae];show hn) λr h' n xs' sb S' hin hout=>?_);unfold uI at hq;obtain⟨q',hq',rfl⟩:=aJ.mp hq;show zjz I (hel q' hq')
 ·
  have mem_key:∀ {l:AE},'l'∈(uI l).map '%'↔ns∈l.map '%':=by
   intro l;unfold uI;rw[aK,aJ,aJ];constructor;rintro⟨q,hq,e⟩;show#[q,hq,?_];have e':q.1.map (Sum.inl:Int->Key)=ns.map Sum.inl:=e;show x9 e';rintro⟨q,hq,rfl⟩;show#[q,hq,A5]
  have fin:∀xs2:AE,xs'=uI xs2->(∀q∈xs2,q∈xs\/q=(ns,b))->(∀x,x∈xs2.map '%'↔x=ns\/x∈xs.map '%')->(xs2.map '%').Nodup->xs2.length<=xs.length+1->wpAny 'N' X.A.in1 (do ret .none) (λfin s'=>∃v,fin = .done (.ret v)/\Q v s') X.xe { s with heap:=h',toks:=n }:=by
   rintro xs2 rfl hsub hmem hnd2 hlen
   have hel2:∀q∈xs2,H q.2=some 'Ħ':=λq hq=>by
    rcases hsub q hq with z | z;show hel q z;rw[z];show hb
   have hea2:∀q∈xs2,q.2≠acc:=λq hq=>zj1 (hel2 q hq) hH 'ƃ';show af #[.none,A5,h (zhp X.prog X.w acc (uI xs2)) (xs2.map '%') _ #[xs2,zg,λq hq=>by rw[zc (hea2 q hq)];show hel2 q hq,A5,hnd2] hmem 'I' ?_];show I.write (e:=acc) (by rw[hH];trivial) 'h' (λc u hc q=>sb.extBut c u hc q) ?_ (zkQ S');obtain⟨o',_,_,_,ho',_⟩:=S';show#[o',ho']
  by_cases hm:ns∈xs.map '%';have:=hin (mem_key.mpr hm);show fin xs this (λq hq=>.inl hq) (λx=>#[.inr,λz=>z.elim (λe=>e ▸ hm) id]) hnd (Nat.le_succ _);have hp:=hout λz=>hm (mem_key.mp z);have hk:((ns.map Sum.inl,b)::uI xs)=uI ((ns,b)::xs):=rfl;rw[hk] at hp;obtain⟨xs2,hp2,e2⟩:=zbn hp A5;show fin xs2 e2 (λq hq=>?_) (λx=>?_) ?_ ?_;grind;rw[(hp2.map '%').mem_iff,az,au];rw[(hp2.map '%').nodup_iff,az,dG];show#[hm,hnd];rw[hp2.length_eq,aS];show aj _
end
def zeu(elt gens scope pos):eval (.SetComp elt gens scope pos) env=comprehension (.SetComp elt gens scope pos) scope env (firstIterPos gens pos) (newSet (.type "set")) (firstAsync gens) (firstIter gens env):=rfl
def setT (P:Aa)(w:Ab)(g:TG)(ti:TT)(te:TE)(acc:Addr)(N:'Ø')(x:V)(G:St)(H:Hp):Prop:=
 g x G H λq H3=>ti q H3 λF H4=>if F=true then te q H4 λv H5=>∃b ns ks,v = .ref b/\H5 b=some (.tup 'K')/\zgv P w H5 acc ks/\ks.length<300/\
  (∀o B,zgv P w (upd H5 acc o) acc B->(∀x,x∈B↔x=ns\/x∈ks)->B.length<=ks.length+1->N q (upd H5 acc o)) else N q H4
def setG (P:Aa)(w:Ab)(J:It)(g:TG)(ti:TT)(te:TE)(acc:Addr)(Q:VK)(G:St)(H:Hp):Prop:=∃W:Nat->Nat->St->Hp->Prop,'ę'/\
 ∀i m q H',W i m q H'->'Ÿ'\/(J.go i H'/\∃N:St->Hp->Prop,'Ʃ'/\∀x H2,J.yld i H' x H2->setT P w g ti te acc N x q H2)
def zqG (P:Aa)(w:Ab)(wi:TI)(g:TG)(ti:TT)(te:TE)(A8:List '0'):TE:=λG H Q=>wi G H λJ H1=>∀acc,H1 acc=none->zgv P w (upd H1 acc (zhp P w acc [])) acc []->setG P w J g ti te acc Q '<' (upd H1 acc (zhp P w acc []))
section
variable {X:Cx}{Fam:Cx->Prop}{scope:Scope}{N:AM}{A8:List (Option Nat)}{z:Str}{use:Option (Value->Sem Unit)}{Qp:AA}{elt ke ve tg iter tg2 iter2:Expr}{ifs ifs2:AO}{pos ipos spos px:Pos}{wi wi2:TI}{g g2:TG}{ti ti2:TT}{te tk tv:TE}{A6:AB}{G:St}{H:Hp}{s:AZ}{Q:VK}{o0:HO}
def zm2 (hu:'Ë')(O:'ŝ')(hc:'D')(hi:'Ļ')(hg:'ŷ')(ht:'Ű')(he:'Ǐ')(hs:'w')(I:')')
  (h:zqG X.prog X.w wi g ti te A8 G H Q) (U:ztM X A6 G use Qp Q) :
  Af X (comprehension (.SetComp elt ['È'] scope pos) scope X.env ipos (newSet (.type "set")) false 'ı' use) Qp X.xe s:=
 uD (ob:={ cls:=.type "set",dict:=none,data:=.set #v[] 0 (.fresh 0 0 (!X.w.params.followText "set-order")) }) (o0:=λa=>zhp X.prog X.w a []) (Fin:=λacc H=>Q 'H' H) (B:=λX' acc P s=>wpAny 'c' X'.A (eval elt X'.env) (λx s5=>wpAny 'c' X'.A (call (.builtin "set.add") [.ref acc,x]) (λ_ s6=>P s6) '&' s5) '&' s) (tb:=λacc Nx G H=>te G H λv H5=>∃ (b:Addr) (ns:AG) (ks:AF),v = .ref b/\H5 b=some (.tup 'K')/\zgv X.prog X.w H5 acc ks/\ks.length<300/\(∀o F,zgv X.prog X.w (upd H5 acc o) acc F->(∀x,x∈F↔x=ns\/x∈ks)->F.length<=ks.length+1->Nx G (upd H5 acc o))) O hc A5 hs (λ_ _ _ _ _ h0 h1=>uC h0 h1) (λ_ _ _ _ _ _ I Y n h=>zbB I Y n h) (λs Q h=>zj2 h) (λ_ _=>zkQ (zkP _)) hi hg ht (λX' hF pX wX AX _ xX acc pl s G H Nx P I q k=>by have e9:=he X' hF pl s G H _ I q;rw[xX] at e9;show thn e9 ?_;rintro u2 ac ⟨v,H10,I10,ab,b,ns,ks,rfl,hb,S,hn,nx⟩;cases ab;have Z:=zh1 (X:=X') (Q:=λ_ s'=>P s') (by rw[AX];show hu) I10 'I' hb hn λo F s' S' hm hl I'=>k _ _ _ I' (nx o F 'I' hm hl);rw[xX] at Z;show Z) I h (λJ H1 acc q hn=>q acc hn #[[],zg,λq hq=>by simp at hq,A5,fN]) U
end
def zhV(B:'Ë')(F:'D')(c:'k')(hi:QI X tg iter wi)(J:'Ź')(O:'ű')(U:'Ŵ')(hs:'w':=by intro _;rfl):QE X (.SetComp elt ['È'] scope pos) (zqG X.prog X.w wi g ti te A8):=#[λA6 s G H Q I h=>by
 rw[zeu];show zm2 B (uL c) F hi.run 'ƶ' 'Ū' (zaO λC s H ex=>(U C s H ex).run) hs I h λ_ _ _ _ _ Y Z q=>zdr Y Z q]
section
variable {P:Aa}{w:Ab}{K:AH}{a acc:Addr}{xs:AT}{g:TG}{ti:TT}{te:TE}{G:St}{H:Hp}{Q:VK}
end
def zkL (H:Hp):yL H H:=λ_ _ z=>z
structure FunD (K:AH)(x qual:Str)(st:Stmt)(f:Addr)(fd:Ac):Prop where
 ex:∃ (oc:Value) (od:Option Addr) (dV kV doc pm:Value) (an:Option Addr) (cdv ct:Value) (osl:Array AJ),
  fd=PySem.W.fnOf x qual (yG st) (zE st) (zb st) dV kV doc pm an cdv ct/\K.lookup f=some #[oc,od,.func fd,osl]/\PySem.W.codeIn K cdv qual=true
 kp:PySem.W.keepIn K (.ref f)=true
def FunD.okQ{P:Aa}{w:Ab}{K:AH}{mg:AI}{base:Heap}{x qual:Str}{st:Stmt}{f:Addr}{fd:Ac}{N ps:AM}{sp:Sp}(F:FunD K x qual st f fd)(S:'Ķ')(J:'ƣ')(I:∀ (B:Value) (A:Ae) (outer:'[') (s:AZ) (H:Hp) (vs:AT) (Q:VK) (E:XK),Room k (A.deeper (envOfC qual 'e' s.heap.objs.size f B))->sp vs H Q E->
   ∃t,QSs 'Ó'.nox 'y' t/\t { nx:=λ_ H'=>Q .non H',rt:=Q } (yT N vs) H):FnOk P w K mg base CX0 (k+1) f fd ps sp:=by
 obtain⟨oc,od,dV,kV,Y,pm,an,B,ct,Z,rfl,lk,O⟩:=F.ex;show zlG lk O S J λA outer s H vs Q E hr U=>?_;obtain⟨t,h,q⟩:=I B A outer s H vs Q E hr U;show#[t,h.run.nox,q]
structure DfnD (K:AH)(mg:AI)(x:Str)(st:Stmt)(ps:AM)(ds:AN)(f:Addr)(fd:Ac):Prop where
 F:FunD K x x st f fd
 b:zcz K fd ps []
 bd:zcz K fd ps ds
 m:mg x=some (.ref f)
section
variable {X:Cx}
def zsX{x:Str}{st:Stmt}{ps:AM}{ds:AN}{dv:AT}{f:Addr}{fd:Ac}{sp:Sp}{es:AO}{p pos:Pos}(BB:DfnD X.K X.mg x st ps ds f fd)(J:yi dv ds)(BA:'ǲ')(O:Room k X.A)(U:QA X '=' t)(q:j<=k:=by ext)(Y:Gl X x:=by rfl)(B:Ah x:=by ext)(Z:'g':=by rfl)(I:'¯':=by rfl) :
  QE X '¢' (zgn sp dv E0 t):=
 #[zcd BA (O.mono q) Y BB.m BB.F.kp BB.bd J zss U.run B Z I]
end
def zoJ{K:AH}{x qual:Str}{st:Stmt}{f:Addr}{Y I:Option Addr}{F:Array AJ}{J kV B O q ct:Value}(l:K.lookup f=some #[U,Y,.func (PySem.W.fnOf x qual (yG st) 'y' 'e' J kV B O I q ct),F])(c:PySem.W.codeIn K q qual=true)(k:'ǅ'):FunD K x qual st f (PySem.W.fnOf x qual (yG st) 'y' 'e' J kV B O I q ct):=#[#[U,Y,J,kV,B,O,I,q,ct,F,A5,l,c],k]
def znt{K:AH}{fd:Ac}{f:Addr}(l:K.lookup f=some #[I,B,.func fd,F]){ps:AM}{O:Option Addr}{q:AK}(Y:fd.defaults = .ref T)(Z:K.lookup T=some #[J,O,.seq q n,U])(h:∀us:AN,(us++ds).length=ps.length->∃k:Option AK->Sem (List (Str×Value)),bindArgs fd #[us,[]]=seqItems? fd.defaults >>= k/\k (some q)=pure (ps.zip (us++ds))):zcz K fd ps ds:=λs us KX hl=>by
 obtain⟨k,h1,h2⟩:=h us hl;show .of_defaults Y (KX _ _ Z) A5 h1 h2
open PySem.W PySem.Calls
section
variable {prog:Aa}{w:Ab}{A:Ae}{E:AA}{s:AZ}{es:Array DictEntry}
def zdf (h:Heap)(d:Addr)(es:Array DictEntry)(ep:Nat):Prop:=∃o,h.get? d=some o/\o.ExactDict/\o.data = .dict es ep
def zdf.typeIs(x:'Ŝ'):s.TypeIs (.ref d) "dict" := let ⟨o,ho,hc,_⟩:=x;#[o,ho,hc.1]
def zjn(U:(d==sysModules)=false)(I:'Ŝ')(O:Q '°' { s with heap:=s.heap.push { cls:=.type "dict_keyiterator",data:=.fields #v[.ref d,.int 0 0,.int es.size 0,.int ep 0] } }) :
  Ag prog w A (pyIter (.ref d)) Q E s:=by
 obtain⟨o,J,Y,q⟩:=id I;have B:=I.typeIs;show il B PySem.F.slot_dict_iter (aX PySem.F.slot_dict_iter B PySem.F.entry_dict_iter ?_ (PySem.F.args_dict_iter_1 _));unfold Builtin.«dict.__iter__»;show aa ?_;unfold Builtin.Dict.dictSlotNone;show aa (wpAny_notOrdered_dict B ?_);change wpAny _ _ (pure (Value.ref d)) _ _ s;show af ?_;change wpAny _ _ (Builtin.Dict.showsAll d >>= _) _ _ s;unfold Builtin.Dict.showsAll;rw[if_neg 'I'];show aa '3';show aa (im J q ?_);show aa (wpAny_dictEpoch J q ?_);show aa (bg (af #[_,A5,"dict_keyiterator",_,#[_,']',A5],PySem.F.slot_dict_keyiterator_next.lookup,?_]));simpa [rawInt] using O
def zlZ(q:s.heap.IsKeyIter it d i es.size ep)(Y:'Ŝ')(Z:es[i]?=some e)(hQ:∀h',h'.IsKeyIter it d '(' es.size ep->Heap.SameBut it s.heap h'->Q (.done (.ret e.key)) '5'):Ag prog w A (Builtin.«dict_keyiterator.__next__» { pos:=[Value.ref it] }) Q E s:=by
 obtain⟨o,U,hc,O⟩:=id q;obtain⟨od,F,ab,I⟩:=id Y;show aa '3';show aa ?_;show aa ?_
 first | show aa (cQ q.typeIs '3') | show aa '?'
 show aa (g8 U O ?_);have J:Builtin.Dict_items.ownsTuple "dict_keyiterator" = false:=by ext
 simp only[J,aN,if_false];show wpAny _ _ (if (Value.ref d==Value.none)=true then _ else _) _ _ s;rw[if_neg '?'];show aa '3';show aa (im F I ?_);rw[if_neg '$'];show aa '3';show aa (wpAny_dictEpoch F I ?_);rw[if_neg '$'];show af ?_;simp only[show ¬ ((i:Int)<0) from by lia,if_false,bf,Z];show aa ?_
 first | show aa (cQ q.typeIs '3') | show aa '?'
 show aa (wpAny_isOneOf_keyiter q.typeIs ?_);change wpAny _ _ (setField 'X' 1 'Ⱥ' >>= _) _ _ s;show aa (bW U O '$' ?_)
 have B:(s.heap.update it 'Ǧ').IsKeyIter it d '(' es.size ep:=
  #[_,bI _ U (ee (cz O _)),(fL ..).trans hc,by rw[cz O];simp[rawInt]]
 show aa (bP ?_);show aa (wpAny_isOneOf_keyiter (s:={ s with heap:=s.heap.update it 'Ǧ' }) B.typeIs ?_);change wpAny _ _ (pure e.key) _ _ _;show af (af (hQ _ B (bn ..)))
def zhM(q:s.heap.IsKeyIter it d i es.size ep)(B:'Ŝ')(F:es[i]?=some e)(I:∀h',h'.IsKeyIter it d '(' es.size ep->Heap.SameBut it s.heap h'->Q (some e.key) '5'):Ag prog w A (pyNext 'X') Q E s:=by
 unfold pyNext
 show aa (dN (wpAny_callSpecial?_slot (name:='÷') q.typeIs cw
  (aX cw q.typeIs eM (zlZ q B F λh' a b=>#[_,A5,af (I h' a b)]) (eI _))))
def zo9(U:'ë')(q:s.heap.IsKeyIter it d es.size es.size ep)(Y:'Ŝ')(Z:∀h' x,Heap.ExtBut it s.heap h'->(∃o,h'.get? x=some o/\o.cls = .type "StopIteration")->E (.ref x) '5'):Ag prog w A (Builtin.«dict_keyiterator.__next__» { pos:=[Value.ref it] }) Q E s:=by
 obtain⟨o,J,hc,O⟩:=id q;obtain⟨od,B,ab,F⟩:=id Y;show aa '3';show aa ?_;show aa ?_
 first | show aa (cQ q.typeIs '3') | show aa '?'
 show aa (g8 J O ?_);have I:Builtin.Dict_items.ownsTuple "dict_keyiterator" = false:=by ext
 simp only[I,aN,if_false];show wpAny _ _ (if (Value.ref d==Value.none)=true then _ else _) _ _ s;rw[if_neg '?'];show aa '3';show aa (im B F ?_);rw[if_neg '$'];show aa '3';show aa (wpAny_dictEpoch B F ?_);rw[if_neg '$'];show af ?_;simp only[show ¬ ((es.size:Int)<0) from by lia,if_false,bf,Array.getElem?_eq_none (aj es.size)];show aa ?_
 first | show aa (cQ q.typeIs '3') | show aa '?'
 change wpAny _ _ (setField 'X' 0 .none >>= _) _ _ s;show aa (bW J O '$' ?_);change wpAny _ _ 'ƨ' _ _ _;show aa ?_;simp only[newExc,newTuple];show aa (bg ?_ 'ĝ');show aa (m:=firstArgMember _ _) 'Ǝ';show bg ?_ 'ĝ';simp only[raiseNew];show aa (iq ?_);rw[U];show aa (af (wpAny_throw ?_));show Z _ _ 'ƿ' #[_,']',A5]
def zj3(B:'ë')(q:s.heap.IsKeyIter it d es.size es.size ep)(F:'Ŝ')(I:∀h',Heap.ExtBut it s.heap h'->Q none '5'):Ag prog w A (pyNext 'X') Q E s:=by
 unfold pyNext
 show aa (dN (wpAny_callSpecial?_slot (name:='÷') q.typeIs cw
  (aX cw q.typeIs eM (zo9 B q F λh' x a b=>?_) (eI _))))
 show aa (cP (T := "StopIteration") (b:=true) b fO (af (I _ a)))
variable {X:Cx}
end
def zjB (A7:List (AG×V)):List (List Key×V):=A7.map λq=>(q.1.map Sum.inl,q.2)
def dtO (A7:List (AG×V)):HO:=.dT (zjB A7)
def zlY (A7:List (AG×V))(st:AG):zby (zjB A7) (st.map Sum.inl)=zby A7 st:=by
 unfold zjB
 induction A7 with
 | nil=>rfl
 | cons q r B=>
  rw[az];by_cases e:q.1=st;rw[xm (p:=q) e,xm (p:=(q.1.map Sum.inl,q.2)) (by rw[e])];rw[xl (p:=q) e,xl (p:=(q.1.map Sum.inl,q.2)) (λz=>e (x9 z)),B]
def zlX (A7:List (AG×V))(st:AG)(v:V):u7 (zjB A7) (st.map Sum.inl) v=zjB (u7 A7 st v):=by
 have B:∀q:AG×V,decide ((q.1.map (Sum.inl:Int->Key))=st.map Sum.inl)=decide (q.1=st):=λq=>by rw[bR,cI,cI];show#[x9,λz=>by rw[z]]
 have F:((zjB A7).any λkv=>decide (kv.1=st.map Sum.inl))=A7.any λkv=>decide (kv.1=st):=by unfold zjB;rw[iE];congr 1;funext q;show B q
 unfold u7;rw[F];by_cases h:(A7.any λkv=>decide (kv.1=st))=true;rw[if_pos h,if_pos h];unfold zjB;rw[aK,aK];show eO λq _=>?_;grind;rw[if_neg h,if_neg h];unfold zjB;right
def zed.i{A7:List (AG×V)}{st:AG}(e:H a=some (dtO A7))(q:H b=some (.tup 'Ĝ'))(B:A7.length<sizeLine):zed H a 'q' v (upd H a (dtO (u7 A7 st v))):=by have:=zed.t (k:=st.map Sum.inl) (v:=v) e (by rw[zfQ];show q) (by unfold zjB;rw[ae];show B);rwa[zlX] at this
section
variable {X:Cx}
end
abbrev Up' (l:AF):Prop:=l.Pairwise λa b=>HT.lexLt a b=true
def zoQ (x:AG):AF->AF
 | []=>[x]
 | y::r=>if HT.lexLt x y then x::y::r else if x=y then y::r else y::zoQ x r
def zgk (l:AF):AF:=l.foldr zoQ []
theorem zdv {x z:AG}:∀ {l:AF},z∈zoQ x l↔z=x\/z∈l
 | []=>by change z∈[x]↔_;simp
 | y::r=>by
  unfold zoQ;split;simp;split;right;rw[au,zdv,au];grind
theorem yc {z:AG}:∀ {l:AF},z∈zgk l↔z∈l
 | []=>Iff.rfl
 | x::l=>by change z∈zoQ x (zgk l)↔_;rw[zdv,yc,au]
theorem zjh {x:AG}{m:Nat}(F:x.length=m):∀ {l:AF},(∀y∈l,y.length=m)->Up' l->Up' (zoQ x l)
 | [],_,_=>eX _ _
 | y::r,I,B=>by
  have J:=I y aq;rw[Up',aQ] at B;unfold zoQ;split
  ·rename_i h;show aQ.mpr #[λz q=>?_,aQ.mpr B];rcases au.mp q with rfl | q
   show h;show zay (F.trans J.symm) '?' h (B.1 z q)
  ·rename_i h;split
   show aQ.mpr B
   ·rename_i O;show aQ.mpr #[λz q=>?_,zjh F (λz q=>I z (ak _ q)) B.2];rcases zdv.mp q with rfl | q
    ·rcases zax (a:=z) (b:=y) (F.trans J.symm) with e | e | e
     all_goals right
    show B.1 z q
def zkT{l:AF}(h:∀y∈l,y.length=m):∀y∈zgk l,y.length=m:=λy q=>h y (yc.mp q)
theorem zbO:∀ {l:AF},(∀y∈l,y.length=m)->Up' (zgk l)
 | [],_=>.nil
 | x::l,h=>zjh (h x aq) (zkT λy q=>h y (ak _ q)) (zbO λy q=>h y (ak _ q))
theorem zk7:∀ {l l':AF},(∀y∈l,y.length=m)->Up' l->Up' l'->(∀z,z∈l↔z∈l')->l=l'
 | [],[],_,_,_,_=>rfl
 | [],y::r,_,_,_,h=>absurd ((h y).mpr aq) '$'
 | x::l,[],_,_,_,h=>absurd ((h x).mp aq) '$'
 | x::l,y::r,F,I,q,h=>by
  rw[Up',aQ] at I q;have B:∀z∈y::r,z.length=m:=λz J=>F z ((h z).mpr J)
  have e:x=y:=by
   rcases au.mp ((h x).mp aq) with e | e;show e;rcases au.mp ((h y).mpr aq) with O | O;show O.symm;have h1:=q.1 x e;have h2:=I.1 y O;have Y:=zay ((F x aq).trans (B y aq).symm) ((B y aq).trans (F x aq).symm) h2 h1;rw[zX] at Y;cases Y
  subst e;have U:∀ {l:AF},(∀z∈l,HT.lexLt x z=true)->x∉l:=λZ z=>by have:=Z x z;rw[zX] at this;cases this
  congr 1;show zk7 (λz J=>F z (ak _ J)) I.2 q.2 λz=>?_;grind
def zm4{l l':AF}(q:∀y∈l,y.length=m)(B:Up' l')(h:∀z,z∈l'↔z∈l):l'=zgk l:=
 zk7 (λy F=>q y ((h y).mp F)) B (zbO q) λz=>(h z).trans yc.symm
def znd {l:AF}(h:Up' l):l.Nodup:=h.imp λ{a b} q e=>by subst e;rw[zX] at q;cases q
def zfJ (bk:AW)(st hs:AG):AF:=(bk.filter λx=>uw st x&&!hs.contains x.b).map λx=>chg st x.b x.r
def uz (bk:AW)(st hs:AG):AF:=zgk (zfJ bk st hs)
def yX{st hs z:AG}:z∈zfJ bk st hs↔∃x∈bk,uw st x=true/\x.b∉hs/\z=chg st x.b x.r:=by
 unfold zfJ;grind
def zao{rm:AG}{st hs:AG}(q:∀x∈bk,WishOk rm x)(F:st.length=rm.length):∀z∈zfJ bk st hs,z.length=rm.length:=λz I=>by obtain⟨x,B,_,_,rfl⟩:=yX.mp I;have h1:=(q x B).b1;rw[zft (q x B).b0 '!'];show F
theorem zb7 {α:Type}[BEq α][LawfulBEq α]:∀ {l l':List α},l.Nodup->(∀x∈l,x∈l')->l.length<=l'.length
 | [],_,_,_=>aP _
 | a::l,l',q,h=>by
  rw[dG] at q;have B:=h a aq;have:=zb7 (l:=l) (l':=l'.erase a) q.2 λx F=>by grind
  grind
def zey{rm:AG}{st hs:AG}{ks:AF}(q:∀x∈bk,WishOk rm x)(Y:rm.length<=8)(B:∀r∈rm,2<=r/\r<=4)(F:ks.Nodup)(I:∀z∈ks,z∈zfJ bk st hs):ks.length<=32:=by
 have:=zb7 (l':=(List.range 32).map λc=>chg st ((c / 4:Nat):Int) ((c % 4:Nat):Int)) F λz J=>by obtain⟨x,O,_,_,rfl⟩:=yX.mp (I z J);have o:=q x O;have h1:=o.b1;have h2:=o.b0;have U:=o.r0;have Z:=o.r1;have h5:=(zaI B h2 h1).2;show aJ.mpr #[4 * x.b.toNat+x.r.toNat,aL.mpr '!',?_];rw[show (4 * x.b.toNat+x.r.toNat) / 4=x.b.toNat by lia,show (4 * x.b.toNat+x.r.toNat) % 4=x.r.toNat by lia,bE h2,bE U]
 right
def zoj{rm:AG}{st hs:AG}(q:∀x∈bk,WishOk rm x)(B:rm.length<=8)(F:∀r∈rm,2<=r/\r<=4)(I:st.length=rm.length):(uz bk st hs).length<=32:=
 zey (hs:=hs) q B F (znd (zbO (zao q I))) λz J=>yc.mp J
end L2
namespace L2
open PyProof.Rows PySem.SeqAt
theorem uU:∀ds:AS,Dt.toWs ds=ds.map Dt.toW
 | []=>rfl
 | d::ds=>by rw[Dt.toWs,az,uU ds]
theorem zeK:∀ds:List PySem.W.Dat,PySem.W.kqdPs ds=ds.map PySem.W.kqdP
 | []=>by simp[PySem.W.kqdPs]
 | d::ds=>by rw[az,<- zeK ds];simp[PySem.W.kqdPs]
def zvK (q:Bool):R2:=λx y H Q=>∃d ds,Is H d x/\(Is H (.lst ds) y\/Is H (.tup ds) y)/\d.eqOk/\'Ú'.eqOk/\∀b:Bool,(b=true↔d∈ds)->Q (.bl (if q then !b else b)) H
section
variable {X:Cx}
def zdx(h:'Ú'.eqOk):∀d∈ds,PySem.W.kqdOk 7 d.toW=true:=λd q=>by
 have h':PySem.W.kqdOk 8 'Ú'.toW=true:=h;simp only[Dt.toW,PySem.W.kqdOk,cj,uU] at h';right
def zim(q:d.eqOk)(hs:'Ú'.eqOk):('ǋ'.any λy=>PyData.eqv y 'đ')=true↔d∈ds:=by
 rw[zeK,uU,aK,iE,iB];constructor;rintro⟨e,B,h⟩;have:=(eh 7 e.toW d.toW 8 (zdx hs e B) q).mp h;rw[<- zcw this];show B;intro h;show#[d,h,(eh 7 d.toW d.toW 8 (zdx hs d h) q).mpr A5]
def zl4(h:PySem.W.kqdOk 7 d=true):PySem.W.kqdOk 8 d=true:=by
 have q:∀ (n:Nat) (d:PySem.W.Dat),PySem.W.kqdOk n d=true->PySem.W.kqdOk (n+1) d=true:=by
  intro n
  induction n with
  | zero=>intro d h;cases d <;> simp_all [PySem.W.kqdOk]
  | succ n B=>
   intro d h;cases d <;> simp_all [PySem.W.kqdOk]
 show q 7 d h
def zrV {d:Dt}{ds:AS}{u:Nat}(I:d.eqOk)(hs:'Ú'.eqOk)(U:u+64<cLine):PyData.canLayAll0 'ǋ'=true/\'đ'.canLay0=true/\u+1+min (PyData.depthAll 'ǋ') 'đ'.depth<cLine:=by
 have B:=dJ 8 _ I;have J:=PySem.W.kqd_layL (ds:=Dt.toWs ds) λe F=>by rw[uU] at F;obtain⟨O,q,rfl⟩:=aJ.mp F;show zl4 (zdx hs O q)
 show#[J.1,B.1,?_];have:min (PyData.depthAll 'ǋ') 'đ'.depth<=8:=aw (iy _ _) B.2;lia
def zka (Z:'ĕ'):OpQ X (compareOp .In) (zvK false):=#[by
 intro A6 s G H x y v u Q I rx J h;obtain⟨d,ds,hd,B,F,ks,q⟩:=h;obtain⟨as,ra⟩:=xi I.hok 8 hd rx F;obtain⟨O,U,Y⟩:=zrV F ks Z;rcases B with B | B;obtain⟨bs,rb⟩:=xi I.hok 8 B J ks;show in_list_reads rb ra O U Y #[.bl _,H,I,A5,q _ (zim F ks)];obtain⟨bs,rb⟩:=xi I.hok 8 B J (show (Dt.tup ds).eqOk from ks);show in_tuple_reads rb ra O U Y #[.bl _,H,I,A5,q _ (zim F ks)]]
end
def zsr (bk:AW)(q:Int)(st:AG):AF:=(bk.filter λx=>decide (x.b=q)&&xt st x.g).map λx=>[x.w,x.r]
def lpF (bk:AW)(q:Int)(st:AG):AF:=zgk (zsr bk q st)
def zna (C:Nat->Nat->Bool)(w j:Nat):AF:=((List.range j).filter (C w)).map λb:Nat=>[(w:Int),(b:Int)]
def zv1 (C:Nat->Nat->Bool)(n:Nat):Nat->AF
 | 0=>[]
 | i+1=>zv1 C n i++zna C i n
def zgl {a b:AG}(h:stD a=stD b):a=b:=by have:=congrArg (List.map Dt.val) (Dt.tup.inj h);rwa[uh,uh] at this
open PySem.W PySem.Calls
section
variable {prog:Aa}{w:Ab}{A:Ae}{E:AA}{s:AZ}{R:Result->AZ->Prop}
variable {X:Cx}
variable {e st:Expr}{te tk:TE}{pos p2:Pos}
end
def zgT {B q:AG}{x:Wi}:zuR B q x=true↔uw B x=true/\chg B x.b x.r=q:=by
 unfold zuR;grind
def zbR{B q:AG}:q∈uz bk B []↔∃x∈bk,zuR B q x=true:=by
 unfold uz;rw[yc,yX];constructor;rintro⟨x,F,h1,_,h2⟩;show#[x,F,zgT.mpr #[h1,h2.symm]];rintro⟨x,F,h⟩;obtain⟨h1,h2⟩:=zgT.mp h;show#[x,F,h1,ck,h2.symm]
def zok{rm:AG}{q hs:AG}(B:∀x∈bk,WishOk rm x)(F:q.length=rm.length):Up' (uz bk q hs):=zbO (zao B F)
def unlike (q z hs:AG):AG:=hs.filter λb=>decide (zy q b≠zy z b)
section
variable {X:Cx}{pos:Pos}
end
end L2
namespace L2
open PyProof.Rows
end L2
namespace L2
open PyProof.Rows
section
variable {M:Model}{A:Ae}{E:AA}{s:AZ}
variable {X:Cx}{A6:AB}{G:St}{H:Hp}{scope:Scope}{N:AM}{z:Str}{A8:List (Option Nat)}
end
end L2
namespace L2
open PyProof.Rows
end L2
namespace L2
open PyProof.Rows
section
variable {prog:Aa}{w:Ab}{A:Ae}{E:AA}{s:AZ}{R:Result->AZ->Prop}{Kt:Type}[DecidableEq Kt]{knd:KeyKind prog w Kt}{κ:Int->Kt}
end
end L2
namespace L2
open PyProof.Rows
def zpS {X:Cx}{A6:AB}{G:St}{H:Hp}{s:AZ}{a:Addr}{xs:AT}(I:')')(h:SqL X.K H a xs):∃its:AN,yi xs its/\s.heap.IsList a its.toArray/\xs.length<=sizeLine:=by obtain⟨its,r,⟨o,n,e,c,_,d⟩,z⟩:=I.list h;show#[its,r,#[o,e,c,n,d],z]
end L2
namespace L2
open PyProof.Rows
abbrev nmS (b:Bool):String:=match b with | true => "tuple" | false => "list"
abbrev nmI (b:Bool):String:=match b with | true => "tuple_iterator" | false => "list_iterator"
def SqH (b:Bool)(h:Heap)(l:Addr)(xs:AK):Prop:=∃o,h.get? l=some o/\o.cls = .type (nmS b)/\∃n,o.data = .seq xs n
def ItH (b:Bool)(h:Heap)(i l:Addr)(k:Nat):Prop:=∃o,h.get? i=some o/\o.cls = .type (nmI b)/\o.data = .fields #v[.ref l,.int k 0]
abbrev SqV (b:Bool) (K:AH) (H:Hp) (a:Addr) (xs:AT):Prop:=match b with | true=>SqT K H a xs | false=>SqL K H a xs
def zf7{X:Cx}{A6:AB}{G:St}{H:Hp}{s:AZ}{a:Addr}{xs:AT}(I:')')(h:SqV b X.K H a xs):∃its:AN,yi xs its/\SqH b s.heap a its.toArray:=by
 cases b;obtain⟨its,r,p,_⟩:=zpS I h;show#[its,r,p];obtain⟨its,r,p,_⟩:=I.tuple h;show#[its,r,p]
def zuT{X:Cx}{A6:AB}{G:St}{H:Hp}{a:Addr}(I:')')(h:SqV b X.K H a xs)(h':SqV b X.K H a ys):xs=ys:=by
 cases b;show I.list_inj h h';show I.tuple_inj h h'
section
variable {prog:Aa}{w:Ab}{A:Ae}{E:AA}{s:AZ}
def zhN(B:ItH k s.heap it t i)(F:SqH k s.heap t q)(I:q[i]?=some x)(J:∀h',ItH k h' it t '('->Heap.SameBut it s.heap h'->Q x '5'):Ag prog w A (Builtin.SmallTypes.nextOf 'X') Q E s:=by
 cases k;show wpAny_nextOf_list_item B F I J;show yN B F I J
def zj4(F:'ë')(B:ItH k s.heap it t i)(I:SqH k s.heap t q)(J:q[i]?=none)(O:'Ƞ'):Ag prog w A (Builtin.SmallTypes.nextOf 'X') Q E s:=by
 cases k;show wpAny_nextOf_list_end F B I J O;show xb F B I J O
def zuU(h:SqH k s.heap l q)(B:Q '°' { s with heap:=s.heap.push { cls:=.type (nmI k),data:=.fields #v[.ref l,.int 0 0] } }):Ag prog w A (pyIter (.ref l)) Q E s:=by
 cases k;show hZ h B;show dw h B
def zcO{z TI TO i1 i2 t1 t2:Addr}{xs ys:AK}{x y a b:Value}{Q:AA}(BB:ZipApart z TI TO i1 i2 t1 t2)(hz:IsZip s.heap z TI TO .none)(b0:IsPair s.heap TI (.ref i1) (.ref i2))(b1:IsPair s.heap TO a b)(h1:ItH kb s.heap i1 t1 k1)(h2:s.heap.IsTupleIter i2 t2 k2)(hx:SqH kb s.heap t1 xs)(hy:s.heap.IsTuple t2 ys)(ex:xs[k1]?=some x)(ey:ys[k2]?=some y)(hQ:∀h',IsZip h' z TI TO (rawInt s.heap.objs.size)->IsPair h' TO x y->ItH kb h' i1 t1 (k1+1)->h'.IsTupleIter i2 t2 (k2+1)->IsPair h' s.heap.objs.size x y->h'.objs.size=s.heap.objs.size+1->
   (∀c o,c≠z->c≠TO->c≠i1->c≠i2->s.heap.get? c=some o->h'.get? c=some o)->Q '°' '5') :
  Ag prog w A (Builtin.«zip.__next__» #[[.ref z],[]]) (λfin s'=>∃v,fin = .done (.ret v)/\Q v s') E s:=by
 change wpAny _ _ (field '~' 2 >>= _) _ _ s;show aa (bO hz A5 (x:=.bool false) A5 ?_);change wpAny _ _ (field '~' 3 >>= _) _ _ s;show aa (bO hz A5 (x:=.ref TI) A5 ?_);change wpAny _ _ (seqItems? (.ref TI) >>= _) _ _ s;show aa (cL b0 A5 ?_);change wpAny _ _ (Builtin.SmallTypes.ownedTupleIsFree '~' >>= _) _ _ s;show aa ?_;change wpAny _ _ (field '~' 0 >>= _) _ _ s;show aa (bO hz A5 (x:=.none) A5 ?_);show af ?_;change wpAny _ _ (rule "zip.__next__.owned-tuple-again" >>= _) _ _ s;show aa (cD ?_);change wpAny _ _ (field '~' 4 >>= _) _ _ s;show aa (bO hz A5 (x:=.ref TO) A5 ?_);change wpAny _ _ (setField '~' 0 .ellipsis >>= _) _ _ s;show aa (bW hz A5 '$' ?_);have a1:'ž'.get? z=some 'Ǘ':=bI _ hz A5;have B:∀c,c≠z->'ž'.get? c=s.heap.get? c:=λc q=>cb _ _ (Ne.symm q);have a2:'ž'.objs.size=s.heap.objs.size:=by simp[Heap.update]
 generalize s.heap.update z 'ǒ'=H1 at a1 B a2;change wpAny _ _ 'Ȟ' _ _ _;rw[gD];show aa (aa ?_);show aa (fg ?_);change wpAny _ _ 'ț' _ _ _;rw[if_neg '#'];have b2:ItH kb H1 i1 t1 k1:=by obtain⟨o,F,r⟩:=h1;show#[o,(B _ BB.i1z).trans F,r]
 have b3:SqH kb H1 t1 xs:=by obtain⟨o,F,r⟩:=hx;show#[o,(B _ BB.l1z).trans F,r]
 show aa (zhN (s:={ s with heap:=H1 }) b2 b3 ex λH2 a3 a4=>?_);show af ?_;have I:∀c,c≠i1->H2.get? c=H1.get? c:=λc q=>a4.2 c q;have ab:IsPair H2 TO a b:=(I _ BB.TOi1).trans ((B _ BB.TOz).trans b1);change wpAny _ _ (seqItems? (.ref TO) >>= _) _ _ _;show aa (cL (s:={ s with heap:=H2 }) ab A5 ?_);show aa (wpAny_updateSeq_pair (s:={ s with heap:=H2 }) ab λH3 a5 a7=>?_);show aa (wpAny_letGo ?_);show af ?_;have ag:IsPair H3 TO x b:=a5;have J:∀c,c≠TO->H3.get? c=H2.get? c:=λc q=>a7.2 c q;change wpAny _ _ (forIn ([(Value.ref i2,1)]:List (Value×Nat)) 'ȧ' _) _ _ _;rw[gD];show aa ?_;show aa (fg ?_);change wpAny _ _ (if (Value.bool false==Value.bool true)=true then _ else (Builtin.SmallTypes.nextOf (.ref i2) >>= λx=>pure (some x))) _ _ _;rw[if_neg '#'];have b4:H3.IsTupleIter i2 t2 k2:=by obtain⟨o,F,r⟩:=h2;show#[o,(J _ (Ne.symm BB.TOi2)).trans ((I _ (Ne.symm BB.i12)).trans ((B _ BB.i2z).trans F)),r]
 have b5:H3.IsTuple t2 ys:=by obtain⟨o,F,r⟩:=hy;show#[o,(J _ BB.l2TO).trans ((I _ BB.l2i1).trans ((B _ BB.l2z).trans F)),r]
 show aa (yN (s:={ s with heap:=H3 }) b4 b5 ey λH4 bb bc=>?_);show af ?_;have Y:∀c,c≠i2->H4.get? c=H3.get? c:=λc q=>bc.2 c q;have ac:IsPair H4 TO x b:=(Y _ BB.TOi2).trans ag;change wpAny _ _ (seqItems? (.ref TO) >>= _) _ _ _;show aa (cL (s:={ s with heap:=H4 }) ac A5 ?_);show aa (wpAny_updateSeq_pair (s:={ s with heap:=H4 }) ac λH5 bd bk=>?_);show aa (wpAny_letGo ?_);show af ?_;have O:IsPair H5 TO x y:=bd;have Z:∀c,c≠TO->H5.get? c=H4.get? c:=λc q=>bk.2 c q;change wpAny _ _ (forIn ([]:List (Value×Nat)) 'ȧ' _) _ _ _;rw[List.forIn_nil];show af ?_;change wpAny _ _ (seqItems? (.ref TO) >>= _) _ _ _;show aa (cL (s:={ s with heap:=H5 }) O A5 ?_);show aa (wpAny_newTuple ?_ (by change 2<=sizeLine;decide));have bl:H5.objs.size=s.heap.objs.size:=bk.1.trans (bc.1.trans (a7.1.trans (a4.1.trans a2)));have ko:∀c o,c≠z->c≠TO->c≠i1->c≠i2->s.heap.get? c=some o->H5.get? c=some o:=λc o c1 c2 c3 c4 e=>(Z _ c2).trans ((Y _ c4).trans ((J _ c2).trans ((I _ c3).trans ((B _ c1).trans e))));have b6:H5.get? z=some 'Ǘ':=(Z _ (Ne.symm BB.TOz)).trans ((Y _ (Ne.symm BB.i2z)).trans ((J _ (Ne.symm BB.TOz)).trans ((I _ (Ne.symm BB.i1z)).trans a1)));have U:=ar H5 (o:='ť') A5;change wpAny _ _ (Builtin.SmallTypes.ownedTupleHandOut '~' (.ref H5.objs.size) >>= _) _ _ { s with heap:=H5.push 'ť' };have al:∀c o,H5.get? c=some o->(H5.push 'ť').get? c=some o:=λc o e=>ah _ e;have bm:(H5.push 'ť').objs.size=s.heap.objs.size+1:=by rw[dF,bl]
 rw[bl] at U ⊢;generalize H5.push 'ť'=H6 at U al bm;have bo:=al _ _ b6;show aa ?_;change wpAny _ _ (setField '~' 0 (rawInt s.heap.objs.size) >>= _) _ _ { s with heap:=H6 };show aa (bW bo A5 '$' ?_);have an:(H6.update z 'Ɣ').get? z=some 'ȣ':=bI _ bo A5;have as:∀c,c≠z->(H6.update z 'Ɣ').get? c=H6.get? c:=λc q=>cb _ _ (Ne.symm q);have bs:(H6.update z 'Ɣ').objs.size=H6.objs.size:=by simp[Heap.update]
 generalize H6.update z 'Ɣ'=H7 at an as bs;show bW (s:={ s with heap:=H7 }) an A5 '$' ?_;have bt:(H7.update z 'Ƙ').get? z=some 'ȣ':=bI _ an A5;have a0:∀c,c≠z->(H7.update z 'Ƙ').get? c=H7.get? c:=λc q=>cb _ _ (Ne.symm q);have bx:(H7.update z 'Ƙ').objs.size=H7.objs.size:=by simp[Heap.update]
 generalize H7.update z 'Ƙ'=H8 at bt a0 bx;have kk:∀c o,c≠z->H5.get? c=some o->H8.get? c=some o:=λc o q e=>(a0 _ q).trans ((as _ q).trans (al _ _ e));have ad:=av hz;show af #[_,A5,hQ H8 bt (kk _ _ BB.TOz O) ?_ ?_ ?_ (by rw[bx,bs,bm]) λc o c1 c2 c3 c4 e=>kk _ _ c1 (ko c o c1 c2 c3 c4 e)];obtain⟨o,F,r⟩:=a3;show#[o,kk _ _ BB.i1z ((Z _ (Ne.symm BB.TOi1)).trans ((Y _ BB.i12).trans ((J _ (Ne.symm BB.TOi1)).trans F))),r];obtain⟨o,F,r⟩:=bb;show#[o,kk _ _ BB.i2z ((Z _ (Ne.symm BB.TOi2)).trans F),r];show (a0 _ (eQ ad)).trans ((as _ (eQ ad)).trans U)
def zeb{z TI TO i1 i2 t1 t2:Addr}{xs:AK}{Q:PySem.Fin->AZ->Prop}(BB:ZipApart z TI TO i1 i2 t1 t2)(hh:'ë')(B:IsZip s.heap z TI TO .none)(J:IsPair s.heap TI (.ref i1) (.ref i2))(h1:ItH kb s.heap i1 t1 k1)(hx:SqH kb s.heap t1 xs)(ex:xs[k1]?=none)(hE:∀h' e,(∀c o,c≠z->c≠i1->s.heap.get? c=some o->h'.get? c=some o)->(∃o,h'.get? e=some o/\o.cls = .type "StopIteration")->E (.ref e) '5') :
  Ag prog w A (Builtin.«zip.__next__» #[[.ref z],[]]) Q E s:=by
 change wpAny _ _ (field '~' 2 >>= _) _ _ s;show aa (bO B A5 (x:=.bool false) A5 ?_);change wpAny _ _ (field '~' 3 >>= _) _ _ s;show aa (bO B A5 (x:=.ref TI) A5 ?_);change wpAny _ _ (seqItems? (.ref TI) >>= _) _ _ s;show aa (cL J A5 ?_);change wpAny _ _ (Builtin.SmallTypes.ownedTupleIsFree '~' >>= _) _ _ s;show aa ?_;change wpAny _ _ (field '~' 0 >>= _) _ _ s;show aa (bO B A5 (x:=.none) A5 ?_);show af ?_;change wpAny _ _ (rule "zip.__next__.owned-tuple-again" >>= _) _ _ s;show aa (cD ?_);change wpAny _ _ (field '~' 4 >>= _) _ _ s;show aa (bO B A5 (x:=.ref TO) A5 ?_);change wpAny _ _ (setField '~' 0 .ellipsis >>= _) _ _ s;show aa (bW B A5 '$' ?_);have F:'ž'.get? z=some 'Ǘ':=bI _ B A5;have q:∀c,c≠z->'ž'.get? c=s.heap.get? c:=λc O=>cb _ _ (Ne.symm O);generalize s.heap.update z 'ǒ'=H1 at F q;change wpAny _ _ 'Ȟ' _ _ _;rw[gD];show aa (aa ?_);show aa (fg ?_);change wpAny _ _ 'ț' _ _ _;rw[if_neg '#'];have U:ItH kb H1 i1 t1 k1:=by obtain⟨o,I,r⟩:=h1;show#[o,(q _ BB.i1z).trans I,r]
 have Y:SqH kb H1 t1 xs:=by obtain⟨o,I,r⟩:=hx;show#[o,(q _ BB.l1z).trans I,r]
 show aa (zj4 (s:={ s with heap:=H1 }) hh U Y ex λH2 e eb he=>?_);have Z:=eb z _ (Ne.symm BB.i1z) F;show bW (s:={ s with heap:=H2 }) Z A5 '$' ?_;have ab:e≠z:=by grind
 show hE _ e (λc o c1 c2 e1=>?_) ?_;show (cb _ _ (Ne.symm c1)).trans (eb c o c2 ((q _ c1).trans e1));obtain⟨o,I,O⟩:=he;show#[o,(cb _ _ (Ne.symm ab)).trans I,O]
def zhu (kb:Bool)(h:Heap)(q B:Addr):Heap:=
 ((((h.push 'ƙ').push { cls:=.type "tuple_iterator",data:=.fields #v[.ref B,.int 0 0] }).push { cls:=.type "tuple",data:=.seq #v[.ref h.objs.size,.ref (h.objs.size+1)] }).push { cls:=.type "tuple",data:=.seq #v[.none,.none] }).push
  { cls:=.type "zip",data:=.fields #v[.none,.bool false,.bool false,.ref (h.objs.size+2),.ref (h.objs.size+3)] }
def zcF (kb:Bool)(q B:Addr)(xs ys:AK) :
  Meets (Builtin.«zip.__new__» #[[.type "zip",.ref q,.ref B],[]]) (λ_ R s=>SqH kb s.heap q xs/\s.heap.IsTuple B ys/\R (.ok (.ret (.ref (s.heap.objs.size+4)))) { s with heap:=zhu kb s.heap q B }):=
 .of_wp λprog w A R s h=>by
  obtain⟨hp,g,d,tk,J⟩:=s;obtain⟨h1,h2,h⟩:=h;have I:=sub_zip;have F:Heap.IsTuple (Shared.heap #[hp.push 'ƙ',g,d,tk,J]) B ys:=by obtain⟨o,O,r⟩:=h2;show#[o,ah _ O,r]
  wp_walk using zuU h1,dw F
  show#[_,A5,?_];unfold zhu at h;simpa [dF,Builtin.SmallTypes.ownedTupleFields] using h
def zir(h1:SqH kb s.heap q xs)(h2:s.heap.IsTuple I ys)(h:∀h',IsZip h' (s.heap.objs.size+4) (s.heap.objs.size+2) (s.heap.objs.size+3) .none->IsPair h' (s.heap.objs.size+2) '°' (.ref 'ø')->IsPair h' (s.heap.objs.size+3) .none .none->
   ItH kb h' s.heap.objs.size q 0->h'.IsTupleIter 'ø' I 0->h'.objs.size=s.heap.objs.size+5->(∀b o,s.heap.get? b=some o->h'.get? b=some o)->Q (.ref (s.heap.objs.size+4)) '5') :
  Ag prog w A (call (.type "zip") [.ref q,.ref I]) Q E s:=by
 show callType_new F.called_zip '#' (F.typeCall_zip_2 _ _) (F.newCall_zip_2 _ _) (λJ=>F.args_object_init_3 J _ _) F.entry_zip_new (zcF kb q I xs ys) #[h1,h2,?_];generalize ab:('ƙ':Obj)=o0;have z1:∀o,(s.heap.push o).objs.size=s.heap.objs.size+1:=λo=>dF ..;have z2:∀o o',((s.heap.push o).push o').objs.size=s.heap.objs.size+2:=λo o'=>by rw[dF,z1]
 have z3:∀o o' B,(((s.heap.push o).push o').push B).objs.size=s.heap.objs.size+3:=λo o' B=>by rw[dF,z2]
 have z4:∀o o' B p,((((s.heap.push o).push o').push B).push p).objs.size=s.heap.objs.size+4:=λo o' B p=>by rw[dF,z3]
 have gz:'ƈ'.get? (s.heap.objs.size+4)=some { cls:=.type "zip",data:=.fields #v[.none,.bool false,.bool false,.ref (s.heap.objs.size+2),.ref (s.heap.objs.size+3)] }:=by unfold zhu;rw[<- z4];show ar _ A5
 have O:'ƈ'.get? (s.heap.objs.size+3)=some { cls:=.type "tuple",data:=.seq #v[.none,.none] }:=by unfold zhu;show ah _ ?_;rw[<- z3];show ar _ A5
 have U:'ƈ'.get? (s.heap.objs.size+2)=some { cls:=.type "tuple",data:=.seq #v[.ref s.heap.objs.size,.ref 'ø'] }:=by unfold zhu;show ah _ (ah _ ?_);rw[<- z2];show ar _ A5
 have Y:'ƈ'.get? 'ø'=some { cls:=.type "tuple_iterator",data:=.fields #v[.ref I,.int 0 0] }:=by unfold zhu;show ah _ (ah _ (ah _ ?_));rw[<- z1];show ar _ A5
 have Z:'ƈ'.get? s.heap.objs.size=some 'ƙ':=by unfold zhu;show ah _ (ah _ (ah _ (ah _ (ar _ A5))))
 show#[#[_,gz,A5],h _ gz U O #[_,Z,A5,A5] #[_,Y,A5,A5] ?_ λb o x=>?_];unfold zhu;rw[dF,z4];unfold zhu;show ah _ (ah _ (ah _ (ah _ (ah _ x))))
end
def Izg (kb:Bool)(K:AH)(a b:Addr):It:=
 #[λi H=>∃xs ys x y,SqV kb K H a xs/\SqT K H b ys/\xs[i]?=some x/\ys[i]?=some y,λi H v H'=>∃T x y,v = .ref T/\H T=none/\H'=upd H T (.tup [x,y])/\(∀xs,SqV kb K H a xs->xs[i]?=some x)/\∀ys,SqT K H b ys->ys[i]?=some y,λi H=>∃xs,SqV kb K H a xs/\xs.length<=i]
def zk4{P:Aa}{w:Ab}{K:AH}{a2:AO}{x1}(z TI TO i1 i2 a b:Addr)(BB:ZipApart z TI TO i1 i2 a b) :
  Turn P w K (.Tuple a2 x1 tpos) (Izg kb K a b) [z,TI,TO,i1,i2] z (λi h=>IsZip h z TI TO .none/\IsPair h TI (.ref i1) (.ref i2)/\(∃c d,IsPair h TO c d)/\ItH kb h i1 a i/\h.IsTupleIter i2 b i) where
 mem:=by simp
 obj:=λi h st c J=>by
  obtain⟨hz,O,⟨u,v,ag⟩,⟨o1,e1,c1,d1⟩,⟨o2,e2,c2,d2⟩⟩:=st;grind
 keep:=λi h h' st k=>by obtain⟨hz,O,⟨u,v,ag⟩,⟨o1,e1,r1⟩,⟨o2,e2,r2⟩⟩:=st;show#[k z '$' _ hz,k TI '$' _ O,#[u,v,k TO '$' _ ag],#[o1,k i1 '$' _ e1,r1],#[o2,k i2 '$' _ e2,r2]]
 item:=by
  intro X hP hw hK J i A6 s G H E I hf st hg;subst hP hw hK;obtain⟨xs,ys,x,y,a3,a4,hx,hy⟩:=hg;obtain⟨b7,bm,p1⟩:=zf7 I a3;obtain⟨b8,bo,p2,cd⟩:=I.tuple a4;obtain⟨u1,bs,bt⟩:=bm.get hx;obtain⟨u2,bx,b0⟩:=bo.get hy;have Z:=hf z '$';have ab:=hf TO '$';have f1:=hf i1 '$';have f2:=hf i2 '$';obtain⟨hz,O,⟨c0,d0,ag⟩,an,as⟩:=st;have hT:s.TypeIs '~' "zip" := #[_,hz,A5];unfold pyNext
  show aa (dN (wpAny_callSpecial?_slot (name:='÷') hT gH
   (aX gH hT F.entry_zip_next (zcO (A:=X.A.in1) BB hz O ag an as p1 p2 (x:=u1) (y:=u2) (by simpa using bs) (by simpa using bx) λh' gz b1 b2 b3 gT ci hk=>?_) (F.args_zip_next_1 _))))
  show af #[_,A5,?_];show wpAny_letOwnedTupleGo_zip (s:='5') gz λal a5 U=>?_;have nz:∀b' o',s.heap.get? b'=some o'->s.heap.objs.size≠b':=λb' o' e=>eQ (av e);have a7:s.heap.objs.size≠z:=nz z _ hz;have bb:s.heap.objs.size≠TO:=nz TO _ ag;have b4:s.heap.objs.size≠i1:=by obtain⟨o,ho,_⟩:=an;show nz i1 _ ho
  have b5:s.heap.objs.size≠i2:=by obtain⟨o,ho,_⟩:=as;show nz i2 _ ho
  have bc:s.heap.objs.size≠TI:=nz TI _ O;have B:=I.hok.fresh (aj s.heap.objs.size);have kp:∀c o,c≠z->c≠TO->c≠i1->c≠i2->s.heap.get? c=some o->al.get? c=some o:=λc o h1 h2 h3 Y hb=>(U.2 c h1).trans (hk c o h1 h2 h3 Y hb);have bd:al.get? s.heap.objs.size=some { cls:=.type "tuple",data:=.seq #v[u1,u2] }:=(U.2 _ a7).trans gT;have ca:∀b' u',H b'=some u'->b'≠z/\b'≠TO/\b'≠i1/\b'≠i2:=λb' u' hb=>#[ze hb Z.1,ze hb ab.1,ze hb f1.1,ze hb f2.1]
  have bk:HOk X.prog X.w (upd H s.heap.objs.size (.tup [x,y])) al:=by
   intro b' u' hb;by_cases bl:b'=s.heap.objs.size;subst bl;rw[zg] at hb;cases hb;show#[by change 2<=sizeLine;decide,[u1,u2],.cons bt (.cons b0 .nil),_,bd,A5,#[0,A5],A5]
   ·rw[zc bl] at hb;show (I.hok b' u' hb).stay (λc v ac q=>?_) (λc q=>?_) (λc ys q=>?_)
    ·have:c≠z/\c≠TO/\c≠i1/\c≠i2:=by
      rcases ac with rfl | ac
      all_goals right
     right
    rw[zc (ze q B)];show q;rw[zc (ze q B)];show q
  have ad:∀c o,c∉[z,TO,i1,i2]->s.heap.get? c=some o->al.get? c=some o:=λc o J e=>kp c o 'ŕ' 'ŕ' 'ŕ' 'ŕ' e
  have I1:Inv X A6 G (upd H s.heap.objs.size (.tup [x,y])) { s with heap:=al,toks:=s.toks }:=by
   show Inv.step (ch:=[z,TO,i1,i2]) (g':=s.gens) (d':=s.drawn) (t':=s.toks) I (λc J=>?_) (λc o h1 h2 h3 Y h5=>?_) (λc o h1 h2 h3 Y h5=>?_) (λc o h3 Y h5=>?_) (λc o h3 Y=>?_) (λc ys q=>?_) (λc o u' q=>?_) (λc ps q=>?_) (λm hm=>?_) bk I.bare;simp only[au,ck,or_false] at J;rcases J with rfl | rfl | rfl | rfl;show#[Z.2.2.2.1,Z.2.1,Z.2.2.2.2.1,Z.2.2.2.2.2];show#[ab.2.2.2.1,ab.2.1,ab.2.2.2.2.1,ab.2.2.2.2.2];show#[f1.2.2.2.1,f1.2.1,f1.2.2.2.2.1,f1.2.2.2.2.2];show#[f2.2.2.2.1,f2.2.1,f2.2.2.2.2.1,f2.2.2.2.2.2];show ad c o h3 Y;show#[o.slots,ad c o h3 Y];rw[zc (aY (av Y))];show h5;show#[o,ad c o h3 Y];rw[zc (ze q B)];show q;rw[zc (ze q B)];show q;show#[#v[],by rw[zc (ze q B),gQ];show q];obtain⟨o,es,ep,a0,r1⟩:=hm;show#[o,es,ep,kp _ o (Ne.symm Z.2.1) (Ne.symm ab.2.1) (Ne.symm f1.2.1) (Ne.symm f2.2.1) a0,r1]
  show#['ú',_,I1,A5,#['ķ',x,y,A5,B,A5,λzs a1=>by rw[zuT I a1 a3];show hx,λzs a1=>by rw[I.tuple_inj a1 a4];show hy],#[a5,?_,#[_,_,(U.2 TO BB.TOz).trans b1],?_,?_],λc J=>?_];show kp TI _ BB.TIz BB.TITO BB.TIi1 BB.TIi2 O;obtain⟨o,ho,r⟩:=b2;show#[o,(U.2 i1 BB.i1z).trans ho,r];obtain⟨o,ho,r⟩:=b3;show#[o,(U.2 i2 BB.i2z).trans ho,r];simp only[au,ck,or_false] at J;rcases J with rfl | rfl | rfl | rfl | rfl;rw[zc (Ne.symm a7)];show Z.1;rw[zc (Ne.symm bc)];show (hf _ '$').1;rw[zc (Ne.symm bb)];show ab.1;rw[zc (Ne.symm b4)];show f1.1;rw[zc (Ne.symm b5)];show f2.1
 done:=by
  intro X hP hw hK J i A6 s G H E I hf st hg;subst hP hw hK;obtain⟨xs,hq,hx⟩:=hg;obtain⟨its,rv,p⟩:=zf7 I hq;have Z:=hf z '$';have f1:=hf i1 '$';obtain⟨hz,O,⟨c0,d0,ag⟩,an,as⟩:=st;have hl:=rv.length;have hT:s.TypeIs '~' "zip" := #[_,hz,A5];unfold pyNext
  show aa (dN (wpAny_callSpecial?_slot (name:='÷') hT gH
   (aX gH hT F.entry_zip_next (zeb (A:=X.A.in1) BB (I.ok.hd J) hz O an p '¶' λh' e ko he=>?_) (F.args_zip_next_1 _))))
  obtain⟨o,ho,b6⟩:=he;show aa (cP (T := "StopIteration") (b:=true) #[o,ho,b6] fO ?_);show af #[A5,?_];have ad:∀c o,c∉[z,i1]->s.heap.get? c=some o->h'.get? c=some o:=λc o J e=>ko c o 'ŕ' 'ŕ' e;show Inv.step (ch:=[z,i1]) (g':=s.gens) (d':=s.drawn) (t':=s.toks) I (λc J=>?_) (λc o h1 h2 h3 Y h5=>ad c o h3 Y) (λc o h1 h2 h3 Y h5=>#[o.slots,ad c o h3 Y]) (λc o h3 Y h5=>h5) (λc o h3 Y=>#[o,ad c o h3 Y]) (λc ys q=>q) (λc o u' q=>q) (λc ps q=>#[#v[],'9']) (λm hm=>?_) (λb' u' hb=>?_) I.bare;simp only[au,ck,or_false] at J;rcases J with rfl | rfl;show#[Z.2.2.2.1,Z.2.1,Z.2.2.2.2.1,Z.2.2.2.2.2];show#[f1.2.2.2.1,f1.2.1,f1.2.2.2.2.1,f1.2.2.2.2.2];obtain⟨o,es,ep,a0,r1⟩:=hm;show#[o,es,ep,ko _ o (Ne.symm Z.2.1) (Ne.symm f1.2.1) a0,r1];show (I.hok b' u' hb).stay (λc v ac q=>?_) (λc q=>q) (λc ys q=>q)
  have:c≠z/\c≠i1:=by
   rcases ac with rfl | ac;show#[ze hb Z.1,ze hb f1.1];show#[ze ac Z.1,ze ac f1.1]
  show ko c v this.1 this.2 q
 self:=λA i s Q E st h=>by obtain⟨hz,_⟩:=st;show wpAny_pyIter_zip hz h
def zrD (kb:Bool)(K:AH)(ta:TA):TI:=λG H R=>ta G H λvs H1=>∃a b,vs=[.ref a,.ref b]/\(∃xs,SqV kb K H1 a xs)/\(∃ys,SqT K H1 b ys)/\R (Izg kb K a b) H1
def zpR (kb:Bool){X:Cx}{F:AO}{x1}{tpos:Pos}{a b:Expr}{ta:TA}{p pos:Pos}(hg:Gl X "zip")(hm:X.mg "zip" = none)(ha:PA X [a,b] ta)(hs:'ǳ':=by rfl)(J:starEach [b] X.env=['ǿ']:=by rfl) :
  PI X (.Tuple F x1 tpos) 'ȍ' (zrD kb X.K ta):=by
 intro A6 s G H R I h;show Call_ (zc2 I hg hm boot_zip (cZ (thn (ha pos A6 s G H _ I h) λus B ⟨vs,H1,I1,r1,q1⟩=>?_) (by rw[hs,J]) (by rw[J];rfl)));obtain⟨c,d,e,⟨xs,U⟩,⟨ys,Y⟩,q⟩:=q1;subst e
 cases r1 with
 | cons r Z=>
  cases Z with
  | cons r' Z=>
   cases Z;cases r;cases r';obtain⟨as,a0,p1⟩:=zf7 I1 U;obtain⟨O,a1,p2,a2⟩:=I1.tuple Y;have ab:c<B.heap.objs.size:=by obtain⟨o,ho,_⟩:=id p1;show av ho
   have ac:d<B.heap.objs.size:=by obtain⟨o,ho,_⟩:=id p2;show av ho
   show zir p1 (show B.heap.IsTuple d O.toArray from p2) λh' gz ad ag al an hsz hk=>?_;have I2:Inv X A6 G H1 { B with heap:=h',toks:=B.toks }:=I1.kept (t':=B.toks) hk;show wpAny_pyIter_zip gz ?_;show#[B.heap.objs.size+4,[B.heap.objs.size+4,B.heap.objs.size+2,B.heap.objs.size+3,'Ę',B.heap.objs.size+1],_,_,H1,A5,I2,zk4 _ _ _ _ _ c d (zipApart_new ab ac),#[gz,ad,#[_,_,ag],al,an],λe he=>?_,q];simp only[au,ck,or_false] at he;rcases he with rfl | rfl | rfl | rfl | rfl;show I1.fpOk '!' (I1.hok.fresh '!');show I1.fpOk '!' (I1.hok.fresh '!');show I1.fpOk '!' (I1.hok.fresh '!');show I1.fpOk '/' 'ī';show I1.fpOk '!' (I1.hok.fresh '!')
def zqf (kb:Bool){X:Cx}{q:AO}{x1}{tpos:Pos}{a b:Expr}{ta:TA}{p pos:Pos}(F:Gl X "zip")(I:X.mg "zip" = none)(J:QA X [a,b] ta)(hs:'ǳ':=by rfl)(B:starEach [b] X.env=['ǿ']:=by rfl) :
  QI X (.Tuple q x1 tpos) 'ȍ' (zrD kb X.K ta):=#[zpR kb F I J.run hs B]
section
variable {X:Cx}
def zqk:V->AT->Hp->VK->Prop:=λx vs H Q=>∃l xs k y,x = .ref l/\vs=[.int k,y]/\H l=some '+'/\0<=k/\k<=xs.length/\xs.length<sizeLine/\Q .non (upd H l (.lst (xs.take k.toNat++y::xs.drop k.toNat)))
def zjZ:MtM X "list.insert" zqk:=by
 intro A6 s G H x vs v us Q I J O h;obtain⟨l,xs,k,y,rfl,rfl,B,h0,h1,U,q⟩:=h;cases J
 cases O with
 | cons Y Z=>
  cases Z with
  | cons r2 rn=>
   cases rn;obtain⟨t,rfl⟩:=Y;obtain⟨z,its,n,r,hl,e⟩:=I.lstM (.inl B)
   have hk:k<2 ^ 63:=by
    have:(xs.length:Int)<=2 ^ 40:=by have h2:xs.length<=2 ^ 40:=aw (dq U) '#';lia
    lia
   show call_meets PySem.F.slot_list_insert #[_,e,A5] PySem.F.entry_list_insert (PySem.F.args_list_insert_3 _ _ _)
    (AutoSeq1.list_insert_list_int_val_1 l its.toArray n k t _ (by rw[fitsIndex_both '!' hk];decide) '?') #[e,?_]
   show#[.non,_,I.lset (its':=its.take k.toNat++_::its.drop k.toNat) B e ?_ ((r.take _).append (.cons r2 (r.drop _))) ?_,A5,q];change (its.toArray.extract 0 'Ȱ').push _++its.toArray.extract 'Ȱ'=_;rw[if_neg '!',aV,eZ '!'];apply fX.mp;simp;rw[bw '$'];grind
def znQ{T:String}{name:Str}{id:String}{r:V->AT->Hp->VK->Prop}{es:AO}{to:TE}{t:TA}{apos cpos:Pos}(U:PlainAttrs T)(I:Slot T name id)(O:typeOf 'Ï'=pure (.type "method_descriptor"))(Y:MtR X id r)(Z:QE X o to)(ha:QA X '=' t)(B:attributeBase o name X.env (eval o X.env)=eval o X.env:=by rfl)(J:((backTo cpos (starEach '=' X.env)).all (λx=>!x.1)&&(backToKw cpos 'ź').all (λx=>x.1.isSome)
   && decide ('='.length+'Ɯ'.length+'Ƒ'<30))=true:=by rfl)(F:(apos.endLine==cpos.line)=true:=by rfl)(hs:'g':=by rfl)(q:(backTo cpos 'ř').any '%'=false:=by rfl) :
  QE X (.Call (.Attribute o name apos) '=' [] cpos) (tBM X.K T r to t):=#[zsv U I O Y Z.run ha.run B J F hs q]
end
mutual
def Dt.hk:Dt->Bool
 | .int _=>true
 | .tup l=>Dt.hks l
 | _=>false
def Dt.hks:AS->Bool
 | []=>true
 | d::ds=>d.hk&&Dt.hks ds
end
theorem xp:∀ {l:AS},Dt.hks l=true↔∀d∈l,d.hk=true
 | []=>by simp[Dt.hks]
 | d::l=>by simp[Dt.hks,xp (l:=l)]
noncomputable instance:DecidableEq Dt:=λa b=>Classical.propDecidable _
section
mutual
def zap:Dt->Int
 | .int n=>hashInt n
 | .tup l=>reduceHash (Builtin.Tuple.tupleHashOf (zgS l))
 | _=>0
def zgS:AS->AG
 | []=>[]
 | d::ds=>zap d::zgS ds
end
mutual
def drD:Dt->Nat
 | .tup l=>zgL l+1
 | _=>1
def zgL:AS->Nat
 | []=>0
 | d::ds=>drD d+zgL ds
end
theorem zcY:∀l:AS,zgS l=l.map zap
 | []=>rfl
 | d::l=>by rw[zgS,zcY l,az]
theorem zgM:∀l m:AS,zgL (l++m)=zgL l+zgL m
 | [],m=>by simp[zgL]
 | d::l,m=>by rw[cR,zgL,zgM l m,zgL,fD]
variable {P:Aa}{w:Ab}
def xR(h:PySem.W.kqdOk (n+1) (Dt.tup l).toW=true):∀d∈l,PySem.W.kqdOk n d.toW=true:=λd q=>by
 simp only[Dt.toW,PySem.W.kqdOk,cj,uU] at h;right
def zoO:∀ (n:Nat) {d:Dt} {A:Ae} {v:Value} {as:AY} {s:AZ} {Q:Int->AZ->Prop},d.hk=true->PySem.W.kqdOk n d.toW=true->Reads s.heap v 'đ' as->A.units+n<cLine->
  Q (zap d) { s with toks:=s.toks+drD d }->wpAny 'Ò' A (pyHash v) Q E s:=by
 intro n
 induction n with
 | zero=>
  intro d A v as s Q U Z J hu q
  cases d with
  | int i=>
   cases J;show (intKind P w).pyHash (k:=i) (by simp[intKind,Value.isInt]) q
  | tup l=>simp[Dt.toW,PySem.W.kqdOk] at Z
  | _=>cases U
 | succ n ih=>
  intro d A v as s Q U Z J hu q
  cases d with
  | int i=>
   cases J;show (intKind P w).pyHash (k:=i) (by simp[intKind,Value.isInt]) q
  | tup l=>
   have hi:=xR Z;have ab:=xp.mp (show Dt.hks l=true from U)
   cases J with
   | @tuple a o vs m xs as g hc hd O=>
   have Y:s.TypeIs 'J' "tuple" := #[o,g,hc];unfold pyHash
   first | unfold pyHashByItsType | skip
   first | show aa (wpAny_cRoomFor_or (.inr '!') ?_) | skip
   show aa (dY Y F.slot_tuple_hash.lookup ?_);change wpAny _ _ (if (some (Value.builtin "tuple.__hash__")==some Value.none)=true then _ else _) Q E s;rw[if_neg (by rw[beq_builtin_none];show ax)];show aa (dY Y F.slot_tuple_hash.lookup ?_);change wpAny _ _ (callSpecialIfBoundUnlessNone? 'J' "__hash__" _ >>= _) Q E s;show aa (wpAny_callSpecialIfBoundUnlessNone?_slot Y F.slot_tuple_hash (aX F.slot_tuple_hash Y F.entry_tuple_hash ?_ (F.args_tuple_hash_1 _)));change wpAny _ _ (Builtin.Tuple.tupleItemsOf 'J' >>= _) _ _ s;show aa (gX g hd ?_);show aa ?_;rw[<- fj]
   show dQ _
    (λzu (b:Array Int) s'=>∃done left bs,l=done++left/\ReadsAll s.heap zu (PySem.W.kqdPs (Dt.toWs left)) bs/\b.toList=done.map zap/\s'={ s with toks:=s.toks+zgL done })
    _ ?_ ?_ _ _ #[[],l,_,A5,O,A5,A5]
   ·rintro x zu b s' ⟨done,left,bs,rfl,O,hb,rfl⟩
    cases left with
    | nil=>cases O
    | cons y left=>
     simp only[Dt.toWs,PySem.W.kqdPs] at O
     cases O with
     | cons h1 ac=>
     show aa (ih (s:={ s with toks:=s.toks+zgL done }) (ab y '$') (hi y '$') h1 (by change A.units+1+n<cLine;lia) ?_);show (λz=>?_:∀z,_) (#[done++[y],left,_,'4',ac,by simp[hb],by rw[zgM];simp[zgL,fD]]:∃B I ad,done++y::left=B++I/\ReadsAll s.heap zu (PySem.W.kqdPs (Dt.toWs I)) ad/\(b.push (zap y)).toList=B.map zap/\({ s with toks:=s.toks+zgL done+drD y }:AZ)={ s with toks:=s.toks+zgL B })
     first
      | show af z
      | show aa (af (af z))
   ·rintro b s' ⟨done,left,bs,rfl,O,hb,rfl⟩
    cases left with
    | cons y left=>simp only[Dt.toWs,PySem.W.kqdPs] at O;cases O
    | nil=>
    rw[bT] at q;have q:Q (reduceHash (Builtin.Tuple.tupleHashOf (done.map zap))) { s with toks:=s.toks+(zgL done+1) }:=by rw[<- zcY];show q
    change wpAny _ _ (retInt (Builtin.Tuple.tupleHashOf b.toList)) _ _ _;rw[hb];show wpAny_ret_mkInt ?_;change wpAny _ _ (if (decide (-(2:Int) ^ 63<=Builtin.Tuple.tupleHashOf (done.map zap))&&decide (Builtin.Tuple.tupleHashOf (done.map zap)<2 ^ 63))=true then _ else _) Q E _;unfold reduceHash at q;by_cases J:(decide (-(2:Int) ^ 63<=Builtin.Tuple.tupleHashOf (done.map zap))&&decide (Builtin.Tuple.tupleHashOf (done.map zap)<2 ^ 63))=true;rw[if_pos J];rw[if_pos J] at q;show af (by simpa [fD] using q);rw[if_neg J];rw[if_neg J] at q;show aa (cD (af (by simpa [fD] using q)))
  | _=>cases U
def zmP:∀ (n:Nat) {d:Dt} {v:Value} {as:AY} {Q:Bool->AZ->Prop},d.hk=true->PySem.W.kqdOk n d.toW=true->Reads s.heap v 'đ' as->
  Q true s->wpAny 'Ò' A (eqIsQuiet n v) Q E s:=by
 intro n
 induction n with
 | zero=>
  intro d v as Q J O B q
  cases d with
  | tup l=>simp[Dt.toW,PySem.W.kqdOk] at O
  | int i=>cases B;rw[eqIsQuiet_byValue _ rfl];show af q
  | _=>cases J
 | succ n ih=>
  intro d v as Q J O B q
  cases d with
  | int i=>cases B;rw[eqIsQuiet_byValue _ rfl];show af q
  | tup l=>
   have hi:=xR O;have U:=xp.mp (show Dt.hks l=true from J)
   cases B with
   | @tuple a o vs m xs as g hc Y I=>
   have hT:s.TypeIs 'J' "tuple" := #[o,g,hc];unfold eqIsQuiet;show aa (dY hT F.slot_tuple_eq.lookup ?_);change wpAny _ _ (isInstance 'J' (.type "tuple") >>= _) _ _ s;show aa (cP hT isSubtype_tuple_tuple ?_);simp only[dO,aN,if_false];show aa (cL g Y ?_);show aa ?_;change wpAny _ _ (forIn vs _ _) _ _ s;rw[<- fj];show dQ _ (λzu r s'=>r.1=none/\s'=s/\∃left bs,(∀d∈left,d∈l)/\ReadsAll s.heap zu (PySem.W.kqdPs (Dt.toWs left)) bs) _ ?_ ?_ _ _ #[A5,A5,l,_,λ_ z=>z,I];rintro x zu r s' ⟨B,rfl,left,bs,hs,I⟩
   cases left with
   | nil=>cases I
   | cons y left=>
    simp only[Dt.toWs,PySem.W.kqdPs] at I
    cases I with
    | cons h1 Z=>
    show aa (ih (U y (hs y '$')) (hi y (hs y '$')) h1 ?_);simp only[dO,aN,if_false];show af #[A5,A5,left,_,λd Y=>hs d (ak _ Y),Z]
   rintro⟨r1,r2⟩ s' ⟨B,rfl,_⟩;simp only at B;subst B;show af q
  | _=>cases J
mutual
theorem ue {h h':Heap}(k:∀b o vs n,h.get? b=some o->o.cls = .type "tuple" -> o.data = .seq vs n->h'.get? b=some o):∀ {d:Dt} {v:Value} {as:AY},d.hk=true->Reads h v (PySem.W.kqdP d.toW) as->Reads h' v (PySem.W.kqdP d.toW) as
 | .int i,_,_,_,r=>by cases r;show .int _ _
 | .str _,_,_,hk,_=>by cases hk
 | .tup l,_,_,hk,r=>by
  cases r with
  | tuple g hc hd hl=>show .tuple (k _ _ _ _ g hc hd) hc hd (zbp k hk hl)
 | .non,_,_,hk,_=>by cases hk
 | .bl _,_,_,hk,_=>by cases hk
 | .lst _,_,_,hk,_=>by cases hk
 | .dct,_,_,hk,_=>by cases hk
theorem zbp {h h':Heap}(k:∀b o vs n,h.get? b=some o->o.cls = .type "tuple" -> o.data = .seq vs n->h'.get? b=some o):∀ {l:AS} {vs:AN} {as:AY},Dt.hks l=true->ReadsAll h vs (PySem.W.kqdPs (Dt.toWs l)) as->ReadsAll h' vs (PySem.W.kqdPs (Dt.toWs l)) as
 | [],_,_,_,r=>by simp only[Dt.toWs,PySem.W.kqdPs] at r ⊢;cases r;show .nil
 | d::l,_,_,hk,r=>by
  simp only[Dt.hks,aR] at hk;simp only[Dt.toWs,PySem.W.kqdPs] at r ⊢
  cases r with
  | cons r1 r2=>show .cons (ue k hk.1 r1) (zbp k hk.2 r2)
end
def zq3 (h:Heap)(k:Dt)(a:Addr):Prop:=k.hk=true/\k.eqOk/\∃as,Reads h 'J' (PySem.W.kqdP k.toW) as
def znB {x y:Dt}(q:x.eqOk)(B:y.eqOk):PyData.eqv 'ƅ' 'Ƅ'=decide (x=y):=by rw[bR,b9,eh 8 _ _ 8 q B];show#[λh=>zcw h,λh=>by rw[h]]
noncomputable def zly (P:Aa)(w:Ab):HeapKind P w Dt where
 is:=zq3
 hash:=zap
 draws:=drD
 room:=λA=>A.units+9<cLine
 inj:=λ{h a x y} B J=>by obtain⟨_,I,_,O⟩:=B;obtain⟨_,F,_,U⟩:=J;have:=SeqAt.Reads.unique _ _ _ _ _ (dJ 8 _ I).1 O U;show zcw ((eh 8 _ _ 8 I F).mp (by rw[this];show (eh 8 _ _ 8 F F).mpr A5))
 keeps:=λ{h h' k a d o es ep} B ho hd hs=>by
  obtain⟨h1,h2,_,r⟩:=B;show#[h1,h2,_,ue (λb u vs n e _ Y=>?_) h1 r];by_cases Z:b=d;subst Z;rw[ho] at e;cases e;rw[hd] at Y;cases Y;show (hs.2 b Z).trans e
 pyHash:=λ{A E s k a Q} hu B q=>by obtain⟨h1,h2,_,r⟩:=B;show zoO 8 h1 h2 r '!' q
 eqBool:=λ{A E s x y a b Q} hu B J q=>by obtain⟨h1,I,_,O⟩:=B;obtain⟨h2,F,_,U⟩:=J;have l1:=dJ 8 _ I;have l2:=dJ 8 _ F;show SeqAt.eqBoolOverData _ _ _ _ _ _ _ _ _ _ _ _ O U l1.1 l2.1 ?_ (by rw[znB I F];show q);have:min 'ƅ'.depth 'Ƅ'.depth<=8:=aw (Nat.min_le_left _ _) l1.2;lia
 quiet:=λB q=>by obtain⟨h1,h2,_,r⟩:=B;show zmP 8 h1 h2 r q
def DDo (h:Heap)(a:Addr)(ks:'Ê'):Prop:=ks.length<=sizeLine/\'ý'=false/\∃xs:List (Dt×Addr×Value),
 Paired (λ(p:Dt×Addr×V) (q:Dt×Addr×Value)=>p.1=q.1/\p.2.1=q.2.1/\ye p.2.2 q.2.2) ks xs/\∃o es ep,h.get? a=some o/\o.ExactDict/\o.data = .dict es ep/\es.toList=xs.map (λx=>#[zap x.1,.ref x.2.1,x.2.2])/\(xs.map '%').Nodup
def ddO (a:Addr)(ks:'Ê'):HO:=.ext λh=>DDo h a ks
def ziN(S:DDo h a ks):zJ P w H h a 'o':=by
 show#[S,?_,λh1 h2 q k=>?_];obtain⟨_,_,_,_,o,_,_,B,_⟩:=S;show#[o,B];obtain⟨z,lo,xs,r,o,es,ep,B,q⟩:=q;show#[z,lo,xs,r,o,es,ep,k o B,q]
def zmj:∀A7,pnK 'o'=some A7->zby A7 '±'=none:=λA7 e=>by
 unfold ddO pnK at e;dsimp only at e;rw[if_neg] at e;cases e;rintro⟨d,ob,⟨F,I⟩,z⟩;have h1:DDo F a ks:=by rw[show DDo F a ks=_ from congrFun z F];show I
 obtain⟨J,lo,xs,r,o,es,ep,Z,⟨O,U,Y⟩,hd,q⟩:=h1;have k:∀B:Nat,({ o with data:=.dict es B }:Obj)=ob:=λB=>by have h2:DDo (#[Array.replicate (a+1) { o with data:=.dict es B },{}]:Heap) a ks:=#[J,lo,xs,r,{ o with data:=.dict es B },es,B,by simp[Heap.get?],#[O,U,Y],A5,q];rw[show DDo _ a ks=_ from congrFun z _] at h2;show (zkF h2).symm
 have:=congrArg Obj.data ((k 0).trans (k 1).symm);cases this
noncomputable def zqV (ks:'Ê')(k:Dt):Option V:=(ks.find? λq=>decide (q.1=k)).map (·.2.2)
noncomputable def zlg (ks:'Ê')(k:Dt)(b:Addr)(v:V):List (Dt×Addr×V):=if (zqV ks k).isSome then ks.map λq=>if q.1=k then (q.1,q.2.1,v) else q else ks++[(k,b,v)]
def uu (H:Hp)(ks:'Ê'):Prop:=∀q∈ks,q.1.hk=true/\q.1.eqOk/\Is H q.1 (.ref q.2.1)
abbrev PrN (p:Dt×Addr×V)(q:Dt×Addr×Value):Prop:=p.1=q.1/\p.2.1=q.2.1/\ye p.2.2 q.2.2
def znf(r:'ĸ')(k:Dt):zib (zqV ks k) ((atKey xs k).map 'Ã'):=by
 unfold zqV atKey
 induction r with
 | nil=>trivial
 | cons h _ q=>
  obtain⟨B,F,h⟩:=h;rw[bU,bU,B];split;show h;show q
def zmW(r:'ĸ'):∀ {x},x∈xs->∃p∈ks,PrN p x:=by
 induction r with
 | nil=>intro x B;cases B
 | @cons p q ps J a _ F=>
  intro x B;rcases au.mp B with rfl | B;show#[p,'4',a];obtain⟨I,h1,h2⟩:=F B;show#[I,ak _ h1,h2]
variable {X:Cx}{A6:AB}{G:St}{H:Hp}{s:AZ}
def zdw(I:')')(h1:k.hk=true)(h2:k.eqOk)(h:Is H k 'q'):(zly X.prog X.w).is s.heap k b:=#[h1,h2,xi I.hok 8 h A5 h2]
def zuD(I:')')(h:Rd H a 'o')(q:uu H ks):'ý'=false/\ks.length<=sizeLine/\∃xs,Paired PrN ks xs/\s.heap.DictOfH (zly X.prog X.w) a xs:=by obtain⟨⟨z,lo,xs,r,o,es,ep,B,h1,h2,F,J⟩,_⟩:=(show zJ X.prog X.w H s.heap a 'o' from h.ok I.hok);show#[lo,z,xs,r,o,es,ep,B,h1,h2,F,λx O=>?_,J];obtain⟨p,hp,U,Y,_⟩:=zmW r O;obtain⟨k1,k2,k3⟩:=q p hp;rw[<- U,<- Y];show zdw I k1 k2 k3
end
def zia (q:Bool)(T:Hp)(a:Addr)(ks:'Ê'):Prop:=if q=true then ∃ob,T a=some (.frz ob 'o') else T a=some 'o'
def zia.rd(h:zia q T a ks):Rd T a 'o':=by
 cases q with
 | true=>show .inr (by simpa [zia] using h)
 | false=>show .inl (by simpa [zia] using h)
def zia.imp(h:zia q T a ks)(t:∀o,(∀A7,pnK o=some A7->zby A7 '±'=none)->T a=some o->T' a=some o):zia q T' a ks:=by
 cases q with
 | true=>
  obtain⟨ob,e⟩:∃ob,T a=some (.frz ob (ddO a ks)):=by simpa [zia] using h
  show (if_pos A5).mpr #[ob,t _ (λ_ z=>by cases z) e]
 | false=>show t _ zmj (by simpa [zia] using h)
def uu.stay(h:uu BA ks)(s:zq BA G'):uu G' ks:=λq B=>let ⟨h1,h2,h3⟩:=h q B;#[h1,h2,h3.stay s]
def kvN (ks:'Ê'):List (Dt×V):=ks.map λq=>(q.1,q.2.2)
end L2
namespace L3
open L2
abbrev zui:=Addr×Addr×List Int
abbrev imm:HO->Bool
 | .lst _=>false
 | .dK _=>false
 | .dT _=>false
 | .ext _=>false
 | _=>true
def Mt (o:HO):Prop:=imm o=false
def Mt.tup(h:Mt o):∀xs,o≠.tup xs:=λ_ e=>by subst e;cases h
def NP (o:HO):Prop:=∀A7,pnK o=some A7->zby A7 '±'=none
def NP.lst:NP '+':=λ_ e=>by cases e
structure Jv where
 K:(AL)->Hp->Prop
 same:∀ {A:AL} {H H':Hp},K A H->yL H H'->K A H'
 grow:∀ {A A':AL} {H:Hp},K A' H->(∀a,A a->A' a\/∃o,H a=some o/\NP o/\Mt o)->K A H
 upd:∀ {A:AL} {H:Hp} {p:Addr} {o:HO},K A H->A p->K A (L2.upd H p o)
 frz:∀ {A:AL} {H:Hp} {p:Addr} {o o':HO},K A H->H p=some o->NP o->Mt o->K A (L2.upd H p o')
structure PN where
 pn:Option zui
 J:Jv
def J0:Jv:=#[λ_ _=>True,λ_ _=>trivial,λ_ _=>trivial,λ_ _=>trivial,λ_ _ _ _=>trivial]
structure CuW where
 at_:Hp->Hp->AL
 mv:∀ {T T' BA G':Hp} {a:Addr},(∀o,T a=some o->NP o->T' a=some o)->zq BA G'->at_ T BA a->at_ T' G' a
inductive W where
 | d (x:Dt) | pen (p:Addr) | dk (A7:List (Key×Dt)) | dt (A7:List (AG×Dt)) | ss (P:Aa) (w:Ab) (ks:AF) | df (A7:List (AG×Dt)) | kf (A7:List (Key×Dt)) | fl (l:AS) | ad (a:Addr) (x:Dt) | tz (A7:List (AG×Dt)) (x:Dt) | dn (fz:Bool) (A7:List (Dt×Dt)) | wd (d:Addr) (fs:List (Key×Dt)) (kn:List (AG×Dt)) | lf (ls:List AS) | cu (k:CuW)
abbrev AV:=W->Nat->Prop
abbrev AU:=List W
abbrev Mo (α:Type):=Nat->(α->Nat->Prop)->Prop
abbrev Ev:=List (Option W)
abbrev AD:=Ev->Mo W
abbrev AC:=Ev->Mo AU
open Classical in
noncomputable def zF (A:AL)(H:Hp):Hp:=λb=>if A b then none else H b
section
variable {A A0:AL}{H H' BA G' T T':Hp}{a b:Addr}{o:HO}
def zY:zF A H b=some o↔¬ A b/\H b=some o:=by
 unfold zF;grind
def zv (h:¬ A b)(e:H b=some o):zF A H b=some o:=zY.mpr #[h,e]
def zw:yL '7' H:=λb o e=>(zY.mp e).2
def _root_.L2.Rd.sub(h:Rd '7' b u):Rd H b u:=h.imp (zw b _) λ⟨o,h⟩=>#[o,zw b _ h]
def _root_.L2.Rd.hid(h:Rd H b u)(n:¬ A b):Rd '7' b u:=h.imp (zv n) λ⟨o,h⟩=>#[o,zv n h]
def zr (s:zq H H'):zq '7' (zF A H'):=λb o e n=>zv (zY.mp e).1 (s b o (zY.mp e).2 n)
def zaq (s:yL H H'):yL '7' (zF A H'):=λb o e=>zv (zY.mp e).1 (s b o (zY.mp e).2)
def yx (h:∀b,A0 b->A b):yL '7' (zF A0 H):=λb o e=>zv (λz=>(zY.mp e).1 (h b z)) (zY.mp e).2
def zH (h:A a):zF A (upd H a o)=zF A H:=by
 funext b;unfold zF;by_cases q:A b;simp[q];have:b≠a:=λe=>q (e ▸ h);simp[q,zc this]
end
def DAt (T BA:Hp):Dt->V->Prop
 | .lst l,v=>∃a xs,v = .ref a/\Rd T a '+'/\IsL BA l xs
 | .dct,v=>∃a A7,v = .ref a/\T a=some (.dK A7)/\A7=[]
 | .non,v=>Is BA .non v
 | .bl b,v=>Is BA (.bl b) v
 | .int i,v=>Is BA 'P' v
 | .str x,v=>Is BA (.str x) v
 | .tup l,v=>Is BA 'x' v
def DAt.is(h:DAt BA BA x v):Is BA x v:=by cases x <;> show h
def DAt.of(h:Is BA x v):DAt BA BA x v:=by cases x <;> show h
def DAt.up(t:zq T T')(g:zq BA G')(h:DAt T BA x v):DAt T' G' x v:=by
 cases x with
 | lst l=>obtain⟨a,xs,e,h1,h2⟩:=h;show#[a,xs,e,t.rdl h1,h2.stay g]
 | dct=>obtain⟨a,A7,e,h1,h2⟩:=h;show#[a,A7,e,t _ _ h1 λk q=>by cases q;subst h2;rfl,h2]
 | _=>show Is.stay g h
def DAt.full(t:yL T H)(g:yL BA H)(h:DAt T BA x v):Is H x v:=(DAt.up (zq.same t) (zq.same g) h).is
def xO {κ:Type}(BA:Hp):List (κ×Dt)->List (κ×V)->Prop
 | [],ks=>ks=[]
 | q::r,ks=>∃v s,ks=(q.1,v)::s/\Is BA q.2 v/\xO BA r s
theorem xO.stay {κ:Type}{BA G':Hp}(s:zq BA G'):∀ {A7:List (κ×Dt)} {ks:List (κ×V)},xO BA A7 ks->xO G' A7 ks
 | [],_,h=>h
 | q::r,ks,⟨v,t,e,h1,h2⟩=>#[v,t,e,h1.stay s,xO.stay s h2]
def SIs (BA:Hp)(ks:AF)(xs:AE):Prop:=ks=xs.map '%'/\(∀q∈xs,BA q.2=some 'Ħ')/\ks.Nodup
def SIs.stay{ks:AF}{xs:AE}(h:SIs BA ks xs)(s:zq BA G'):SIs G' ks xs:=#[h.1,λq B=>s _ _ (h.2.1 q B) (λ_ e=>by cases e),h.2.2]
noncomputable def zpy (a:Addr)(H:Hp):Hp:=zF (λb=>b≠a/\∃xs,H b=some '+') H
def zhR(s:zq H H'):zq (zpy a H) (zpy a H'):=λb o e n=>by obtain⟨h1,h2⟩:=zY.mp e;have q:=s b o h2 n;show zv (λz=>h1 #[z.1,?_]) q;obtain⟨xs,B⟩:=z.2;rw[q] at B;cases B;show#[_,h2]
def ztS (BA:Hp)(d:Addr)(fs:List (Key×Dt))(I:List (AG×Dt))(ks:List (Key×V)):Prop:=zby ks '±'=none/\∃q F ob B,ks=q++([(Sum.inr "known",V.ref F),(Sum.inr "wide",V.ref d)]:List (Key×V))/\xO BA fs q/\BA F=some (.frz ob (dtO B))/\xO BA I B
def ztS.stay{I:List (AG×Dt)}(h:ztS BA d fs I ks)(s:zq BA G'):ztS G' d fs I ks:=by obtain⟨J,B,O,ob,F,h1,h2,U,Y⟩:=h;show#[J,B,O,ob,F,h1,h2.stay s,s _ _ U 'Ƴ',Y.stay s]
def zqR (BA:Hp):List AS->AT->Prop
 | [],xs=>xs=[]
 | l::r,xs=>∃b o ys s,xs = .ref b::s/\BA b=some (.frz o (.lst ys))/\IsL BA l ys/\zqR BA r s
theorem zqR.stay(s:zq BA G'):∀ {B:List AS} {xs:AT},zqR BA B xs->zqR G' B xs
 | [],_,h=>h
 | _::_,_,⟨b,o,ys,t,e,h1,h2,F⟩=>#[b,o,ys,t,e,s _ _ h1 'Ƴ',h2.stay s,zqR.stay s F]
def WAt (T BA:Hp):W->V->Prop
 | .d x,v=>DAt T BA x v
 | .pen p,v=>v = .ref p
 | .dk A7,v=>∃a ks,v = .ref a/\T a=some (.dK ks)/\xO BA A7 ks/\zby ks '±'=none
 | .dt A7,v=>∃a ks,v = .ref a/\T a=some (dtO ks)/\xO BA A7 ks
 | .ss P w ks,v=>∃a xs,v = .ref a/\T a=some (zhp P w a (uI xs))/\SIs BA ks xs
 | .dn q A7,v=>∃a ks,v = .ref a/\zia q T a ks/\uu BA ks/\xO BA A7 (kvN ks)
 | .wd d fs B,v=>∃a ks,v = .ref a/\T a=some (.dK ks)/\ztS BA d fs B ks
 | .lf F,v=>∃a xs,v = .ref a/\Rd T a '+'/\zqR BA F xs
 | .cu k,v=>∃a,v = .ref a/\k.at_ T BA a
 | .df A7,v=>∃a ob ks,v = .ref a/\T a=some (.frz ob (dtO ks))/\xO BA A7 ks
 | .kf A7,v=>∃a ob ks,v = .ref a/\T a=some (.frz ob (.dK ks))/\xO BA A7 ks
 | .fl l,v=>∃a ob xs,v = .ref a/\T a=some (.frz ob '+')/\IsL BA l xs
 | .ad a x,v=>(∃b,v = .ref b)/\Is (zpy a BA) x v
 | .tz A7 x,v=>∃a b ob ks y,v = .ref a/\BA a=some (.tup [.ref b,y])/\BA b=some (.frz ob (dtO ks))/\xO BA A7 ks/\Is BA x y
def WAt.up(t:zq T T')(g:zq BA G')(h:WAt T BA w v):WAt T' G' w v:=by
 cases w with
 | d x=>show DAt.up t g h
 | pen p=>show h
 | dk A7=>
  obtain⟨a,ks,e,h1,h2,B⟩:=h;show#[a,ks,e,t _ _ h1 λk q=>by cases q;show B,h2.stay g,B]
 | dt A7=>
  obtain⟨a,ks,e,h1,h2⟩:=h;show#[a,ks,e,t _ _ h1 'Ƴ',h2.stay g]
 | dn I A7=>
  obtain⟨a,ks,e,h1,h2,B⟩:=h;show#[a,ks,e,h1.imp λo n q=>t a o q n,h2.stay g,B.stay g]
 | wd d fs J=>
  obtain⟨a,ks,e,h1,h2⟩:=h;show#[a,ks,e,t _ _ h1 (λk q=>by cases q;show h2.1),h2.stay g]
 | cu k=>
  obtain⟨a,e,h1⟩:=h;show#[a,e,k.mv (λo z n=>t a o z n) g h1]
 | lf O=>
  obtain⟨a,xs,e,h1,h2⟩:=h;show#[a,xs,e,t.rdl h1,h2.stay g]
 | ss P w A7=>
  obtain⟨a,ks,e,h1,h2⟩:=h;show#[a,ks,e,t _ _ h1 zg8,h2.stay g]
 | df A7=>
  obtain⟨a,ob,ks,e,h1,h2⟩:=h;show 'ǯ'
 | kf A7=>
  obtain⟨a,ob,ks,e,h1,h2⟩:=h;show 'ǯ'
 | fl A7=>
  obtain⟨a,ob,ks,e,h1,h2⟩:=h;show 'ǯ'
 | ad a x=>show#[h.1,Is.stay (zhR g) h.2]
 | tz A7 x=>
  obtain⟨a,b,ob,ks,y,e,h1,h2,B,F⟩:=h;show#[a,b,ob,ks,y,e,g.tup h1,g _ _ h2 'Ƴ',B.stay g,F.stay g]
abbrev W.mut:W->Bool
 | .d (.lst _)=>true
 | .d .dct=>true
 | .dk _=>true
 | .dt _=>true
 | .ss _ _ _=>true
 | .dn false _=>true
 | _=>false
abbrev Val (A:AL)(H:Hp)(w:W)(v:V):Prop:=WAt '7' '7' w v
abbrev Bor (A:AL)(H:Hp)(w:W)(v:V):Prop:=WAt H '7' w v
def Val.bor(h:Val A H w v):Bor A H w v:=WAt.up (zq.same zw) (zq.refl _) h
def Val.stay(h:Val A H w v)(s:zq H H'):Val A H' w v:=WAt.up (zr s) (zr s) h
def Bor.stay(h:Bor A H w v)(s:zq H H'):Bor A H' w v:=WAt.up s (zr s) h
def Bor.is(h:Bor A H (.d x) v):Is H x v:=DAt.full (zkL _) zw h
def Val.is(h:Val A H (.d x) v):Is '7' x v:=DAt.is h
def Val.of(h:Is '7' x v):Val A H (.d x) v:=DAt.of h
mutual
theorem zrE {A:AL}{H:Hp}(hA:∀a xs,A a->H a≠some (.tup xs)):∀ {x:Dt} {v:V},x.noL=true->Is H x v->Is (zF A H) x v
 | .non,_,_,h=>h
 | .bl _,_,_,h=>h
 | .int _,_,_,h=>h
 | .str _,_,_,h=>h
 | .tup l,_,n,h=>by obtain⟨p,xs,e,hp,hl⟩:=h;show#[p,xs,e,zv (λz=>hA p xs z hp) hp,zae hA (by simpa [Dt.noL] using n) hl]
 | .lst l,_,n,_=>by simp[Dt.noL] at n
 | .dct,_,n,_=>by simp[Dt.noL] at n
theorem zae {A:AL}{H:Hp}(hA:∀a xs,A a->H a≠some (.tup xs)):∀ {ds:AS} {xs:AT},Dt.noLs ds=true->IsL H ds xs->IsL (zF A H) ds xs
 | [],_,_,h=>h
 | d::ds,xs,n,h=>by
  obtain⟨x,r,e,h1,h2⟩:=h;have n':(d.noL&&Dt.noLs ds)=true:=by simpa [Dt.noLs] using n
  rw[aR] at n';show#[x,r,e,zrE hA n'.1 h1,zae hA n'.2 h2]
end
def y8 (Pn:PN)(A:AL)(n:Nat)(H:Hp):Prop:=
 (match Pn.pn with
 | none=>True
 | some (p,c,ns)=>Pen H p c ns n/\¬ A c/\¬ A p)/\Pn.J.K A H
def Own (A:AL)(H:Hp)(w:W)(v:V):Prop:=∃a,v = .ref a/\A a/\Bor A H w v/\w.mut=true
def Al (A:AL)(H:Hp):Prop:=∀a,A a->∃o,H a=some o/\NP o/\Mt o
structure EnvR (A:AL)(M:AR)(G:St)(H:Hp)(D:Ev):Prop where
 len:G.length=D.length
 val:∀i w,D[i]?=some (some w)->∃v,G[i]?=some (some v)/\(i∉M->Val A H w v)/\(i∈M->Own A H w v)
 dis:∀i j w u a,i∈M->j∈M->i≠j->D[i]?=some (some w)->D[j]?=some (some u)->G[i]?=some (some (.ref a))->G[j]?≠some (some (.ref a))
 al:Al A H
def _root_.L2.Rd.own(h:Rd H a '+')(q:Al A H)(B:A a):H a=some '+':=by
 rcases h with h | ⟨o,h⟩;show h;obtain⟨u,e,_,m⟩:=q a B;rw[h] at e;cases e;cases m
def EnvR.stay(E:EnvR A M G H D)(s:zq H H'):EnvR A M G H' D where
 len:=E.len
 val:=λi w e=>by obtain⟨v,h1,h2,q⟩:=E.val i w e;show#[v,h1,λz=>(h2 z).stay s,λz=>?_];obtain⟨a,e,B,F,I⟩:=q z;show#[a,e,B,F.stay s,I]
 dis:=E.dis
 al:=λa h=>by obtain⟨o,h1,h2,q⟩:=E.al a h;show#[o,s _ _ h1 h2,h2,q]
def EnvR.new(E:EnvR A M G H D)(h:H p=none):¬ A p:=λz=>by
 obtain⟨o,h1,_⟩:=E.al p z;grind
def Fr (H:Hp)(a:Addr):Prop:=∀o,H a=some o->¬ NP o
def Fr.of(h:H a=none):Fr H a:=λo e=>by rw[h] at e;cases e
def Fr.back(h:Fr H1 a)(s:zq H H1):Fr H a:=λo e n=>h o (s _ _ e n) n
def FrV (A:AL)(H H':Hp)(w:W)(v:V):Prop:=∃a,v = .ref a/\Fr H a/\(∃o,H' a=some o/\Mt o)/\WAt H' (zF (λb=>A b\/b=a) H') w v
def FrV.back(h:FrV A H1 H' w v)(s:zq H H1):FrV A H H' w v:=let ⟨a,e,f,g⟩:=h;#[a,e,f.back s,g]
def FrV.less(h:FrV A H H' w v)(s:∀a,A0 a->A a):FrV A0 H H' w v:=let ⟨a,e,f,m,g⟩:=h;#[a,e,f,m,WAt.up (zq.refl _) (zq.same (yx λb z=>z.elim (λz=>.inl (s b z)) .inr)) g]
def EnvR.newF(E:EnvR A M G H D)(h:Fr H p):¬ A p:=λz=>by obtain⟨o,h1,h2,_⟩:=E.al p z;show h o h1 h2
def yy(s:zq H H')(n:Fr H p):zq '7' (zF (λb=>A b\/b=p) H'):=λb o e np=>by obtain⟨h1,h2⟩:=zY.mp e;show zv (λz=>z.elim h1 λz=>by subst z;show n o h2 np) (s b o h2 np)
structure Go (Pn:PN)(A:AL)(H:Hp)(n:Nat)(H':Hp):Prop where
 st:zq H H'
 pn:y8 Pn A n H'
def Go.trans(a:Go Pn A H n H1)(b:Go Pn A H1 m H2):Go Pn A H m H2:=#[a.st.trans b.st,b.pn]
structure RE (Pn:PN)(M:AR)(fr:Bool)(te:TE)(f:AD):Prop where
 run:∀A G H D n Q R,EnvR A M G H D->y8 Pn A n H->f D n R->(∀w m v H',R w m->Val A H' w v->Go Pn A H m H'->(fr=true->FrV A H H' w v)->Q v H')->te G H Q
structure RB (Pn:PN)(M:AR)(te:TE)(f:AD):Prop where
 run:∀A G H D n Q R,EnvR A M G H D->y8 Pn A n H->f D n R->(∀w m v H',R w m->Bor A H' w v->Go Pn A H m H'->Q v H')->te G H Q
structure RT (Pn:PN)(M:AR)(te:TT)(f:Ev->Mo Bool):Prop where
 run:∀A G H D n Q R,EnvR A M G H D->y8 Pn A n H->f D n R->(∀b m H',R b m->Go Pn A H m H'->Q b H')->te G H Q
def zqX (A:AL)(H:Hp):AU->AT->Prop
 | [],vs=>vs=[]
 | w::q,vs=>∃v r,vs=v::r/\Bor A H w v/\zqX A H q r
def zaR (A:AL)(H:Hp):AU->AT->Prop
 | [],vs=>vs=[]
 | w::q,vs=>∃v r,vs=v::r/\Val A H w v/\zaR A H q r
theorem zaR.bor:∀ {q:AU} {vs:AT},zaR A H q vs->zqX A H q vs
 | [],_,h=>h
 | _::_,_,⟨v,r,e,h1,h2⟩=>#[v,r,e,h1.bor,zaR.bor h2]
structure RA (Pn:PN)(M:AR)(ta:TA)(f:AC):Prop where
 run:∀A G H D n Q R,EnvR A M G H D->y8 Pn A n H->f D n R->(∀ws m vs H',R ws m->zaR A H' ws vs->Go Pn A H m H'->Q vs H')->ta G H Q
structure RAB (Pn:PN)(M:AR)(ta:TA)(f:AC):Prop where
 run:∀A G H D n Q R,EnvR A M G H D->y8 Pn A n H->f D n R->(∀ws m vs H',R ws m->zqX A H' ws vs->Go Pn A H m H'->Q vs H')->ta G H Q
structure Kt where
 nx:Ev->Nat->Prop
 rt:AV
 bk:Ev->Nat->Prop:=λ_ _=>False
 ct:Ev->Nat->Prop:=λ_ _=>False
abbrev Ms:=Ev->Nat->Kt->Prop
def StX (q:AL)(H0 H:Hp):Prop:=∀b o,H0 b=some o->NP o->¬ q b->H b=some o
def StX.of(s:zq H0 H):StX q H0 H:=λb o e n _=>s b o e n
def StX.stay(s:StX (λ_=>False) H0 H):zq H0 H:=λb o e n=>s b o e n λz=>z
structure Frm (A0:AL)(H0:Hp)(ca:AL)(A:AL)(H:Hp):Prop where
 sub:∀a,A0 a->A a
 new:∀a,A a->A0 a\/Fr H0 a\/ca a
 st:StX ca H0 H
 al:Al A0 H0
 cn:∀a,ca a->¬ A0 a
 cs:∀a,ca a->∃o,H a=some o/\NP o
def Frm.back(f:Frm A0 H0 q A H)(h:Fr H a)(n:¬ A a):Fr H0 a:=λo e np=>h o (f.st a o e np λz=>let ⟨o2,e2,n2⟩:=f.cs a z;h o2 e2 n2) np
structure Bs where
 ca:AL:=λ_=>False
 A0:AL
 H0:Hp
 G0:Hp
 σ0:St
def NoL (BA:Hp):Prop:=∀a xs,BA a≠some '+'
structure At3 (Pn:PN)(B:Bs)(S M:AR)(A:AL)(G:St)(H:Hp)(D:Ev)(n:Nat):Prop where
 env:EnvR A M G H D
 frm:Frm B.A0 B.H0 B.ca A H
 pn:y8 Pn A n H
 prot:zq B.G0 (zF A H)
 fix:(∀i∈S,G[i]?=B.σ0[i]?)/\(9999∈S->NoL B.G0/\NoL B.H0)
 mine:∀i w a,i∈M->D[i]?=some (some w)->G[i]?=some (some (.ref a))->Fr B.H0 a\/B.ca a
structure KOk (Pn:PN)(B:Bs)(S M:AR)(fr:Bool)(k:Kt)(BB:Ends):Prop where
 nx:∀A G H D n,At3 Pn B S M A G H D n->k.nx D n->BB.nx G H
 bk:∀A G H D n,At3 Pn B S M A G H D n->k.bk D n->BB.bk G H
 ct:∀A G H D n,At3 Pn B S M A G H D n->k.ct D n->BB.ct G H
 fc:∀a,¬ B.ca a
 rt:∀w n v H,Val B.A0 H w v->StX B.ca B.H0 H->y8 Pn B.A0 n H->(fr=true->FrV B.A0 B.H0 H w v)->k.rt w n->BB.rt v H
structure RS (Pn:PN)(S M:AR)(fr:Bool)(ts:TS)(fs:Ms):Prop where
 run:∀B A G H D n k BB,At3 Pn B S M A G H D n->KOk Pn B S M fr k BB->fs D n k->ts BB G H
structure RG (S M:AR)(g:TG)(mg:W->Ev->(Ev->Prop)->Prop):Prop where
 run:∀A G H D v w Q R,EnvR A M G H D->Val A H w v->mg w D R->(∀ σ' ρ',R ρ'->EnvR A M σ' H ρ'->(∀i∈S,σ'[i]?=G[i]?/\ρ'[i]?=D[i]?)->Q σ' H)->g v G H Q
structure RGs (S M:AR)(g:TGs)(mg:AS->Ev->(Ev->Prop)->Prop):Prop where
 run:∀A G H D vs ds Q R,EnvR A M G H D->IsL (zF A H) ds vs->mg ds D R->(∀ σ' ρ',R ρ'->EnvR A M σ' H ρ'->(∀i∈S,σ'[i]?=G[i]?/\ρ'[i]?=D[i]?)->Q σ' H)->g vs G H Q
structure ItV (ow:Bool)(A:AL)(H:Hp)(J:It)(l:AU):Prop where
 one:∀i w A2 H2,l[i]?=some w->zq (zF A H) (zF A2 H2)->(ow=true->zq H H2)->(∀p,H2 p=none->¬ A2 p)->J.go i H2/\∀x H3,J.yld i H2 x H3->yL H2 H3/\Val A2 H3 w x
 stop:∀A2 H2,zq (zF A H) (zF A2 H2)->(ow=true->zq H H2)->J.stop l.length H2
structure RI (Pn:PN)(M:AR)(ow:Bool)(wi:TI)(f:AC):Prop where
 run:∀A G H D n Q R,EnvR A M G H D->y8 Pn A n H->f D n R->(∀l m J H',R l m->ItV ow A H' J l->Go Pn A H m H'->Q J H')->wi G H Q
def RE.rb(h:RE Pn M fr te f):RB Pn M te f:=
 #[λA G H D n Q R E P hf k=>h.run A G H D n Q R E P hf λw m v H' r a g _=>k w m v H' r a.bor g]
def RA.rab(h:RA Pn M te f):RAB Pn M te f:=
 #[λA G H D n Q R E P hf k=>h.run A G H D n Q R E P hf λw m v H' r a g=>k w m v H' r a.bor g]
def y8.same(h:y8 Pn A n H)(s:yL H H'):y8 Pn A n H':=by
 show#[?_,Pn.J.same h.2 s];have h:=h.1;split at h;trivial;show#[h.1.same s,h.2]
def Go.same(h:y8 Pn A n H)(s:yL H H'):Go Pn A H n H':=#[zq.same s,h.same s]
def Go.refl(h:y8 Pn A n H):Go Pn A H n H:=#[zq.refl _,h]
structure JE (X:Cx)(Pn:PN)(M:AR)(fr:Bool)(e:Expr)(f:AD):Prop where
 ex:∃te,QE X e te/\RE Pn M fr te f
structure JB (X:Cx)(Pn:PN)(M:AR)(e:Expr)(f:AD):Prop where
 ex:∃te,QE X e te/\RB Pn M te f
structure JT (X:Cx)(Pn:PN)(M:AR)(e:Expr)(f:Ev->Mo Bool):Prop where
 ex:∃te,QT X e te/\RT Pn M te f
structure JW (X:Cx)(Pn:PN)(M:AR)(e:Expr)(f:Ev->Mo Bool):Prop where
 ex:∃te,QW X e te/\RT Pn M te f
structure JA (X:Cx)(Pn:PN)(M:AR)(es:AO)(f:AC):Prop where
 ex:∃te,QA X es te/\RA Pn M te f
structure JAB (X:Cx)(Pn:PN)(M:AR)(es:AO)(f:AC):Prop where
 ex:∃te,QA X es te/\RAB Pn M te f
structure JO (X:Cx)(Pn:PN)(M:AR)(e:Option Expr)(f:Ev->Mo AQ):Prop where
 ex:∃t,QO X e t/\∀A G H D n Q R,EnvR A M G H D->y8 Pn A n H->f D n R->(∀o m H',R o m->Go Pn A H m H'->Q o H')->t G H Q
section
variable {X:Cx}{Pn:PN}{M:AR}{fr:Bool}{e a b c:Expr}{es:AO}{f fa fb fc:AD}{pos p:Pos}
def zr2 (i:Nat):AD:=λD n Q=>∃w,D[i]?=some 'Q'/\Q w n
abbrev mC (w:W):AD:=λ_ n Q=>Q w n
abbrev znI (F:W->W->Mo W) (fa fb:AD):AD:=λD n Q=>fa D n λx n1=>fb D n1 λy n2=>F x y n2 Q
abbrev mUn (F:W->Mo W) (fa:AD):AD:=λD n Q=>fa D n λx n1=>F x n1 Q
def zpq (fa:AD):Ev->Mo Bool:=λD n Q=>fa D n λx n1=>∃c,x = .d (.bl c)/\Q c n1
def zt1 (t u:'O'):Ev->Mo Bool:=λD n Q=>t D n λc n1=>if c=true then u D n1 Q else Q false n1
def mOr (t u:'O'):Ev->Mo Bool:=λD n Q=>t D n λc n1=>if c=true then Q true n1 else u D n1 Q
def zvl (t:'O'):Ev->Mo Bool:=λD n Q=>t D n λc n1=>Q (!c) n1
def zpg (fa fb:AD):AD:=λD n Q=>fa D n λx n1=>∃c,x = .d (.bl c)/\if c=true then fb D n1 Q else Q (.d (.bl false)) n1
def mIf (t:'O')(fa fb:AD):AD:=λD n Q=>t D n λc n1=>if c=true then fa D n1 Q else fb D n1 Q
abbrev zt3:AC:=λ_ n Q=>Q [] n
abbrev zfW (fa:AD) (fr:AC):AC:=λD n Q=>fa D n λx n1=>fr D n1 λxs n2=>Q (x::xs) n2
abbrev zu9 (F:AU->Mo W) (fa:AC):AD:=λD n Q=>fa D n λxs n1=>F xs n1 Q
def JE.bo (h:'ė'):JB X Pn M e f:=let ⟨te,h1,h2⟩:=h.ex;#[te,h1,h2.rb]
def JA.bo {f:AC}(h:JA X Pn M es f):JAB X Pn M es f:=let ⟨te,h1,h2⟩:=h.ex;#[te,h1,h2.rab]
def ztb(hi:i∉M):RE Pn M false (zlh i) (zr2 i):=#[λA G H D n Q R E P hf k=>by obtain⟨w,e,r⟩:=hf;obtain⟨v,h1,h2,_⟩:=E.val i w e;show#[v,h1,k w n v H r (h2 hi) 'i' λz=>by cases z]]
def zs8:RB Pn M (zlh i) (zr2 i):=#[λA G H D n Q R E P hf k=>by
 obtain⟨w,e,r⟩:=hf;obtain⟨v,h1,h2,q⟩:=E.val i w e;show#[v,h1,k w n v H r ?_ 'i'];by_cases hi:i∈M;obtain⟨a,_,_,h,_⟩:=q hi;show h;show (h2 hi).bor]
def zjt (i:Nat){x:Str}(hi:i∉M:=by ext)(B:'_':=by rfl)(F:'Ì':=by fail"v")(I:Ah x:=by ext)
  (q:'Å':=by ext):JE X Pn M false 'u' (zr2 i):=#[_,qv i B F I q,ztb hi]
def zuV(i:Nat)(B:'_':=by rfl)(F:'Ì':=by fail"v")(I:Ah x:=by ext)(q:'Å':=by ext):JB X Pn M 'u' (zr2 i):=#[_,qv i B F I q,zs8]
def zuc(h:∀BA,Is BA x v):RE Pn M false (tC v) (mC (.d x)):=#[λA G H D n Q R E P hf k=>k _ n v H hf (Val.of (h _)) 'i' λz=>by cases z]
def zi{i:Int}:JE X Pn M false (.Constant 'P' j pos) (mC (.d 'P')):=#[_,yv,zuc λ_=>rfl]
def zid:JE X Pn M false (.Constant (.bool k) j pos) (mC (.d (.bl k))):=#[_,zsV,zuc λ_=>rfl]
def zuY:JE X Pn M false (.Constant .none j pos) (mC (.d .non)):=#[_,znR,zuc λ_=>rfl]
def zo2{i:Int}(q:Gl X x)(h:∃w,ye 'P' w/\X.mg x=some w)(B:Ah x:=by ext):JE X Pn M false 'u' (mC (.d 'P')):=#[_,zdS q h B,zuc λ_=>rfl]
def Al.new {A:AL}{H:Hp}(h:Al A H){p:Addr}(e:H p=none):¬ A p:=λz=>by
 obtain⟨o,h1,_⟩:=h p z;grind
def Al.stay(h:Al A H)(s:zq H H'):Al A H':=λa z=>by obtain⟨o,h1,h2,q⟩:=h a z;show#[o,s _ _ h1 h2,h2,q]
def Al.noT(h:Al A H):∀a xs,A a->H a≠some 'R':=λa xs z e=>by
 obtain⟨o,h1,_,q⟩:=h a z;have:=q.tup;grind
def Al.noT' {A:AL}{H H':Hp}(h:Al A H)(s:zq H H'){p:Addr}{xs:AT}(e:H' p=some 'R'):¬ A p:=λz=>(h.stay s).noT p xs z e
structure F2 (Pn:PN)(fr:Bool)(r:R2)(F:W->W->Mo W):Prop where
 run:∀A H x y wx wy n Q R,Al A H->Bor A H wx x->Bor A H wy y->y8 Pn A n H->F wx wy n R->(∀w m v H',R w m->Val A H' w v->Go Pn A H m H'->(fr=true->FrV A H H' w v)->Q v H')->r x y H Q
structure F1 (Pn:PN)(fr:Bool)(r:V->Hp->VK->Prop)(F:W->Mo W):Prop where
 run:∀A H x wx n Q R,Al A H->Bor A H wx x->y8 Pn A n H->F wx n R->(∀w m v H',R w m->Val A H' w v->Go Pn A H m H'->(fr=true->FrV A H H' w v)->Q v H')->r x H Q
structure FL (Pn:PN)(fr:Bool)(r:AT->Hp->VK->Prop)(F:AU->Mo W):Prop where
 run:∀A H xs ws n Q R,Al A H->zqX A H ws xs->y8 Pn A n H->F ws n R->(∀w m v H',R w m->Val A H' w v->Go Pn A H m H'->(fr=true->FrV A H H' w v)->Q v H')->r xs H Q
def zmT(q:F2 Pn fr r F)(B:RB Pn M ta fa)(I:RB Pn M tb fb):RE Pn M fr 'Ă' (znI F fa fb):=#[λA G H D n Q R E P hf k=>by show B.run A G H D n _ _ E P hf λx n1 J H1 O U g1=>?_;show I.run A G H1 D n1 _ _ 'Ğ' g1.pn O λy n2 Y H2 Z b2 g2=>?_;have g:=g1.trans g2;show q.run A H2 J Y x y n2 _ _ '¦'.al (U.stay g2.st) b2 g2.pn Z λw m v H' h1 h2 h3 h4=>k w m v H' h1 h2 (g.trans h3) λz=>(h4 z).back g.st]
def zvM(q:F1 Pn fr r F)(B:RB Pn M ta fa):RE Pn M fr (tUn r ta) (mUn F fa):='Ȓ'
def zs9 {r:AT->Hp->VK->Prop}{F:AU->Mo W}{ta:TA}{fa:AC}(q:FL Pn fr r F)(B:RAB Pn M ta fa):RE Pn M fr (tCB r ta) (zu9 F fa):='Ȓ'
def zaP(q:OpQ X (binaryOp op) r)(B:F2 Pn fr r F)(I:'ê')(J:JB X Pn M b fb):JE X Pn M fr (.BinOp a op b pos) (znI F fa fb):=by obtain⟨ta,O,ra⟩:=I.ex;obtain⟨tb,U,rb⟩:=J.ex;show#[_,y4 q O U,zmT B ra rb]
def j_un(q:UnQ X (unaryOp op) r)(B:F1 Pn fr r F)(I:'ê'):JE X Pn M fr (.UnaryOp op a pos) (mUn F fa):=by obtain⟨ta,J,ra⟩:=I.ex;show#[_,zvI q J,zvM B ra]
def zdy(q:'œ')(B:F2 Pn fr r F)(I:'ê')(J:JB X Pn M b fb)(O:'č'):JE X Pn M fr 'Č' (znI F fa fb):=by obtain⟨ta,U,ra⟩:=I.ex;obtain⟨tb,Y,rb⟩:=J.ex;show#[_,zp5 q U Y O,zmT B ra rb]
def znY(h:RB Pn M ta fa):RT Pn M (zqH ta) (zpq fa):='ȕ'
def yb(q:'œ')(B:F2 Pn fr r F)(I:'ê')(J:JB X Pn M b fb)(O:'č'):JT X Pn M 'Č' (zpq (znI F fa fb)):=by obtain⟨ta,U,ra⟩:=I.ex;obtain⟨tb,Y,rb⟩:=J.ex;show#[_,zci q U Y O,znY (zmT B ra rb).rb]
def yD (h:'Ð')(he:∀whole,isTrue e X.env whole=(do let v <- whole;standAt e.pos;holding [v] (truthy v)):=by intro _;rfl):JT X Pn M e (zpq f):=by obtain⟨ta,qa,ra⟩:=h.ex;show#[_,zks qa he,znY ra]
def xC(h:JT X Pn M a t):JT X Pn M 'Ŗ' (zvl t):=by obtain⟨ta,q,ra⟩:=h.ex;show#[_,zkr q,#[λA G H D n Q R E P hf k=>ra.run A G H D n _ _ E P hf λb m H' r g=>k _ m H' r g]]
def uj(q:op = .And\/op = .Or)(h:JT X Pn M a t):JW X Pn M (.BoolOp op [a] pos) t:=by
 obtain⟨ta,B,ra⟩:=h.ex;rcases q with rfl | rfl;show#[_,zkt B,ra];show#[_,znW B,ra]
def ztl(h:RT Pn M t ft)(h':RT Pn M u q):RT Pn M (zvT t u) (zt1 ft q):=#[λA G H D n Q R E P hf k=>by
 show h.run A G H D n _ _ E P hf λc m H1 r g=>?_
 cases c with
 | true=>show h'.run A G H1 D m _ _ '¦' g.pn (by simpa using r) λb B H' F g'=>k b B H' F (g.trans g')
 | false=>show k false m H1 (by simpa using r) g]
def zvO(h:RT Pn M t ft)(h':RT Pn M u q):RT Pn M (tOr t u) (mOr ft q):=#[λA G H D n Q R E P hf k=>by
 show h.run A G H D n _ _ E P hf λc m H1 r g=>?_
 cases c with
 | false=>show h'.run A G H1 D m _ _ '¦' g.pn (by simpa using r) λb B H' F g'=>k b B H' F (g.trans g')
 | true=>show k true m H1 (by simpa using r) g]
def zeG {zu:AO}{t u:Ev->Mo Bool}(h:JT X Pn M a t)(h':JW X Pn M 'ŋ' u):JW X Pn M 'Ň' (zt1 t u):=by obtain⟨ta,q,ra⟩:=h.ex;obtain⟨tb,B,rb⟩:=h'.ex;show#[_,znV q B,ztl ra rb]
def zb1 {zu:AO}{t u:Ev->Mo Bool}(h:JT X Pn M a t)(h':JW X Pn M (.BoolOp .Or (b::zu) pos) u):JW X Pn M (.BoolOp .Or (a::b::zu) pos) (mOr t u):=by obtain⟨ta,q,ra⟩:=h.ex;obtain⟨tb,B,rb⟩:=h'.ex;show#[_,zs5 q B,zvO ra rb]
def JW.t {t:Ev->Mo Bool}(h:JW X Pn M e t):JT X Pn M e t:=let ⟨te,h1,h2⟩:=h.ex;#[te,h1.pt,h2]
def zjr(h:JE X Pn M false a fa):JE X Pn M false (.BoolOp op [a] pos) fa:=let ⟨te,h1,h2⟩:=h.ex;#[te,zs0 h1,h2]
def zfR {zu:AO}(h:'ê')(h':JE X Pn M false 'ŋ' fb):JE X Pn M false 'Ň' (zpg fa fb):=by
 obtain⟨ta,B,ra⟩:=h.ex;obtain⟨tb,F,rb⟩:=h'.ex;show#[_,zsT B F,'b'];show ra.run A G H D n _ _ E P hf  ?_;rintro x m v H1 ⟨c,I,r⟩ J g;subst I;have q:v = .bl c:=J;show#[c,q,?_]
 cases c with
 | true=>
  rw[if_pos rfl] at r ⊢;show rb.run A G H1 D m _ _ '¦' g.pn r λw O U H' Y Z g' _=>k w O U H' Y Z (g.trans g') λz=>by cases z
 | false=>
  rw[if_neg '#'] at r ⊢;show k _ m _ H1 r '¹' g λz=>by cases z
def zpm (fa:AD):AD:=λD n Q=>fa D n λx n1=>∃c,x = .d (.bl c)/\Q (.d (.bl (!c))) n1
def zuZ (h:'ê'):JE X Pn M false 'Ŗ' (zpm fa):=by obtain⟨ta,B,ra⟩:=h.ex;show#[_,znS B,'b'];show ra.run A G H D n _ _ E P hf  ?_;rintro x m v H1 ⟨c,F,r⟩ I g;subst F;have q:v = .bl c:=I;show#[c,q,k _ m _ H1 r '¹' g λz=>by cases z]
def j_if(O:JT X Pn M c t)(U:JE X Pn M fr a fa)(Y:JE X Pn M fr b fb):JE X Pn M fr (.IfExp c a b pos) (mIf t fa fb):=by
 obtain⟨tc,Z,rc⟩:=O.ex;obtain⟨ta,qa,ra⟩:=U.ex;obtain⟨tb,qb,rb⟩:=Y.ex;show#[_,zmK Z qa qb,'b'];show rc.run A G H D n _ _ E P hf λc m H1 r g=>?_
 cases c with
 | true=>
  rw[if_pos rfl] at r ⊢;show ra.run A G H1 D m _ _ '¦' g.pn r λw q B H' F I g' J=>k w q B H' F I (g.trans g') λz=>(J z).back g.st
 | false=>
  rw[if_neg '#'] at r ⊢;show rb.run A G H1 D m _ _ '¦' g.pn r λw q B H' F I g' J=>k w q B H' F I (g.trans g') λz=>(J z).back g.st
abbrev isNon:W->Bool
 | .d .non=>true
 | _=>false
def Bor.isNon(h:Bor A H w v):decide (v = .non)=isNon w:=by
 cases w with
 | d x=>
  cases x with
  | non=>have:v = .non:=h;subst this;rfl
  | bl c=>have:v = .bl c:=h;subst this;rfl
  | int c=>have:v = .int c:=h;subst this;rfl
  | str c=>have:v = .str c:=h;subst this;rfl
  | tup l=>obtain⟨a,_,rfl,_⟩:=h;rfl
  | lst l=>obtain⟨a,_,rfl,_⟩:=h;rfl
  | dct=>obtain⟨a,_,rfl,_⟩:=h;rfl
 | pen p=>have:v = .ref p:=h;subst this;rfl
 | dk k=>obtain⟨a,_,rfl,_⟩:=h;rfl
 | dt k=>obtain⟨a,_,rfl,_⟩:=h;rfl
 | ss P w k=>obtain⟨a,_,rfl,_⟩:=h;rfl
 | dn q k=>obtain⟨a,_,rfl,_⟩:=h;rfl
 | wd d fs k=>obtain⟨a,_,rfl,_⟩:=h;rfl
 | lf B=>obtain⟨a,_,rfl,_⟩:=h;rfl
 | cu k=>obtain⟨a,rfl,_⟩:=h;rfl
 | df k=>obtain⟨a,_,_,rfl,_⟩:=h;rfl
 | kf k=>obtain⟨a,_,_,rfl,_⟩:=h;rfl
 | fl k=>obtain⟨a,_,_,rfl,_⟩:=h;rfl
 | ad a x=>obtain⟨⟨b,rfl⟩,_⟩:=h;rfl
 | tz k x=>obtain⟨a,_,_,_,_,rfl,_⟩:=h;rfl
abbrev mIsN (fa:AD):AD:=λD n Q=>fa D n λx n1=>Q (.d (.bl (isNon x))) n1
abbrev mNotN (fa:AD):AD:=λD n Q=>fa D n λx n1=>Q (.d (.bl (!isNon x))) n1
def zta(h:RB Pn M ta fa):RE Pn M false (zvY ta) (mIsN fa):=#[λA G H D n Q R E P hf k=>by show h.run A G H D n _ _ E P hf λx m v H1 r q g=>?_;show k _ m _ H1 r (Val.of (by rw[q.isNon];rfl)) g λz=>by cases z]
def zvP(h:RB Pn M ta fa):RT Pn M (tB ta) (zpq fa):='ȕ'
def zrM(h:'ê'):JT X Pn M (.Compare a [.Is] [.Constant .none j pos'] pos) (zpq (mIsN fa)):=by obtain⟨ta,q,ra⟩:=h.ex;show#[_,zs4 (zsS q),zvP (zta ra).rb]
def zd:JA X Pn M [] zt3:=#[_,yu,#[λA G H D n Q R E P hf k=>k [] n [] H hf A5 'i']]
def za(q:'ė')(B:JA X Pn M es fs)(hs:'g':=by rfl):JA X Pn M '=' (zfW f fs):=by obtain⟨ta,F,ra⟩:=q.ex;obtain⟨tb,I,rb⟩:=B.ex;show#[_,zB F I hs,'b'];show ra.run A G H D n _ _ E P hf λx n1 J H1 O U g1 _=>?_;show rb.run A G H1 D n1 _ _ 'Ğ' g1.pn O λxs n2 vs H2 Y Z g2=>k _ n2 _ H2 Y #[J,vs,A5,U.stay g2.st,Z] (g1.trans g2)
def zt:JAB X Pn M [] zt3:=zd.bo
def zn(q:'Ð')(B:JAB X Pn M es fs)(hs:'g':=by rfl):JAB X Pn M '=' (zfW f fs):=by obtain⟨ta,F,ra⟩:=q.ex;obtain⟨tb,I,rb⟩:=B.ex;show#[_,zB F I hs,'b'];show ra.run A G H D n _ _ E P hf λx n1 J H1 O U g1=>?_;show rb.run A G H1 D n1 _ _ 'Ğ' g1.pn O λxs n2 vs H2 Y Z g2=>k _ n2 _ H2 Y #[J,vs,A5,U.stay g2.st,Z] (g1.trans g2)
def lim:Nat:=500000
def zg4(h:n<=lim):n<=sizeLine:=aw h '#'
def zb3(h:n<=lim):n<sizeLine:=bQ h '#'
def dts:AU->Option AS
 | []=>some []
 | .d x::r=>(dts r).map (x::·)
 | _::_=>none
theorem zaR.dts:∀ {q:AU} {vs:AT} {l:AS},zaR A H q vs->dts q=some l->IsL '7' l vs
 | [],vs,l,h,e=>by cases e;show h
 | .d x::q,vs,l,⟨v,r,B,h1,h2⟩,e=>by obtain⟨l',F,rfl⟩:=aI.mp e;show#[v,r,B,h1.is,zaR.dts h2 F]
 | .pen _::_,_,_,_,e=>by cases e
 | .dk _::_,_,_,_,e=>by cases e
 | .dt _::_,_,_,_,e=>by cases e
 | .ss _ _ _::_,_,_,_,e=>by cases e
 | .dn _ _::_,_,_,_,e=>by cases e
 | .wd _ _ _::_,_,_,_,e=>by cases e
 | .lf _::_,_,_,_,e=>by cases e
 | .cu _::_,_,_,_,e=>by cases e
 | .df _::_,_,_,_,e=>by cases e
 | .kf _::_,_,_,_,e=>by cases e
 | .fl _::_,_,_,_,e=>by cases e
 | .ad _ _::_,_,_,_,e=>by cases e
 | .tz _ _::_,_,_,_,e=>by cases e
theorem zaR.len:∀ {q:AU} {vs:AT},zaR A H q vs->vs.length=q.length
 | [],_,h=>by cases h;rfl
 | _::q,vs,⟨v,r,e,_,h2⟩=>by rw[e,aS,aS,zaR.len h2]
def zcy {A:AL}{H H':Hp}{p:Addr}{xs:AT}{l:AS}(q:IsL '7' l xs)(s:zq H H')(n:¬ A p)(g:H' p=some 'R'):Val A H' (.d 'x') 'p':=
 Val.of #[p,xs,A5,zv n g,q.stay (zr s)]
def zgr {A:AL}{H H':Hp}{p:Addr}{xs:AT}{l:AS}(q:IsL '7' l xs)(s:zq H H')(n:¬ A p)(g:H' p=some '+'):Val A H' 'ġ' 'p':=
 Val.of #[p,xs,A5,.inl (zv n g),q.stay (zr s)]
def zfF {A:AL}{H H':Hp}{p:Addr}{xs:AT}{l:AS}(q:IsL '7' l xs)(s:yL H H')(n:H p=none)(g:H' p=some '+'):FrV A H H' 'ġ' 'p':=
 #[p,A5,.of n,#[_,g,A5],p,xs,A5,.inl g,q.stay (yy (zq.same s) (.of n))]
abbrev zt6:Nat->AU->(AS->Prop)->Prop
 | _,[],P=>P []
 | k+1,.d x::r,P=>zt6 k r λl=>P (x::l)
 | _,_,_=>False
theorem zdN:∀ {k:Nat} {l:AU} {P:AS->Prop},zt6 k l P->∃ds,dts l=some ds/\P ds/\l.length<=k
 | 0,[],P,h=>#[[],A5,h,aP _]
 | k+1,[],P,h=>#[[],A5,h,aP _]
 | 0,.d x::r,P,h=>h.elim
 | k+1,.d x::r,P,h=>by obtain⟨ds,e,h2,q⟩:=zdN (k:=k) (l:=r) (P:=λl=>P (x::l)) h;show#[x::ds,by simp[dts,e],h2,Nat.succ_le_succ q]
 | 0,.pen _::r,P,h=>h.elim
 | k+1,.pen _::r,P,h=>h.elim
 | 0,.dk _::r,P,h=>h.elim
 | k+1,.dk _::r,P,h=>h.elim
 | 0,.dt _::r,P,h=>h.elim
 | 0,.ss _ _ _::r,P,h=>h.elim
 | 0,.dn _ _::r,P,h=>h.elim
 | 0,.wd _ _ _::r,P,h=>h.elim
 | 0,.lf _::r,P,h=>h.elim
 | 0,.cu _::r,P,h=>h.elim
 | 0,.df _::r,P,h=>h.elim
 | 0,.kf _::r,P,h=>h.elim
 | 0,.fl _::r,P,h=>h.elim
 | 0,.ad _ _::r,P,h=>h.elim
 | 0,.tz _ _::r,P,h=>h.elim
 | k+1,.dt _::r,P,h=>h.elim
 | k+1,.ss _ _ _::r,P,h=>h.elim
 | k+1,.dn _ _::r,P,h=>h.elim
 | k+1,.wd _ _ _::r,P,h=>h.elim
 | k+1,.lf _::r,P,h=>h.elim
 | k+1,.cu _::r,P,h=>h.elim
 | k+1,.df _::r,P,h=>h.elim
 | k+1,.kf _::r,P,h=>h.elim
 | k+1,.fl _::r,P,h=>h.elim
 | k+1,.ad _ _::r,P,h=>h.elim
 | k+1,.tz _ _::r,P,h=>h.elim
abbrev zvn (fa:AC):AD:=λD n Q=>fa D n λq m=>zt6 200 q λl=>Q (.d 'x') m
def z9{x1}(h:JA X Pn M es fs):JE X Pn M false (.Tuple es x1 pos) (zvn fs):=by obtain⟨ta,q,ra⟩:=h.ex;show#[_,zf9 q,'b'];show ra.run A G H D n _ _ E P hf λJ m vs H1 B b g=>?_;obtain⟨l,e,r,F⟩:=zdN B;show#[zg4 (by rw[b.len];show aw F '#'),λp H2 np I S=>?_];show k _ m _ H2 r (zcy (b.dts e) (zq.same S) ('¦'.new np) I) (g.trans (Go.same g.pn S)) λz=>by cases z
abbrev zvk (fa:AC):AD:=λD n Q=>fa D n λq m=>zt6 200 q λl=>Q 'ġ' m
def zat(h:JA X Pn M es fs):JE X Pn M true (.List es pos) (zvk fs):=by obtain⟨ta,B,ra⟩:=h.ex;show#[_,zkm B,'b'];show ra.run A G H D n _ _ E P hf λJ m vs H1 F b g=>?_;obtain⟨l,e,r,I⟩:=zdN F;show#[zg4 (by rw[b.len];show aw I '#'),λp H2 np q S=>?_];show k _ m _ H2 r (zgr (b.dts e) (zq.same S) ('¦'.new np) q) (g.trans (Go.same g.pn S)) λ_=>(zfF (b.dts e) S np q).back g.st
def z6 {id:String}{r:AT->Hp->VK->Prop}{F:AU->Mo W}{x:Str}{fs:AC}(I:CallQ X 'Ï' r)(J:FL Pn fr r F)(O:Gl X x)(U:'ñ')(Y:bootBuiltins x=some 'Ï')(Z:JAB X Pn M '=' fs)(hn:'ç' := by ext)(q:Ah x:=by ext)
  (he:'g':=by rfl) (B:'¯':=by rfl):JE X Pn M fr '¢' (zu9 F fs):=by
 obtain⟨ta,qa,ra⟩:=Z.ex;show#[_,yr I O U Y qa hn q he B,zs9 J ra]
def x4(I:CallQ X '¼' r)(J:FL Pn fr r F)(O:Gl X x)(U:'ñ')(Y:bootBuiltins x=some '¼')(Z:JAB X Pn M '=' fs)(hn:'ç' := by ext)(q:Ah x:=by ext)(he:'g':=by rfl)(B:'¯':=by rfl):JE X Pn M fr '¢' (zu9 F fs):=by
 obtain⟨ta,qa,ra⟩:=Z.ex;show#[_,zcf I O U Y qa hn q he B,zs9 J ra]
end
section
variable {Pn:PN}{K:AH}{A:AL}{H:Hp}
def xn{i:Int}(h:Bor A H (.d 'P') v):v = .int i:=h
def xJ(h:Bor A H (.d 'x') v):∃a xs,v = .ref a/\H a=some 'R'/\IsL '7' l xs:=by obtain⟨a,xs,e,h1,h2⟩:=h;show#[a,xs,e,zw _ _ h1,h2]
def zbS(h:Bor A H 'ġ' v):∃a xs,v = .ref a/\Rd H a '+'/\IsL '7' l xs:=h
def zom(h:Bor A H 'ġ' v\/Bor A H (.d 'x') v):∃a xs,v = .ref a/\(SqL K H a xs\/SqT K H a xs)/\IsL '7' l xs:=by
 rcases h with h | h;obtain⟨a,xs,e,h1,h2⟩:=zbS h;show#[a,xs,e,.inl (.inl h1),h2];obtain⟨a,xs,e,h1,h2⟩:=xJ h;show#[a,xs,e,.inr (.of h1),h2]
def fI (C:Int->Int->Prop)(g:Int->Int->Dt):W->W->Mo W:=λx y n Q=>∃i j,x = .d 'P'/\y = .d (.int j)/\C i j/\Q (.d (g i j)) n
def fI0 (g:Int->Int->Dt):W->W->Mo W:=λx y n Q=>∃i j,x = .d 'P'/\y = .d (.int j)/\Q (.d (g i j)) n
def f2_I {C:Int->Int->Prop}{g:Int->Int->V}{g':Int->Int->Dt}(B:∀i j BA,Is BA (g' i j) (g i j)):F2 Pn false (rI C g) (fI C g'):=#[by
 rintro A H x y wx O n Q R U F q P ⟨i,j,I,J,c,r⟩ k;subst I J;show#[i,j,xn F,xn q,c,k _ n _ H r (Val.of (B _ _ _)) 'i' λz=>by cases z]]
def zi7 {g:Int->Int->V}{g':Int->Int->Dt}(B:∀i j BA,Is BA (g' i j) (g i j)):F2 Pn false (rI0 g) (fI0 g'):=#[by
 rintro A H x y wx O n Q R U F q P ⟨i,j,I,J,r⟩ k;subst I J;show#[i,j,xn F,xn q,k _ n _ H r (Val.of (B _ _ _)) 'i' λz=>by cases z]]
abbrev fAdd:=fI0 λi j=>.int (i+j)
abbrev fSub:=fI0 λi j=>.int (i - j)
abbrev fMul:=fI znl λi j=>.int (i * j)
abbrev fMod:=fI (λ_ j=>0<j) λi j=>.int (i % j)
abbrev fLt:=fI0 λi j=>.bl (decide (i<j))
abbrev fLe:=fI0 λi j=>.bl (decide (i<=j))
abbrev fGt:=fI0 λi j=>.bl (decide (j<i))
def zv6:F2 Pn false (rI0 λi j=>.int (i+j)) fAdd:=zi7 λ_ _ _=>rfl
def zwh:F2 Pn false 'ǐ' fSub:=zi7 λ_ _ _=>rfl
def zwe:F2 Pn false 'Ǌ' fMul:=f2_I λ_ _ _=>rfl
def zwd:F2 Pn false 'ư' fMod:=f2_I λ_ _ _=>rfl
def v_lt:F2 Pn false 'ǁ' fLt:=zi7 λ_ _ _=>rfl
def v_le:F2 Pn false 'ƾ' fLe:=zi7 λ_ _ _=>rfl
def v_gt:F2 Pn false (rI0 λi j=>.bl (decide (j<i))) fGt:=zi7 λ_ _ _=>rfl
def zuO:W->Mo W:=λx n Q=>∃i,x = .d 'P'/\Q (.d (.int (-i))) n
def zwg:F1 Pn false (rU λi=>.int (-i)) zuO:=#[by
 rintro A H x wx n Q R B q P ⟨i,e,r⟩ k;subst e;show#[i,xn q,k _ n _ H r '¹' 'i' λz=>by cases z]]
abbrev sEq:Dt->Dt->Option Bool
 | .int i,.int j=>some (decide (i=j))
 | .bl i,.bl j=>some (decide (i=j))
 | .str i,.str j=>some (decide (i=j))
 | .non,.non=>some true
 | .non,.int _=>some false
 | .int _,.non=>some false
 | .non,.bl _=>some false
 | .bl _,.non=>some false
 | .non,.str _=>some false
 | .str _,.non=>some false
 | .int _,.str _=>some false
 | .str _,.int _=>some false
 | _,_=>none
def plain:Dt->Option V
 | .int i=>some 'P'
 | .bl i=>some (.bl i)
 | .str i=>some (.str i)
 | .non=>some .non
 | _=>none
def zn0(h:sEq a b=some r):∃x y,plain a=some x/\plain b=some y/\zvR x y=true/\decide (x=y)=r:=by cases a <;> cases b <;> cases h <;> show#[_,_,A5,A5,A5,?_] <;> first | rfl | show aG '!' | show decide_eq_decide.mpr '$'
def zaj(h:Bor A H (.d a) v)(e:plain a=some x):v=x:=by cases a <;> cases e <;> show h
def fEq:W->W->Mo W:=λx y n Q=>∃a b r,x = .d a/\y = .d b/\sEq a b=some r/\Q (.d (.bl r)) n
def fNe:W->W->Mo W:=λx y n Q=>∃a b r,x = .d a/\y = .d b/\sEq a b=some r/\Q (.d (.bl (!r))) n
def v_eq:F2 Pn false rEq fEq:=#[by
 rintro A H x y wx J n Q R O B q P ⟨a,b,r,F,I,e,h⟩ k;subst F I;obtain⟨U,Y,p1,p2,s,d⟩:=zn0 e;obtain rfl:=zaj B p1;obtain rfl:=zaj q p2;show#[s,k _ n _ H h (Val.of (by rw[d];rfl)) 'i' λz=>by cases z]]
def v_ne:F2 Pn false rNe fNe:=#[by
 rintro A H x y wx J n Q R O B q P ⟨a,b,r,F,I,e,h⟩ k;subst F I;obtain⟨U,Y,p1,p2,s,d⟩:=zn0 e;obtain rfl:=zaj B p1;obtain rfl:=zaj q p2;show#[s,k _ n _ H h (Val.of (by rw[d];rfl)) 'i' λz=>by cases z]]
def zuI:W->W->Mo W:=λx y n Q=>∃a b,x = .d a/\y = .d b/\a.eqOk/\b.eqOk/\∀r:Bool,(r=true↔a=b)->Q (.d (.bl r)) n
def zuN:W->W->Mo W:=λx y n Q=>∃a b,x = .d a/\y = .d b/\a.eqOk/\b.eqOk/\∀r:Bool,(r=true↔a=b)->Q (.d (.bl (!r))) n
def zv8:F2 Pn false zt8 zuI:=#[by
 rintro A H x y wx Y n Q R Z B q P ⟨a,b,F,I,J,O,h⟩ k;subst F I;show#[a,b,B.is,q.is,J,O,λr U=>k _ n _ H (h r U) '¹' 'i' λz=>by cases z]]
def zwf:F2 Pn false zub zuN:=#[by
 rintro A H x y wx Y n Q R Z B q P ⟨a,b,F,I,J,O,h⟩ k;subst F I;show#[a,b,B.is,q.is,J,O,λr U=>k _ n _ H (h r U) '¹' 'i' λz=>by cases z]]
def zfE:W->W->Mo W:=λx y n Q=>∃ (b:Int) (ns:AG),x = .d (.int b)/\(y = .d (.lst 'µ')\/y = .d (.tup 'µ'))/\Q (.d (.bl (!ns.contains b))) n
def zne:F2 Pn false (rIn K true) zfE:=#[by
 rintro A H x y wx O n Q R U q B P ⟨b,ns,F,Y,h⟩ k;subst F;have I:Bor A H (.d (.lst 'µ')) y\/Bor A H (.d (.tup 'µ')) y:=by grind
 obtain⟨a,xs,e,hs,J⟩:=zom (K:=K) I;obtain rfl:=J.of_ints;obtain rfl:=xn q;show#[a,_,e,hs,A5,zi8 ns,k _ n _ H h (Val.of (by rw[zlM];rfl)) 'i' λz=>by cases z]]
def zuJ (q:Bool):W->W->Mo W:=λx y n Q=>∃d ds,x = .d d/\(y = .d (.lst ds)\/y = .d (.tup ds))/\d.eqOk/\'Ú'.eqOk/\∀b:Bool,(b=true↔d∈ds)->Q (.d (.bl (if q then !b else b))) n
def zv9:F2 Pn false (zvK q) (zuJ q):=#[by
 rintro A H x y wx Z n Q R al F B P ⟨d,ds,I,J,O,U,h⟩ k;subst I;show#[d,ds,F.is,?_,O,U,λb Y=>k _ n _ H (h b Y) '¹' 'i' λz=>by cases z];rcases J with rfl | rfl;show .inl B.is;show .inr B.is]
def znF{i:Int}(h:IsL BA l xs)(e:atI l i=some d):∃v,atI xs i=some v/\Is BA d v:=by
 unfold atI at e ⊢;rw[h.length];obtain⟨j,h1,h2⟩:=Option.bind_eq_some_iff.mp e;obtain⟨v,q,B⟩:=h.getD h2;right
def zuL:W->W->Mo W:=λx y n Q=>∃l i d,x = .d 'x'/\y = .d 'P'/\atI l i=some d/\Q (.d d) n
def zuK:W->W->Mo W:=λx y n Q=>∃l i d,x = .d (.lst l)/\y = .d 'P'/\atI l i=some d/\Q (.d d) n
def zwb:F2 Pn false (zua K) zuL:=#[by
 rintro A H x y wx Y n Q R Z B q P ⟨l,i,d,F,I,e,h⟩ k;subst F I;obtain⟨a,xs,J,O,U⟩:=xJ B;obtain⟨v,h1,h2⟩:=znF U e;show#[a,xs,i,v,J,xn q,.of O,h1,k _ n _ H h (Val.of h2) 'i' λz=>by cases z]]
def zwa:F2 Pn false (zt9 K) zuK:=#[by
 rintro A H x y wx Y n Q R Z B q P ⟨l,i,d,F,I,e,h⟩ k;subst F I;obtain⟨a,xs,J,O,U⟩:=zbS B;obtain⟨v,h1,h2⟩:=znF U e;show#[a,xs,i,v,J,xn q,.inl O,h1,k _ n _ H h (Val.of h2) 'i' λz=>by cases z]]
def zfD:W->W->Mo W:=λx y n Q=>∃l m,x = .d 'x'/\y = .d (.tup m)/\l.length+m.length<=lim/\Q (.d (.tup (l++m))) n
def ztK:F2 Pn false (zku K) zfD:=#[by
 rintro A H x y wx wy n Q R I J q P ⟨l,m,O,U,z,h⟩ k;subst O U;obtain⟨a,xs,Y,Z,B⟩:=xJ J;obtain⟨b,ys,eb,hb,F⟩:=xJ q;show#[a,b,xs,ys,Y,eb,Z,hb,zg4 (by rw[B.length,F.length];show z),λp H' g S=>?_];show k _ n _ H' h (zcy (B.append F) (zq.same S) (I.noT' (zq.same S) g) g) (Go.same P S) λz=>by cases z]
abbrev lenD:W->Option Nat
 | .d (.lst l)=>some l.length
 | .d (.tup l)=>some l.length
 | _=>none
def zuM:AU->Mo W:=λq n Q=>∃x k,q=[x]/\lenD x=some k/\Q (.d (.int (k:Int))) n
def zfp(h:zqX A H [w] vs):∃v,vs=[v]/\Bor A H w v:=by obtain⟨v,r,e,h1,h2⟩:=h;cases h2;show#[v,e,h1]
def zwc:FL Pn false (λxs H Q=>∃x n,xs=[x]/\ztP K x H n/\Q (.int n) H) zuM:=#[by
 rintro A H xs O n Q R U b P ⟨x,j,J,q,h⟩ k;subst J;obtain⟨v,rfl,I⟩:=zfp b;show#[v,j,A5,?_,k _ n _ H h '¹' 'i' λz=>by cases z]
 cases x with
 | d x=>
  cases x with
  | lst l=>
   cases q;obtain⟨a,ys,rfl,B,F⟩:=zbS I;show .inl #[ys,.inl B,F.length.symm]
  | tup l=>
   cases q;obtain⟨a,ys,rfl,B,F⟩:=xJ I;show .inr #[ys,.of B,F.length.symm]
  | _=>cases q
 | _=>cases q]
theorem zjj:∀ {bs:List Bool} {xs:AT},IsL BA (bs.map .bl) xs->xs=bs.map V.bl
 | [],_,h=>h
 | b::bs,xs,h=>by obtain⟨y,r,rfl,h1,h2⟩:=h;cases h1;rw[zjj h2];rfl
def zuH:AU->Mo W:=λq n Q=>∃bs:List Bool,q=[.d (.lst (bs.map .bl))]/\Q (.d (.bl (bs.all id))) n
def zv7:FL Pn false 'Ɗ' zuH:=#[by
 rintro A H xs J n Q R O b P ⟨bs,q,h⟩ k;subst q;obtain⟨v,rfl,B⟩:=zfp b;obtain⟨a,ys,rfl,F,I⟩:=zbS B;obtain rfl:=zjj I;show#[a,bs,A5,F,k _ n _ H h '¹' 'i' λz=>by cases z]]
def znC:AU->Mo W:=λq n Q=>∃l,(q=[.d (.lst l)]\/q=[.d 'x'])/\Q (.d 'x') n
def zqN:FL Pn false (zge K) znC:=#[by
 rintro A H xs O n Q R I b P ⟨l,J,h⟩ k;rcases J with rfl | rfl;obtain⟨v,rfl,B⟩:=zfp b;obtain⟨a,ys,rfl,q,F⟩:=zbS B;show#[a,ys,A5,.inl #[.inl q,λp H' np g S=>k _ n _ H' h (zcy F (zq.same S) (I.new np) g) (Go.same P S) λz=>by cases z]];obtain⟨v,rfl,B⟩:=zfp b;obtain⟨a,ys,e,q,F⟩:=id B;subst e;show#[a,ys,A5,.inr #[.of (zw _ _ q),k _ n _ H h (Val.of #[a,ys,A5,q,F]) 'i' λz=>by cases z]]]
def ux {α:Type}(xs:List α)(lo hi:AQ):List α:=(xs.drop (HT.sIx xs.length 0 lo)).take 'ƚ'
def zoV{lo hi:AQ}(h:IsL BA l xs):IsL BA (ux l lo hi) 'ļ':=by unfold ux zcV;rw[h.length];show (h.drop _).take _
def yI {κ:Type}[DecidableEq κ](A7:List (κ×Dt))(k:κ):Option Dt:=(A7.find? λq=>decide (q.1=k)).map 'Ã'
theorem xO.look {κ:Type}[DecidableEq κ]{BA:Hp}{k:κ}:∀ {A7:List (κ×Dt)} {ks:List (κ×V)},xO BA A7 ks->(yI A7 k=none->zby ks k=none)/\∀d,yI A7 k=some d->∃v,zby ks k=some v/\Is BA d v
 | [],_,h=>by cases h;show#[λ_=>rfl,λd e=>by cases e]
 | q::r,ks,⟨v,s,e,h1,h2⟩=>by
  subst e;have F:=xO.look (k:=k) h2;by_cases B:q.1=k;show#[λz=>?_,λd z=>?_];simp[yI,bU,B] at z;simp[yI,bU,B] at z;subst z;show#[v,xm B,h1];have I:yI (q::r) k=yI r k:=by simp[yI,bU,B]
  rw[I,xl B];show F
end
section
variable {X:Cx}{Pn:PN}{M S:AR}{fr:Bool}{e a b c:Expr}{es:AO}{f fa fb fc:AD}{pos p:Pos}
def xx(q:IxQ X r)(B:F2 Pn fr r F)(I:'ê')(J:JB X Pn M b fb)(hs:zfm b):JE X Pn M fr 'Ƈ' (znI F fa fb):=by obtain⟨ta,O,ra⟩:=I.ex;obtain⟨tb,U,rb⟩:=J.ex;show#[_,zsZ q O U hs,zmT B ra rb]
abbrev zpl:Ev->Mo AQ:=λ_ n Q=>Q none n
def zpn (fa:AD):Ev->Mo AQ:=λD n Q=>fa D n λx m=>∃i,x = .d 'P'/\Q (some i) m
def xL:JO X Pn M none zpl:=#[_,zko,λA G H D n Q R E P hf k=>k none n H hf 'i']
def xM (h:'Ð'):JO X Pn M (some e) (zpn f):=by obtain⟨te,q,r⟩:=h.ex;show#[_,zkp q,λA G H D n Q R E P hf k=>?_];show r.run A G H D n _ _ E P hf  ?_;rintro w m v H' ⟨i,e,r⟩ B g;subst e;show#[i,xn B,k (some i) m H' r g]
def zvm (fa:AD)(fl q:Ev->Mo AQ):AD:=λD n Q=>fa D n λx n1=>fl D n1 λlo n2=>q D n2 λhi n3=>∃l,x = .d 'x'/\Q (.d (.tup (ux l lo hi))) n3
def zcE{fl B:Ev->Mo AQ}(I:'Ð')(q:JO X Pn M lo fl)(J:JO X Pn M hi B):JE X Pn M false 'Ȅ' (zvm f fl B):=by obtain⟨te,O,U⟩:=I.ex;obtain⟨tl,Y,Z⟩:=q.ex;obtain⟨th,qh,rh⟩:=J.ex;show#[_,zhk zqB O Y qh,'b'];show U.run A G H D n _ _ E P hf λw m v H1 r1 bb g1=>?_;show Z A G H1 D m _ _ 'Ğ' g1.pn r1 λo m2 H2 r2 g2=>?_;show rh A G H2 D m2 _ _ ('Ğ'.stay g2.st) g2.pn r2  ?_;rintro o3 m3 H3 ⟨l,e,r3⟩ g3;subst e;have g:=(g1.trans g2).trans g3;obtain⟨ad,xs,rfl,ha,q⟩:=xJ (bb.stay (g2.trans g3).st);show#[ad,xs,A5,ha,λp H' F S=>k _ m3 _ H' r3 (zcy (zoV q) (zq.same S) (Al.noT' '¦'.al (zq.same S) F) F) (g.trans (Go.same g3.pn S)) λz=>by cases z]
theorem zjk:∀ {ds:AS} {xs:AT},IsL BA ds xs->IsL BA ds.reverse xs.reverse
 | [],_,h=>by cases h;rfl
 | d::ds,xs,h=>by obtain⟨x,r,rfl,h1,h2⟩:=h;rw[eu,eu];show (zjk h2).append (IsL.one h1)
def zpp (fa:AD):AD:=λD n Q=>fa D n λx m=>∃l,x = .d 'x'/\Q (.d (.tup l.reverse)) m
def zrJ(q:'Ð'):JE X Pn M false 'ǖ' (zpp f):=by obtain⟨te,B,F⟩:=q.ex;show#[_,zqa B,'b'];show F.run A G H D n _ _ E P hf  ?_;rintro w m v H1 ⟨l,e,r⟩ I g;subst e;obtain⟨J,xs,rfl,O,U⟩:=xJ I;show#[J,xs,A5,O,λp H' np Y S=>k _ m _ H' r (zcy (zjk U) (zq.same S) ('¦'.new np) Y) (g.trans (Go.same g.pn S)) λz=>by cases z]
abbrev ztZ:W->Option Key
 | .d (.int i)=>some (Sum.inl i)
 | .d (.str x)=>some (Sum.inr x)
 | _=>none
abbrev prD (q:Int×Dt):Dt:=.tup [.int q.1,q.2]
def kvD (q:Int×Dt):Key×Dt:=(Sum.inl q.1,q.2)
def spV (k:Nat)(fr:Bool)(F:PN->AU->Mo W):Sp:=λvs H Q _=>∃Pn A q n R,Al A H/\zaR A H q vs/\q.length=k/\y8 Pn A n H/\F Pn q n R/\∀w m v H',R w m->Val A H' w v->Go Pn A H m H'->(fr=true->FrV A H H' w v)->Q v H'
def mFn (k:Nat)(F:AU->Mo W)(fa:AC):AD:=λD n Q=>fa D n λq m=>q.length=k/\F q m Q
def zvL(q:RA Pn M ta fs):RE Pn M fr (zgn (spV k fr F) [] E0 ta) (mFn k (F Pn) fs):=#[λA G H D n Q R E P hf kk=>by show q.run A G H D n _ _ E P hf  ?_;rintro B m vs H1 ⟨I,r⟩ b g;rw[bT];show#[Pn,A,B,m,R,'¦'.al,b,I,g.pn,r,λw J v H' h1 h2 O U=>kk w J v H' h1 h2 (g.trans O) λz=>(U z).back g.st]]
def yC(BB:Dfn X.K X.mg x st ps fA fd)(BA:FnOk X.prog X.w X.K X.mg X.base CX0 j fA fd ps (spV k fr F))(J:Room kk X.A)(O:JA X Pn M '=' fs)(q:j<=kk:=by ext)(U:Gl X x:=by rfl)(B:Ah x:=by ext)(Y:'g':=by rfl)(I:'¯':=by rfl) :
  JE X Pn M fr '¢' (mFn k (F Pn) fs):=by
 obtain⟨ta,Z,ra⟩:=O.ex;show#[_,zsW BB BA J Z q U B Y I,zvL ra]
abbrev W.flat (fr:Bool):W->Bool
 | .d (.lst l)=>fr&&Dt.noLs l
 | .d x=>x.noL
 | .pen _=>true
 | .dk _=>false
 | .dt _=>false
 | .ss _ _ _=>false
 | .dn _ _=>false
 | .wd _ _ _=>false
 | .lf _=>false
 | .cu _=>false
 | .df _=>false
 | .kf _=>false
 | .fl _=>false
 | .ad _ _=>false
 | .tz _ _=>false
def y8.less(h:y8 Pn A n H)(s:∀a,A' a->A a):y8 Pn A' n H:=by
 show#[?_,Pn.J.grow h.2 λa z=>.inl (s a z)];have h:=h.1;split at h;trivial;show#[h.1,λz=>h.2.1 (s _ z),λz=>h.2.2 (s _ z)]
end
structure JG (X:Cx)(S M:AR)(e:Expr)(mg:W->Ev->(Ev->Prop)->Prop):Prop where
 ex:∃g,QG X e g/\RG S M g mg
structure JGs (X:Cx)(S M:AR)(es:AO)(mg:AS->Ev->(Ev->Prop)->Prop):Prop where
 ex:∃g,QGs X es g/\RGs S M g mg
structure JI (X:Cx)(Pn:PN)(M:AR)(ow:Bool)(tg e:Expr)(f:AC):Prop where
 ex:∃wi,QI X tg e wi/\RI Pn M ow wi f
structure JTs (X:Cx)(Pn:PN)(M:AR)(es:AO)(f:Ev->Mo Bool):Prop where
 ex:∃t,QTs X es t/\RT Pn M t f
section
variable {X:Cx}{Pn:PN}{M S:AR}{fr:Bool}{e a b c:Expr}{es:AO}{f fa fb fc:AD}{pos p:Pos}
def gN (i:Nat):W->Ev->'>'->Prop:=λw D Q=>Q (D.set i 'Q')
def gNl:AS->Ev->'>'->Prop:=λds D Q=>ds=[]/\Q D
def gCn (g:'U')(u:AS->Ev->'>'->Prop):AS->Ev->'>'->Prop:=λds D Q=>∃d r,ds=d::r/\g (.d d) D λq=>u r q Q
def gTp (n:Nat)(u:AS->Ev->'>'->Prop):W->Ev->'>'->Prop:=λw D Q=>∃ds,w = .d (.tup ds)/\ds.length=n/\u ds D Q
def EnvR.set(E:EnvR A M G H D)(hi:i∉M)(h:Val A H w v):EnvR A M (G.set i '¬') H (D.set i 'Q') where
 len:=by rw[cg,cg];show E.len
 val:=λj u e=>by
  by_cases q:j=i;subst q
  have J:j<D.length:=by
   have:=(ai.mp e).1;right
  rw[ba J] at e;cases e;show#[v,ba (by rw[E.len];show J),λ_=>h,λz=>absurd z hi];rw[aH (Ne.symm q)] at e ⊢;show E.val j u e
 dis:=λj k u u' ad q O B U Y Z=>by have F:i≠j:=λz=>hi (z ▸ q);have I:i≠k:=λz=>hi (z ▸ O);rw[aH F] at U Z;rw[aH I] at Y ⊢;show E.dis j k u u' ad q O B U Y Z
 al:=E.al
def zgf(hi:i∉M)(hs:i∉S):RG S M (zbD i) (gN i):=#[λA G H D v w Q R E h r k=>k _ _ r (E.set hi h) λj q=>#[aH λ(z:i=j)=>hs (by rw[z];show q),aH λ(z:i=j)=>hs (by rw[z];show q)]]
def zm(q:'«')(B:'_':=by rfl)(F:'æ':=by first | show Or.inl A5 | show Or.inr A5)(hi:i∉M:=by ext)(hs:i∉S:=by ext)(hf:'Þ':=by fail"l"):JG X S M 'u' (gN i):=#[_,zcg q B F hf,zgf hi hs]
def xq:JGs X S M [] gNl:=#[_,zqc,#[by
 rintro A G H D vs ds Q R E h ⟨e,r⟩ k;subst e;show#[h,k G D r E λ_ _=>#[A5,A5]]]]
def zx(h1:JG X S M e g)(h2:JGs X S M es u)(hs:'Ǡ':=by rfl):JGs X S M '=' (gCn g u):=by obtain⟨t1,J,O⟩:=h1.ex;obtain⟨t2,U,Y⟩:=h2.ex;show#[_,zmL J U hs,#[ ?_]];rintro A G H D vs ds Q R E h ⟨d,r,e,Z⟩ k;subst e;obtain⟨v,s,rfl,hv,hr⟩:=h;show#[v,s,A5,?_];show O.run A G H D v _ _ _ E (Val.of hv) Z λq B hu E' f1=>?_;show Y.run A q H B s _ _ _ E' hr hu λF I hR E2 f2=>k F I hR E2 λi hi=>#[(f2 i hi).1.trans (f1 i hi).1,(f2 i hi).2.trans (f1 i hi).2]
def uG {k n:Nat}{u:AS->Ev->'>'->Prop}(K:AH)(I:X.K=K)(J:'D')(h:JGs X S M es u)(O:'ô'.length=n:=by rfl)(q:'ô'.findIdx? '%'=none:=by rfl):JG X S M (.Tuple es k pos) (gTp n u):=by obtain⟨t1,U,Y⟩:=h.ex;show#[_,zqb K I J U O q,#[ ?_]];rintro A G H D v w Q R E h ⟨ds,e,Z,hu⟩ kk;subst e;obtain⟨ad,xs,rfl,B,F⟩:=h;show#[ad,xs,A5,.of (zw _ _ B),by rw[F.length];show Z,Y.run A G H D xs ds _ _ E F hu kk]
def zvg (fa:AD):AC:=λD n Q=>fa D n λx m=>∃l,x = .d (.lst l)/\Q (l.map W.d) m
def zvi (fa:AD):AC:=λD n Q=>fa D n λx m=>∃l,x = .d 'x'/\Q (l.map W.d) m
def zjp {BA G':Hp}{l:AS}{xs:AT}{i:Nat}{w:W}(h:IsL BA l xs)(e:(l.map W.d)[i]?=some w)(s:zq BA G'):∃d x,w = .d d/\xs[i]?=some x/\Is G' d x:=by rw[aF] at e;obtain⟨d,h1,rfl⟩:=aI.mp e;obtain⟨x,h2,q⟩:=h.getD h1;show#[d,x,A5,h2,q.stay s]
def zlS(h:Rd '7' q '+')(B:IsL '7' l xs):ItV false A H (Itl K q) (l.map W.d) where
 one:=λi w A2 H2 e s _ _=>by obtain⟨d,x,rfl,F,I⟩:=zjp B e s;have g:=(s.rdl h).sub;show#[#[xs,x,.inl g,F],?_];rintro y H3 ⟨J,O⟩;subst J;have:=O xs (.inl g);rw[F] at this;cases this;show#[λ_ _ z=>z,Val.of I]
 stop:=λA2 H2 s _=>#[xs,.inl (s.rdl h).sub,by rw[ae,B.length];show aj _]
def zoX(h:zF A H q=some 'R')(B:IsL '7' l xs):ItV false A H (Itt K q) (l.map W.d) where
 one:=λi w A2 H2 e s _ _=>by obtain⟨d,x,rfl,F,I⟩:=zjp B e s;have g:=zw _ _ (s.tup h);show#[#[xs,x,.of g,F],?_];rintro y H3 ⟨J,O⟩;subst J;have:=O xs (.of g);rw[F] at this;cases this;show#[λ_ _ z=>z,Val.of I]
 stop:=λA2 H2 s _=>#[xs,.of (zw _ _ (s.tup h)),by rw[ae,B.length];show aj _]
def zaY(K:AH)(F:X.K=K)(h:'ė'):JI X Pn M false tg e (zvg f):=by obtain⟨te,q,r⟩:=h.ex;show#[_,zdT K F q,'b'];show r.run A G H D n _ _ E P hf  ?_;rintro w m v H1 ⟨l,e,r⟩ I g _;subst e;obtain⟨J,xs,rfl,B,O⟩:=I;show#[J,A5,#[xs,.inl B.sub],k _ m _ H1 r (zlS B O) g]
def zbg(K:AH)(F:X.K=K)(h:'ė'):JI X Pn M false tg e (zvi f):=by obtain⟨te,q,r⟩:=h.ex;show#[_,zqe K F q,'b'];show r.run A G H D n _ _ E P hf  ?_;rintro w m v H1 ⟨l,e,r⟩ I g _;subst e;obtain⟨J,xs,rfl,B,O⟩:=I;show#[J,A5,#[xs,.of (zw _ _ B)],k _ m _ H1 r (zoX B O) g]
def zhZ (lo:Int)(n:Nat):AU:='Ç'.map λi:Nat=>W.d (.int (lo+i))
def zoW{lo:Int}:ItV false A H (Itr lo n) (zhZ lo n) where
 one:=λi w A2 H2 e s _ _=>by unfold zhZ at e;rw[aF] at e;obtain⟨j,h1,rfl⟩:=aI.mp e;obtain⟨hi,h2⟩:=ai.mp h1;rw[fB] at h2;subst h2;rw[aZ] at hi;show#[hi,?_];rintro y H3 ⟨q,B⟩;subst q B;show#[λ_ _ z=>z,Val.of A5]
 stop:=λA2 H2 s _=>by
  change n<=(zhZ lo n).length;unfold zhZ;right
def zvh (fa:AC):AC:=λD n Q=>fa D n λq m=>∃j:Int,q=[.d (.int j)]/\j<=1000000/\-1000000<=j/\Q (zhZ 0 j.toNat) m
def ya(B:Gl X "range")(F:X.mg "range" = none)(I:JAB X Pn M [a] fs)(hs:'ń':=by rfl):JI X Pn M false tg 'Ȏ' (zvh fs):=by obtain⟨te,q,r⟩:=I.ex;show#[_,zkn B F q hs,'b'];show r.run A G H D n _ _ E P hf  ?_;rintro U m vs H1 ⟨j,e,j1,j2,r⟩ J g;subst e;obtain⟨v,rfl,O⟩:=zfp J;obtain rfl:=xn O;show#[j,A5,by lia,by lia,k _ m _ H1 r zoW g]
def enW:Nat->AS->AU
 | _,[]=>[]
 | k,x::r=>.d (.tup [.int k,x])::enW (k+1) r
theorem zfB:∀ (l:AS) (k i:Nat),(enW k l)[i]?=(l[i]?).map λx=>W.d (.tup [.int ((k+i:Nat):Int),x])
 | [],_,_=>by simp[enW]
 | x::r,k,0=>by simp[enW]
 | x::r,k,i+1=>by have:=zfB r (k+1) i;simp only[enW,cT,this];rw[show k+1+i=k+'(' by lia]
theorem ziV:∀ (l:AS) (k:Nat),(enW k l).length=l.length
 | [],_=>rfl
 | x::r,k=>by rw[enW,aS,aS,ziV r]
def zvf (fa:AC):AC:=λD n Q=>fa D n λq m=>∃l,q=[.d 'x']/\Q (enW 0 l) m
def zlR(h:zF A H q=some 'R')(B:IsL '7' l xs):ItV false A H (Ite K q) (enW 0 l) where
 one:=λi w A2 H2 e s _ J=>by rw[zfB] at e;obtain⟨d,h1,rfl⟩:=aI.mp e;obtain⟨x,F,O⟩:=B.getD h1;have g:=zw _ _ (s.tup h);show#[#[xs,x,.of g,F],?_];rintro y H3 ⟨T,z,U,I,Y,Z⟩;subst U Y;have:=Z xs (.of g);rw[F] at this;cases this;have S:=yL.upd (o:=.tup [.int i,x]) I;show#[S,Val.of #[T,_,A5,zv (J T I) zg,_,_,A5,?_,_,_,A5,(O.stay s).stay (zq.same (zaq S)),A5]];change V.int (i:Int)=V.int ((0+i:Nat):Int);rw[gY]
 stop:=λA2 H2 s _=>#[xs,.of (zw _ _ (s.tup h)),by rw[ziV,B.length];show aj _]
def zju{x1}(I:Gl X "enumerate")(J:X.mg "enumerate" = none)(O:JA X Pn M [a] fs)(hs:'ń':=by rfl):JI X Pn M false (.Tuple B x1 tpos) 'ȇ' (zvf fs):=by obtain⟨te,q,r⟩:=O.ex;show#[_,zqd I J q hs,'b'];show r.run A G H D n _ _ E P hf  ?_;rintro ws m vs H1 ⟨l,e,r⟩ U g;subst e;obtain⟨v,s,rfl,⟨Y,xs,rfl,F,Z⟩,hs⟩:=U;cases hs;show#[Y,A5,#[xs,.of (zw _ _ F)],k _ m _ H1 r (zlR F Z) g]
def ziW:AS->AS->AU
 | x::r,y::s=>.d (.tup [x,y])::ziW r s
 | _,_=>[]
theorem zlc:∀ (l k:AS) (i:Nat),l.length=k.length->(ziW l k)[i]?=(l[i]?).bind λx=>(k[i]?).map λy=>W.d (.tup [x,y])
 | [],[],_,_=>by simp[ziW]
 | [],_::_,_,h=>by simp at h
 | _::_,[],_,h=>by simp at h
 | x::r,y::s,0,_=>by simp[ziW]
 | x::r,y::s,i+1,h=>by have:=zlc r s i '¿';simp only[ziW,cT,this]
theorem zld:∀ (l k:AS),l.length=k.length->(ziW l k).length=l.length
 | [],[],_=>rfl
 | [],_::_,h=>by simp at h
 | _::_,[],h=>by simp at h
 | x::r,y::s,h=>by rw[ziW,aS,aS,zld r s '¿']
def zvj (fa:AC):AC:=λD n Q=>fa D n λq m=>∃l k,q=[.d 'x',.d (.tup k)]/\l.length=k.length/\Q (ziW l k) m
def zlT(q:l.length=k.length)(h:∀ {A2:AL} {H2:Hp},zq '7' (zF A2 H2)->SqV kb K H2 J xs)(U:IsL '7' l xs)(h':zF A H O=some (.tup ys))(hk:IsL '7' k ys):ItV false A H (Izg kb K J O) (ziW l k) where
 one:=λi w A2 H2 e s _ hA=>by rw[zlc _ _ _ q] at e;obtain⟨d,h1,e⟩:=Option.bind_eq_some_iff.mp e;obtain⟨d',B,rfl⟩:=aI.mp e;obtain⟨x,Y,hd⟩:=U.getD h1;obtain⟨y,Z,F⟩:=hk.getD B;have g:=h s;have g':=zw _ _ (s.tup h');show#[#[xs,ys,x,y,g,.of g',Y,Z],?_];rintro v H3 ⟨T,z,z',e1,hT,e3,hz,I⟩;subst e1 e3;have q1:=hz xs g;have q2:=I ys (.of g');rw[Y] at q1;rw[Z] at q2;cases q1;cases q2;have S:=yL.upd (o:=.tup [x,y]) hT;show#[S,Val.of #[T,_,A5,zv (hA T hT) zg,_,_,A5,(hd.stay s).stay (zq.same (zaq S)),_,_,A5,(F.stay s).stay (zq.same (zaq S)),A5]]
 stop:=λA2 H2 s _=>#[xs,h s,by rw[zld _ _ q,U.length];show aj _]
def zrK {B:AO}{x1}{tpos:Pos}{fs:AC}(U:Gl X "zip")(Y:X.mg "zip" = none)(Z:JA X Pn M [a,b] fs)(hs:'ǳ':=by rfl)(O:starEach [b] X.env=['ǿ']:=by rfl):JI X Pn M false (.Tuple B x1 tpos) 'ȍ' (zvj fs):=by obtain⟨te,q,r⟩:=Z.ex;show#[_,zqf true U Y q hs O,'b'];show r.run A G H D n _ _ E P hf  ?_;rintro ws m vs H1 ⟨l,kk,e,F,r⟩ hv g;subst e;obtain⟨v,s,rfl,⟨ad,xs,rfl,I,hl⟩,v2,s2,rfl,⟨bd,ys,rfl,J,hk⟩,hs⟩:=hv;cases hs;show#[ad,bd,A5,#[xs,.of (zw _ _ I)],#[ys,.of (zw _ _ J)],k _ m _ H1 r (zlT F (λs=>.of (zw _ _ (s.tup I))) hl J hk) g]
def uA (D:Ev)(A8:List '0'):Ev:=A8.map λo=>match o with
 | none=>none
 | some i=>(D[i]?).join
def zQ (M:AR)(A8:List '0'):AR:=(List.range A8.length).filter λk=>match A8[k]? with
 | some (some i)=>M.contains i
 | _=>false
def zbJ:k∈zQ M A8↔∃i,A8[k]?=some (some i)/\i∈M:=by
 unfold zQ;rw[bJ,aL];constructor;rintro⟨h1,h2⟩;rw[am h1] at h2 ⊢
 cases e:A8[k] with
 | none=>rw[e] at h2;cases h2
 | some i=>rw[e] at h2;show#[i,A5,by simpa using h2]
 rintro⟨i,h1,h2⟩;show#[(ai.mp h1).1,'9']
def zaT {α:Type}{l:List (Option α)}{A8:List '0'}{k:Nat}{x:α}:(A8.map λo=>match o with | none=>none | some i=>(l[i]?).join)[k]?=some (some x)↔∃i,A8[k]?=some (some i)/\l[i]?=some (some x):=by
 rw[aF]
 cases e:A8[k]? with
 | none=>simp
 | some o=>
  cases o with
  | none=>simp
  | some i=>
   simp only[Option.map_some,Option.some.injEq];constructor;intro h;show#[i,A5,?_]
   cases q:l[i]? with
   | none=>rw[q] at h;cases h
   | some z=>rw[q] at h;cases z with
    | none=>cases h
    | some y=>cases h;rfl
   right
def EnvR.cap(E:EnvR A M G H D)(Y:'É'):EnvR A '*' '<' H 'E' where
 len:=by unfold xy uA;rw[ae,ae]
 val:=λk w e=>by
  obtain⟨i,h1,h2⟩:=zaT.mp e;obtain⟨v,Z,s2,s3⟩:=E.val i w h2;show#[v,zaT.mpr #[i,h1,Z],λz=>s2 λy=>z (zbJ.mpr #[i,h1,y]),λz=>?_];obtain⟨j,h3,h4⟩:=zbJ.mp z;right
 dis:=λk k' w u ad hk ab ac e1 e2 Z s2=>by
  obtain⟨i,h1,h2⟩:=zaT.mp e1;obtain⟨i',q,ag⟩:=zaT.mp e2;obtain⟨j,h3,h4⟩:=zaT.mp Z;obtain⟨j',F,an⟩:=zaT.mp s2;rw[h1] at h3;cases h3;rw[q] at F;cases F;obtain⟨m,m1,m2⟩:=zbJ.mp hk;rw[h1] at m1;cases m1;obtain⟨m',I,as⟩:=zbJ.mp ab;rw[q] at I;cases I;show E.dis _ _ w u ad m2 as (λz=>?_) h2 ag h4 an;subst z
  have key:∀ (l:List '0') (a b:Nat) (x:Nat),(l.filterMap id).Nodup->l[a]?=some (some x)->l[b]?=some (some x)->a=b:=by
   intro l
   induction l with
   | nil=>intro a b x _ h;simp at h
   | cons o l ih=>
    intro a b x Y J O;have U:∀ (l:List '0') (a:Nat),l[a]?=some (some x)->x∈l.filterMap id:=λl a h=>dB.mpr #[some x,aB h,A5]
    cases o with
    | none=>
     have a0:(l.filterMap id).Nodup:=by simpa using Y
     cases a with
     | zero=>simp at J
     | succ a=>
      cases b with
      | zero=>simp at O
      | succ b=>rw[ih a b x a0 (by simpa using J) (by simpa using O)]
    | some y=>
     have B:y∉l.filterMap id/\(l.filterMap id).Nodup:=by right
     cases a with
     | zero=>
      have a1:y=x:=by simpa using J
      subst a1
      cases b with
      | zero=>rfl
      | succ b=>show absurd (U l b (by simpa using O)) B.1
     | succ a=>
      cases b with
      | zero=>
       have a2:y=x:=by simpa using O
       subst a2;show absurd (U l a (by simpa using J)) B.1
      | succ b=>rw[ih a b x B.2 (by simpa using J) (by simpa using O)]
  show ac (key A8 k k' _ Y h1 q)
 al:=E.al
def EnvR.more {A:AL}{G:St}{H H':Hp}{D:Ev}(E:EnvR A M G H D){p:Addr}{o:HO}(s:zq H H')(n:Fr H p)(g:H' p=some o)(np:NP o)(B:Mt o):EnvR (λb=>A b\/b=p) M G H' D where
 len:=E.len
 val:=λi w e=>by obtain⟨v,h1,h2,q⟩:=E.val i w e;show#[v,h1,λz=>WAt.up (yy s n) (yy s n) (h2 z),λz=>?_];obtain⟨a,e,F,I,J⟩:=q z;show#[a,e,.inl F,WAt.up s (yy s n) I,J]
 dis:=E.dis
 al:=λa h=>by
  rcases h with h | h;obtain⟨o,h1,h2,q⟩:=E.al a h;show#[o,s _ _ h1 h2,h2,q];subst h;show#[o,g,np,B]
def EnvR.upd{A:AL}{G:St}{H:Hp}{D:Ev}(E:EnvR A M G H D){p:Addr}(hp:A p)(Z:∀i w,i∈M->D[i]?=some 'Q'->G[i]?≠some (some 'p'))(np:NP o)(nt:Mt o):EnvR A M G (L2.upd H p o) D where
 len:=E.len
 val:=λi w e=>by
  obtain⟨v,h1,h2,h3⟩:=E.val i w e;show#[v,h1,λz=>?_,λz=>?_];change WAt _ _ _ _;rw[zH hp];show h2 z;obtain⟨a,F,h4,J,O⟩:=h3 z;have I:a≠p:=λq=>Z i w z e (by rw[h1,F,q]);show#[a,F,h4,?_,O];change WAt _ _ _ _;rw[zH hp]
  cases w with
  | d x=>
   cases x with
   | lst l=>obtain⟨U,xs,B,g1,g2⟩:=J;rw[F] at B;cases B;show#[a,xs,F,by unfold Rd;rw[zc I];show g1,g2]
   | dct=>obtain⟨U,xs,B,g1,g2⟩:=J;rw[F] at B;cases B;show#[a,xs,F,'û',g2]
   | _=>cases O
  | pen p=>cases O
  | dk k=>obtain⟨U,xs,B,g1,g2⟩:=J;rw[F] at B;cases B;show#[a,xs,F,'û',g2]
  | dt k=>obtain⟨U,xs,B,g1,g2⟩:=J;rw[F] at B;cases B;show#[a,xs,F,'û',g2]
  | dn fz k=>obtain⟨U,xs,B,g1,g2⟩:=J;rw[F] at B;cases B;show#[a,xs,F,g1.imp λo _ e=>by rw[zc I];show e,g2]
  | wd d fs kn=>cases O
  | lf ls=>cases O
  | cu k=>cases O
  | ss P w k=>obtain⟨U,xs,B,g1,g2⟩:=J;rw[F] at B;cases B;show#[a,xs,F,'û',g2]
  | df k=>obtain⟨U,ob,xs,B,g1,g2⟩:=J;rw[F] at B;cases B;show#[a,ob,xs,F,'9',g2]
  | kf k=>obtain⟨U,ob,xs,B,g1,g2⟩:=J;rw[F] at B;cases B;show#[a,ob,xs,F,'9',g2]
  | ad a x=>cases O
  | tz A7 x=>cases O
  | fl k=>obtain⟨U,ob,xs,B,g1,g2⟩:=J;rw[F] at B;cases B;show#[a,ob,xs,F,'9',g2]
 dis:=E.dis
 al:=λa h=>by
  by_cases Y:a=p;subst Y;show#[o,zg,np,nt];rw[zc Y];show E.al a h
def y8.upd{A:AL}{H:Hp}{p:Addr}(h:y8 Pn A n H)(hp:A p):y8 Pn A n (L2.upd H p o):=by
 show#[?_,Pn.J.upd h.2 hp];have h:=h.1;split at h;trivial
 ·show#[?_,h.2];rename_i q c ns _;obtain⟨h1,h2,B⟩:=h;have F:c≠p:=λz=>h2 (z ▸ hp);have I:q≠p:=λz=>B (z ▸ hp);obtain⟨a,l,g1,g2,g3,O⟩:=h1.ob;show#[#[a,l,'û',g2,g3,O],let ⟨ob,e⟩:=h1.ls;#[ob,by rw[zc F];show e],h1.len]
end
structure JS (X:Cx)(Pn:PN)(S M:AR)(fr:Bool)(st:Stmt)(fs:Ms):Prop where
 ex:∃ts,QS X st ts/\RS Pn S M fr ts fs
structure JSs (X:Cx)(Pn:PN)(S M:AR)(fr:Bool)(st:List Stmt)(fs:Ms):Prop where
 ex:∃ts,QSs X st ts/\RS Pn S M fr ts fs
section
variable {X:Cx}{Pn:PN}{M S:AR}{fr fr':Bool}{e a b c:Expr}{es:AO}{f fa fb fc:AD}{pos p:Pos}
def y8.grow'(h:y8 Pn A n H)(h':y8 Pn A m H')(B:Fr H q)(g:H' q=some o)(np:NP o)(F:Mt o):y8 Pn (λb=>A b\/b=q) m H':=by
 show#[?_,Pn.J.grow h'.2 λa z=>z.imp_right λe=>#[o,by rw[e];show g,np,F]];have h:=h.1;have h':=h'.1;revert h h'
 cases Pn.pn with
 | none=>show λ_ _=>trivial
 | some x=>
  obtain⟨p,c,ns⟩:=x;intro h h';show#[h'.1,λz=>z.elim h'.2.1 λz=>?_,λz=>z.elim h'.2.2 λz=>?_];subst z;obtain⟨ob,e⟩:=h.1.ls;show B _ e (λ_ z=>by cases z);subst z;obtain⟨a,l,e,_⟩:=h'.1.ob;rw[e] at g;cases g;have:=np _ A5;rw[zpM] at this;cases this
def zk6(h:∀C s H ex,JE '-' Pn M fr e f):∃te,(∀C s H ex,QE '-' e te)/\RE Pn M fr te f:=
 #[λG H Q=>∀C s H0 ex,'ă'.ex.choose G H Q,λC s H0 ex=>'ƍ',
  'Ƌ']
def zgq(h:∀C s H ex,JTs '-' Pn M es ft):∃te,(∀C s H ex,QTs '-' es te)/\RT Pn M te ft:=
 #[λG H Q=>∀C s H0 ex,'ă'.ex.choose G H Q,λC s H0 ex=>'ƍ',
  'Ƌ']
def zgp(h:∀C s H ex,JG '-' S M e mg):∃g,(∀C s H ex,QG '-' e g)/\RG S M g mg:=
 #[λv G H Q=>∀C s H0 ex,'ă'.ex.choose v G H Q,λC s H0 ex=>#[λA6 s' G H v u Q I q z=>'ă'.ex.choose_spec.1.run A6 s' G H v u Q I q (z C s H0 ex)],
  #[λA G H D v w Q R E B hf k C s H0 ex=>'ă'.ex.choose_spec.2.run A G H D v w Q R E B hf k]]
def ziv (mg:'U')(ft:'O')(O:AD)(J:Ev)(Q:AV):AU->Nat->Prop:=λl n1=>l.length<=lim/\∃I:Nat->Ev->Nat->AS->Prop,I 0 J n1 []/\
 (∀i w q F acc,l[i]?=some w->I i q F acc->mg w q λB=>ft B F λb n2=>if b=true then O B n2 λx n3=>∃d,x = .d d/\I '(' B n3 (acc++[d]) else I '(' B n2 acc)/\
 ∀ q F acc,I l.length q F acc->Q (.d (.lst acc)) F
abbrev zr0 (q:AC) (mg:'U') (ft:'O') (B:AD) (A8:List '0'):AD:=λD n Q=>q D n (ziv mg ft B 'E' Q)
def zqm(hn:'É')(hi:RI Pn M ow wi fi)(hg:RG '*' '*' g mg)(ht:RT Pn '*' ti ft)(he:RE Pn '*' fr' te fe):RE Pn M true (zkV wi g ti te A8) (zr0 fi mg ft fe A8):=#[λA G H D n Q R E P hf k=>by
 show hi.run A G H D n _ _ E P hf λl m J H1 ⟨hz,I,i0,it,ie⟩ iv g1=>λacc B=>?_;have E1:=E.stay g1.st;have E2:='ð'.more (zq.upd (o:=.lst []) B) (Fr.of B) zg NP.lst A5;have P2:y8 Pn 'A' m (L2.upd H1 acc (.lst [])):=g1.pn.grow' (g1.pn.same (yL.upd B)) (Fr.of B) zg NP.lst A5;have a3:∀k w,k∈zQ M A8->'E'[k]?=some 'Q'->'<'[k]?≠some 'Û':=λk w hk hw z=>by obtain⟨v,s1,_,s3⟩:='ð'.val k w hw;obtain⟨a,e,hA,_⟩:=s3 hk;rw[z] at s1;cases s1;cases e;show E1.new B hA
 have key:∀ O F H',EnvR 'A' '*' O H' F->'Ƣ'->∀k w,k∈zQ M A8->F[k]?=some 'Q'->O[k]?≠some 'Û':=λO F H' E' an k w hk hw z=>by right
 show#[λi mm O H'=>mm=l.length - i/\i<=l.length/\∃ F n' q xs,EnvR 'A' '*' O H' F/\y8 Pn 'A' n' H'/\I i F n' q/\H' acc=some '+'/\IsL 'î' q xs/\q.length<=i/\zq (zF A H1) 'î'/\zq H1 H'/\'Ƣ',
  #[l.length,'4',aP _,_,m,[],[],E2,P2,i0,zg,A5,aj _,yy (zq.upd B) (Fr.of B),zq.upd B,λk hk=>#[A5,A5]],?_]
 rintro i mm O H' ⟨rfl,a4,F,n',q,xs,E',P',hI,Y,Z,a5,st,s1,an⟩;by_cases a0:i<l.length
 show Or.inr ?_;have al:l[i]?=some l[i]:=am a0;obtain⟨go,yl⟩:=iv.one i l[i] _ H' al st (λ_=>s1) λp hp=>E'.new hp
 show#[go,λas H2=>∃ F n' q xs,EnvR 'A' '*' as H2 F/\y8 Pn 'A' n' H2/\I '(' F n' q/\H2 acc=some '+'/\IsL 'Ć' q xs/\q.length<=i+1/\zq (zF A H1) 'Ć'/\zq H1 H2/\(∀k∈zQ M A8,as[k]?='<'[k]?/\F[k]?='E'[k]?),
  λas H2 h=>#[l.length - '(',by lia,A5,a0,h],λx H2 hy=>?_]
 obtain⟨S2,V2⟩:=yl x H2 hy;show hg.run _ O H2 F x l[i] _ _ (E'.stay 'ą') V2 (it i l[i] F n' q al hI) λad U r3 E3 f3=>?_;have ab:∀k∈zQ M A8,ad[k]?='<'[k]?/\U[k]?='E'[k]?:=λk hk=>'Ǣ';show ht.run _ ad H2 U n' _ _ E3 (P'.same S2) r3 λb m3 H4 r4 g4=>?_;have ac:='ą'.trans g4.st
 cases b with
 | false=>
  rw[if_neg '#'] at r4 ⊢;show#[U,m3,q,xs,E3.stay g4.st,g4.pn,r4,ac.lst Y,Z.stay (zr ac),by lia,st.trans (zr ac),s1.trans ac,ab]
 | true=>
  rw[if_pos rfl] at r4 ⊢;show he.run _ ad H4 U m3 _ _ 'þ' g4.pn r4  ?_;rintro w5 m5 v5 H5 ⟨d,e5,r5⟩ V5 g5 _;subst e5;have ag:=ac.trans g5.st;have E5:='þ'.stay g5.st;have a1:=ag.lst Y;show#[xs,a1,zb3 (by rw[Z.length];lia),U,m5,q++[d],xs++[v5],E5.upd 'F' (key ad U H5 E5 ab) NP.lst A5,g5.pn.upd 'F',r5,zg,?_,'9',?_,?_,ab];rw[zH 'F'];show (Z.stay (zr ag)).append (IsL.one V5.is);rw[zH 'F'];show st.trans (zr ag);show λb o e nn=>by rw[zc (ze e B)];show s1.trans ag b o e nn
 show Or.inl ?_;have a2:i=l.length:=by lia
 subst a2;show#['Ǒ',k _ n' _ H' (ie F n' q hI) (Val.of #[acc,xs,A5,.inl (zv (E1.new B) Y),Z.stay (zq.same (yx λb z=>.inl z))]) 'ȋ' λ_=>#[acc,A5,(Fr.of B).back g1.st,#[_,Y,A5],acc,xs,A5,.inl Y,Z]]]
abbrev zt5:Ev->Mo Bool:=λ_ n Q=>Q true n
def x5:JTs X Pn M [] zt5:=#[_,zgc,#[λA G H D n Q R E P hf k=>k true n H hf 'i']]
def zaZ(h:JT X Pn M c ft):JTs X Pn M [c] ft:=let ⟨t,h1,h2⟩:=h.ex;#[t,zqi h1,h2]
def zas(F:'D')(cc:'k')(hi:JI X Pn M ow tg iter q)(I:'ƻ')(J:'ƹ')(O:∀C s H ex,JE '-' Pn '*' fr' elt B)(U:'É':=by ext)(hs:'w':=by intro _;rfl):JE X Pn M true 'ū' (zr0 q mg ft B A8):=by
 obtain⟨ti,Y,Z⟩:=hi.ex;obtain⟨g,qg,rg⟩:=zgp I;obtain⟨tt,qt,rt⟩:=zgq J;obtain⟨te,qe,re⟩:=zk6 O;show#[_,zhj F cc Y qg qt qe hs,zqm U Z rg rt re]
def At3.step(h:'Ŕ')(g:Go Pn A H m H'):At3 Pn B S M A G H' D m where
 env:=h.env.stay g.st
 frm:=#[h.frm.sub,h.frm.new,λb o e n c=>g.st b o (h.frm.st b o e n c) n,h.frm.al,h.frm.cn,λa z=>let ⟨o,e,n⟩:=h.frm.cs a z;#[o,g.st a o e n,n]]
 pn:=g.pn
 prot:=h.prot.trans (zr g.st)
 fix:=h.fix
 mine:=h.mine
abbrev mRet (f:AD):Ms:=λD n k=>f D n k.rt
def ztj(h:RE Pn M fr te f):RS Pn S M fr (zud te) (mRet f):=#[λB A G H D n k BB a kk hf=>by
 show h.run A G H D n _ _ a.env a.pn hf λw m v H' r q g F=>?_;have I:=a.step g;show kk.rt w m v H' (WAt.up (zq.same (yx a.frm.sub)) (zq.same (yx a.frm.sub)) q) I.frm.st (g.pn.less a.frm.sub) (λz=>by obtain⟨b,e,f1,f2⟩:=F z;show FrV.less #[b,e,a.frm.back f1 (a.env.newF f1),f2] a.frm.sub) r]
def zC (h:'ė'):JS X Pn S M fr (.Return (some e) pos) (mRet f):=let ⟨te,q,r⟩:=h.ex;#[_,u8 q,ztj r]
def zpo (i:Nat):Ms:=λD n k=>∃w,D[i]?=some 'Q'/\k.rt w n
def zqs(hi:i∈M):RS Pn S M fr (zud (zlh i)) (zpo i):=#[by
 rintro B A G H D n k BB a kk ⟨w,e,r⟩;obtain⟨v,s1,_,s3⟩:=a.env.val i w e;obtain⟨ad,rfl,hA,I,U⟩:=s3 hi;have Z:=a.mine i w ad hi e s1
 have J:¬ B.A0 ad:=λz=>by
  rcases Z with Z | Z;obtain⟨o,o1,o2,_⟩:=a.frm.al ad z;show Z o o1 o2;show a.frm.cn ad Z z
 have q:yL '7' (zF B.A0 H):=yx a.frm.sub;have Y:yL '7' (zF (λb=>B.A0 b\/b=ad) H):=yx λb z=>z.elim (a.frm.sub b) λz=>z ▸ hA;show#[.ref ad,s1,kk.rt w n (.ref ad) H ?_ a.frm.st (a.pn.less a.frm.sub) (λz=>#[ad,A5,Z.resolve_right (kk.fc ad),(let ⟨o,o1,_,o3⟩:=a.env.al ad hA;#[o,o1,o3]),WAt.up (zq.refl _) (zq.same Y) I]) r]
 cases w with
 | d x=>
  cases x with
  | lst l=>obtain⟨O,xs,F,g1,g2⟩:=I;cases F;show#[ad,xs,A5,g1.hid J,'Ē']
  | dct=>obtain⟨O,xs,F,g1,g2⟩:=I;cases F;show#[ad,xs,A5,zv J g1,g2]
  | _=>cases U
 | pen p=>cases U
 | dk A7=>obtain⟨O,xs,F,g1,g2,g3⟩:=I;cases F;show#[ad,xs,A5,zv J g1,'Ē',g3]
 | dt A7=>obtain⟨O,xs,F,g1,g2⟩:=I;cases F;show#[ad,xs,A5,zv J g1,'Ē']
 | dn fz A7=>obtain⟨O,xs,F,g1,g2,g3⟩:=I;cases F;show#[ad,xs,A5,g1.imp λo _ e=>zv J e,'Ē',g3.stay (zq.same q)]
 | wd d fs kn=>cases U
 | lf ls=>cases U
 | cu k=>cases U
 | ss P w A7=>obtain⟨O,xs,F,g1,g2⟩:=I;cases F;show#[ad,xs,A5,zv J g1,'Ē']
 | kf A7=>obtain⟨O,ob,xs,F,g1,g2⟩:=I;cases F;show#[ad,ob,xs,A5,zv J g1,'Ē']
 | ad a x=>cases U
 | tz A7 x=>cases U
 | fl A7=>obtain⟨O,ob,xs,F,g1,g2⟩:=I;cases F;show#[ad,ob,xs,A5,zv J g1,'Ē']
 | df A7=>obtain⟨O,ob,xs,F,g1,g2⟩:=I;cases F;show#[ad,ob,xs,A5,zv J g1,'Ē']]
def zo6 (i:Nat){x:Str}(hi:i∈M:=by ext)(B:'_':=by rfl)(F:'Ì':=by fail"v")(I:Ah x:=by ext)
  (q:'Å':=by ext) {pos':Pos}:JS X Pn S M fr (.Return (some 'u') pos') (zpo i):=#[_,u8 (qv i B F I q),zqs hi]
abbrev zph (f:AD) (mg:'U'):Ms:=λD n k=>f D n λw m=>mg w D λq=>k.nx q m
def EnvR.mineG(a:'Ŕ')(E:EnvR A M q H F)(f:∀i∈S++M,q[i]?=G[i]?/\F[i]?=D[i]?):At3 Pn B S M A q H F n where
 env:=E
 frm:=a.frm
 pn:=a.pn
 prot:=a.prot
 fix:=#[λi hi=>(f i (aC.mpr (.inl hi))).1.trans (a.fix.1 i hi),a.fix.2]
 mine:=λi w I hi e s=>by obtain⟨f1,f2⟩:=f i (aC.mpr (.inr hi));rw[f1] at s;rw[f2] at e;show a.mine i w I hi e s
def zkJ(h:RE Pn M fr' te f)(J:RG (S++M) M g mg):RS Pn S M fr (zie te g) (zph f mg):=#[λB A G H D n k BB a kk hf=>by show h.run A G H D n _ _ a.env a.pn hf λw m v H' r O g' _=>?_;have I:=a.step g';show J.run A G H' D v w _ _ I.env O r λq F U E2 f2=>kk.nx A q H' F m (EnvR.mineG I E2 f2) U]
def zO {i:Nat}{x:Str}{pos':Pos}(I:'«')(J:'ĳ')(hi:'_':=by rfl)(O:'æ':=by first | show Or.inl A5 | show Or.inr A5)(B:i∉M:=by ext)(F:i∉S++M:=by ext)(hs:'Ɨ':=by rfl)(hf:'Þ':=by fail"l") :
  JS X Pn S M fr 'Ǆ' (zph f (gN i)):=let ⟨te,q,r⟩:=J.ex;#[_,xH I hi O q hs hf,zkJ r (zgf B F)]
def zo7{st:Stmt}(h:∃te,QS X st (zie te (zbD i))/\RE Pn M true te f)(B:i∉M:=by ext)(F:i∉S++M:=by ext):JS X Pn S M fr st (zph f (gN i)):=let ⟨te,q,r⟩:=h;#[_,q,zkJ r (zgf B F)]
def zjw(B:'ĳ')(F:JG X (S++M) M tg mg)(hs:'Ǹ':=by rfl)(I:'Ȑ':=by rfl)(h1:'ǭ':=by rfl):JS X Pn S M fr (.Assign [tg] e pos) (zph f mg):=let ⟨te,q,r⟩:=B.ex;let ⟨g,q2,r2⟩:=F.ex;#[_,zs3 q q2 hs I h1,zkJ r r2]
def zt4 (i:Nat)(f:AD):Ms:=λD n k=>f D n λw m=>w.mut=true/\k.nx (D.set i 'Q') m
def zpr(h:WAt T BA w v)(hm:w.mut=true)(hk:∀a o,v = .ref a->T a=some o->Mt o):∃a o,v = .ref a/\T a=some o/\NP o/\Mt o:=by
 cases w with
 | d x=>
  cases x with
  | lst l=>
   obtain⟨a,xs,e,g1,_⟩:=h;rcases g1 with g1 | ⟨o,g1⟩;show#[a,_,e,g1,NP.lst,A5];cases hk a _ e g1
  | dct=>obtain⟨a,xs,e,g1,g2⟩:=h;show#[a,_,e,g1,λk z=>by cases z;subst g2;rfl,A5]
  | _=>cases hm
 | pen p=>cases hm
 | dk A7=>obtain⟨a,xs,e,g1,_,g3⟩:=h;show#[a,_,e,g1,λk z=>by cases z;show g3,A5]
 | dt A7=>obtain⟨a,xs,e,g1,_⟩:=h;show#[a,_,e,g1,(λk z=>by cases z),A5]
 | ss P w A7=>obtain⟨a,xs,e,g1,_⟩:=h;show#[a,_,e,g1,zg8,A5]
 | dn fz A7=>
  obtain⟨a,ks,e,g1,_⟩:=h;rcases g1.rd with g1 | ⟨o,g1⟩;show#[a,_,e,g1,zmj,A5];cases hk a _ e g1
 | wd d fs kn=>cases hm
 | lf ls=>cases hm
 | cu k=>cases hm
 | df A7=>cases hm
 | kf A7=>cases hm
 | ad a x=>cases hm
 | tz A7 x=>cases hm
 | fl A7=>cases hm
def zti(h:RE Pn M true te f)(hi:i∈M)(hs:i∉S):RS Pn S M fr (zie te (zbD i)) (zt4 i f):=#[λB A G H D n k BB a kk hf=>by
 show h.run A G H D n _ _ a.env a.pn hf  ?_;rintro w m v H' ⟨hm,r⟩ hv g' ac;obtain⟨Z,rfl,U,⟨o',ag,an⟩,hb⟩:=ac A5;obtain⟨a2,o,Y,ho,np,nt⟩:=zpr hb hm λb u e z=>by cases e;rw[ag] at z;cases z;show an
 cases Y;have E1:=a.env.more g'.st U ho np nt;have ab:¬ A Z:=a.env.newF U;show kk.nx (λb=>A b\/b=Z) _ H' _ m #[#[?_,?_,?_,E1.al],#[λb z=>.inl (a.frm.sub b z),λb z=>?_,λb o e n c=>g'.st b o (a.frm.st b o e n c) n,a.frm.al,a.frm.cn,λb z=>let ⟨o,e,n⟩:=a.frm.cs b z;#[o,g'.st b o e n,n]],a.pn.grow' g'.pn U ho np nt,a.prot.trans (yy g'.st U),#[λj I=>?_,a.fix.2],λj u b I e s=>?_] r;rw[cg,cg];show a.env.len;intro j u e;by_cases I:j=i;subst I
 have J:j<D.length:=by
  have:=(ai.mp e).1;right
 rw[ba J] at e;cases e;show#[.ref Z,ba (by rw[a.env.len];show J),λz=>absurd hi z,λ_=>#[Z,A5,.inr A5,hb,hm]];rw[aH (Ne.symm I)] at e ⊢;show E1.val j u e;intro j l u u' b I J O e1 Y s1 s2
 have as:∀q u,q∈M->q≠i->D[q]?=some (some u)->G[q]?≠some (some (.ref Z)):=λq u hq a3 eq sq=>by
  obtain⟨v,s,_,s3⟩:=a.env.val q u eq;obtain⟨c,ec,hc,_⟩:=s3 hq;right
 have a0:∀q (u:W),(D.set i 'Q')[q]?=some (some u)->q<G.length:=λq u e=>by have:=(ai.mp e).1;rw[cg] at this;rw[a.env.len];show this
 by_cases F:j=i;subst F;rw[ba (a0 _ _ e1)] at s1;cases s1;rw[aH O] at Y s2;show as l u' J (Ne.symm O) Y s2;rw[aH (Ne.symm F)] at e1 s1;by_cases a1:l=i;right;rw[aH (Ne.symm a1)] at Y s2;show a.env.dis j l u u' b I J O e1 Y s1 s2;rcases z with z | z;show a.frm.new b z;subst z;show .inr (.inl (a.frm.back U ab));rw[aH λ(z:i=j)=>hs (by rw[z];show I)];show a.fix.1 j I;by_cases F:j=i;subst F
 have J:j<G.length:=by
  have:=(ai.mp s).1;right
 rw[ba J] at s;cases s;show .inl (a.frm.back U ab);rw[aH (Ne.symm F)] at e s;show a.mine j u b I e s]
def zcZ {i:Nat}{x:Str}{pos':Pos}(I:'«')(J:JE X Pn M true e f)(hi:'_':=by rfl)(O:'æ':=by first | show Or.inl A5 | show Or.inr A5)(B:i∈M:=by ext)(F:i∉S:=by ext)(hs:'Ɨ':=by rfl)(hf:'Þ':=by fail"l") :
  JS X Pn S M fr 'Ǆ' (zt4 i f):=let ⟨te,q,r⟩:=J.ex;#[_,xH I hi O q hs hf,zti r B F]
variable {st:Stmt}{A9:List Stmt}{fs gs:Ms}
abbrev mNx:Ms:=λD n k=>k.nx D n
structure blk (g:Ms)(D:Ev)(n:Nat)(k:Kt):Prop where
 go:g D n k
def zrb(h:g D n k):blk g D n k:=#[h]
abbrev mSeq (f g:Ms):Ms:=λD n k=>f D n { k with nx:=λq B=>blk g q B k }
def zvd (t:'O')(f g:Ms):Ms:=λD n k=>t D n λc m=>if c=true then blk f D m k else blk g D m k
def zS:JSs X Pn S M fr [] mNx:=#[_,zch,#[λB A G H D n k BB a kk hf=>kk.nx A G H D n a hf]]
def ztk(h1:RS Pn S M fr t fs)(h2:RS Pn S M fr u gs):RS Pn S M fr (zv0 t u) (mSeq fs gs):=#[λB A G H D n k BB a kk hf=>
 h1.run B A G H D n { k with nx:=λq F=>blk gs q F k } _ a #[λA' I H' q F J r=>h2.run B A' I H' q F k BB J kk r.go,kk.bk,kk.ct,kk.fc,kk.rt] hf]
def zf (h1:JS X Pn S M fr st fs)(h2:JSs X Pn S M fr A9 gs):JSs X Pn S M fr (st::A9) (mSeq fs gs):=let ⟨t,q,r⟩:=h1.ex;let ⟨u,q2,r2⟩:=h2.ex;#[_,zD q q2,ztk r r2]
def zh (h1:JS X Pn S M fr st fs):JSs X Pn S M fr [st] fs:=let ⟨t,q,r⟩:=h1.ex;#[_,yQ q,r]
def xz(F:JT X Pn M c t)(I:JSs X Pn S M fr body fs)(J:JSs X Pn S M fr q gs):JS X Pn S M fr (.If c body q pos) (zvd t fs gs):=by
 obtain⟨tc,O,U⟩:=F.ex;obtain⟨ta,Y,ra⟩:=I.ex;obtain⟨tb,Z,rb⟩:=J.ex;show#[_,zhW O Y Z,#[λB A G H D n k BB a kk hf=>?_]];show U.run A G H D n _ _ a.env a.pn hf λc m H1 r g=>?_
 cases c with
 | true=>rw[if_pos rfl] at r ⊢;show ra.run B A G H1 D m k BB (a.step g) kk r.go
 | false=>rw[if_neg '#'] at r ⊢;show rb.run B A G H1 D m k BB (a.step g) kk r.go
abbrev zvb (f:AD):Ms:=λD n k=>f D n λ_ m=>k.nx D m
def zo3 (F:'ĳ')(hs:'ȁ':=by rfl):JS X Pn S M fr (.Expr e pos) (zvb f):=by obtain⟨te,q,r⟩:=F.ex;show#[_,zdV q hs,#[λB A G H D n k BB a kk hf=>r.run A G H D n _ _ a.env a.pn hf λw m v H' I _ g _=>kk.nx A G H' D m (a.step g) I]]
def At3.wr(h:'Ŕ')(hi:i∈M)(e:D[i]?=some 'Q')(s:G[i]?=some (some (.ref ad)))(hl:IsL '7' l xs):At3 Pn B S M A G (L2.upd H ad '+') (D.set i 'Õ') n:=by
 obtain⟨v,s1,_,s3⟩:=h.env.val i w e;rw[s] at s1;cases s1;obtain⟨U,F,hA,_,_⟩:=s3 hi;cases F;have ab:i<D.length:=(ai.mp e).1
 have hE:EnvR A M G (L2.upd H ad '+') (D.set i 'Õ'):=by
  show#[by rw[cg];show h.env.len,λj u Y=>?_,λj q u u' b Z hq I e1 F=>?_,λb hb=>?_];by_cases Z:j=i;subst Z;rw[ba ab] at Y;cases Y;show#[.ref ad,s,λz=>absurd hi z,λ_=>#[ad,A5,hA,#[ad,xs,A5,.inl zg,by rw[zH hA];show hl],A5]];rw[aH (Ne.symm Z)] at Y;obtain⟨v,t1,t2,t3⟩:=h.env.val j u Y;show#[v,t1,λz=>?_,λz=>?_];change WAt _ _ _ _;rw[zH hA];show t2 z;obtain⟨b,rfl,hb,J,hm⟩:=t3 z;have I:b≠ad:=λq=>h.env.dis i j w u ad hi z (Ne.symm Z) e Y s (by rw[t1,q]);show#[b,A5,hb,?_,hm];change WAt _ _ _ _;rw[zH hA]
  cases u with
  | d x=>
   cases x with
   | lst l=>obtain⟨U,xs,F,g1,g2⟩:=J;cases F;show#[b,xs,A5,by unfold Rd;rw[zc I];show g1,g2]
   | dct=>obtain⟨U,xs,F,g1,g2⟩:=J;cases F;show#[b,xs,A5,'û',g2]
   | _=>cases hm
  | pen p=>cases hm
  | dk k=>obtain⟨U,xs,F,g1,g2⟩:=J;cases F;show#[b,xs,A5,'û',g2]
  | dt k=>obtain⟨U,xs,F,g1,g2⟩:=J;cases F;show#[b,xs,A5,'û',g2]
  | dn fz k=>obtain⟨U,xs,F,g1,g2⟩:=J;cases F;show#[b,xs,A5,g1.imp λo _ e=>by rw[zc I];show e,g2]
  | wd d fs kn=>cases hm
  | lf ls=>cases hm
  | cu k=>cases hm
  | ss P w k=>obtain⟨U,xs,F,g1,g2⟩:=J;cases F;show#[b,xs,A5,'û',g2]
  | df k=>obtain⟨U,ob,xs,F,g1,g2⟩:=J;cases F;show 'ŗ'
  | kf k=>obtain⟨U,ob,xs,F,g1,g2⟩:=J;cases F;show 'ŗ'
  | ad a x=>cases hm
  | tz A7 x=>cases hm
  | fl k=>obtain⟨U,ob,xs,F,g1,g2⟩:=J;cases F;show 'ŗ'
  have ac:∀q (u:W),(D.set i 'Õ')[q]?=some (some u)->∃u',D[q]?=some (some u'):=λq u z=>by
   by_cases hq:q=i;subst hq;show#[w,e];rw[aH (Ne.symm hq)] at z;show#[u,z]
  obtain⟨v1,f1⟩:=ac j u e1;obtain⟨v2,f2⟩:=ac q u' F;show h.env.dis j q v1 v2 b Z hq I f1 f2;by_cases O:b=ad;subst O;show#[_,zg,NP.lst,A5];rw[zc O];show h.env.al b hb
 show#[hE,#[h.frm.sub,h.frm.new,λb o eb nn nc=>?_,h.frm.al,h.frm.cn,λb z=>(by
  by_cases O:b=ad;subst O;show#[_,zg,NP.lst];rw[zc O];show h.frm.cs b z)],h.pn.upd hA,by rw[zH hA];show h.prot,h.fix,λj u b Z Y sj=>?_]
 have I:b≠ad:=λq=>by
  subst q;rcases h.mine i w b hi e s with z | z;show z o eb nn;show nc z
 rw[zc I];show h.frm.st b o eb nn nc;by_cases ag:j=i;subst ag;show h.mine j w b Z e sj;rw[aH (Ne.symm ag)] at Y;show h.mine j u b Z Y sj
def zt2 (i:Nat)(f:AD):Ms:=λD n k=>(∃l,D[i]?=some 'Õ')/\f D n λw m=>∃l d,D[i]?=some 'Õ'/\w = .d d/\l.length<lim/\k.nx (D.set i (some (.d (.lst (l++[d]))))) m
def ztg(h:RE Pn M fr' te f)(hi:i∈M):RS Pn S M fr (zqE (tBM K "list" zgd (zlh i) (zfd te zqF))) (zt2 i f):=#[by
 rintro B A G H D n k BB a kk ⟨⟨l0,U⟩,hf⟩;obtain⟨v,q,_,Y⟩:=a.env.val i _ U;obtain⟨J,rfl,Z,hb,_⟩:=Y hi;obtain⟨a2,ab,e2,g0,_⟩:=hb;cases e2;show#[.ref J,q,.inl #[A5,_,.inl g0],?_];show h.run A G H D n _ _ a.env a.pn hf  ?_;rintro w m v H' ⟨l,d,e,ed,hz,r⟩ hv g _;subst ed;have F:=a.step g;obtain⟨v2,t1,_,t3⟩:=F.env.val i _ e;rw[q] at t1;cases t1;obtain⟨a3,e3,ac,I,_⟩:=t3 hi;cases e3;obtain⟨a4,xs,e4,g4,O⟩:=I;cases e4;show#[J,xs,v,A5,A5,g4.own F.env.al Z,zb3 (by rw[O.length];show dq hz),kk.nx A G _ _ m (F.wr hi e q (O.append (IsL.one hv.is))) r]]
def zjv (i:Nat){x:Str}{ap cp sp np:Pos}(Y:'ĳ')(hi:i∈M:=by ext)(Z:'_':=by rfl)(hv:'Ì':=by fail"v")(hd:Ah x:=by ext)
  (U:'Å':=by ext) (J:'Ǻ':=by rfl) (hs:swapsWith (.Call (.Attribute 'n' "append" ap) [e] [] cp) none sp.line X.env=pure false:=by rfl) (F:attributeBase 'n' "append" X.env (eval 'n' X.env)=eval 'n' X.env:=by rfl) (I:(ap.endLine==cp.line)=true:=by rfl)
  (O:'ȓ':=by rfl) (B:(backTo cp 'Ī').any '%'=false:=by rfl) :
  JS X Pn S M fr (.Expr (.Call (.Attribute 'n' "append" ap) [e] [] cp) sp) (zt2 i f):=by
 obtain⟨te,q,r⟩:=Y.ex;show#[_,zdV (zsU (qv i Z hv hd U) (zB q yu J) F O I J B) hs,ztg r hi]
def zoF (mg:'U')(fb:Ms)(D:Ev)(k:Kt):AU->Nat->Prop:=λl n1=>∃I:Nat->Ev->Nat->Prop,I 0 D n1/\
 (∀i w q B,l[i]?=some w->I i q B->mg w q λF=>fb F B 'ȉ')/\∀ q B,I l.length q B->k.nx q B
abbrev mFor (q:AC) (mg:'U') (fb:Ms):Ms:=λD n k=>q D n (zoF mg fb D k)
def zlH{B:Bs}{A:AL}{G:St}{H1:Hp}{D:Ev}{k:Kt}{BB:Ends}{J:It}{l:AU}{g:TG}{tb:TS}{mg:W->Ev->'>'->Prop}{fb:Ms}(hg:RG (S++M) M g mg)(hb:RS Pn S M fr tb fb)(hS:9999∉S)(a1:At3 Pn B S M A G H1 D m)(kk:KOk Pn B S M fr k BB)(iv:ItV false A H1 J l)(hf:zoF mg fb D k l m) :
  ∃W:Nat->Nat->St->Hp->Prop,(∃m,W 0 m G H1)/\∀i m G H,W i m G H->(J.stop i H/\BB.nx G H)\/(J.go i H/\∃N:St->Hp->Prop,(∀ O H',N O H'->∃m',m'<m/\W '(' m' O H')/\∀x H',J.yld i H x H'->g x G H' λZ H2=>tb 'Ƽ' Z H2):=by
 obtain⟨I,i0,it,ie⟩:=hf;have out:∀ {A':AL} {O:St} {H':Hp} {F:Ev} {U:Nat},At3 Pn { B with G0:=zF A H1 } S M A' O H' F U->At3 Pn B S M A' O H' F U:=λ{A' O H' F U} q=>#[q.env,q.frm,q.pn,a1.prot.trans q.prot,#[q.fix.1,a1.fix.2],q.mine];show#[λi mm O H'=>mm=l.length - i/\i<=l.length/\∃A' F U,At3 Pn { B with G0:=zF A H1 } S M A' O H' F U/\I i F U,#[l.length,'4',aP _,A,D,m,#[a1.env,a1.frm,a1.pn,zq.refl _,#[a1.fix.1,λz=>absurd z hS],a1.mine],i0],?_];rintro i mm O H' ⟨rfl,as,A',F,U,a',hI⟩;by_cases ad:i<l.length
 show Or.inr ?_;have ab:l[i]?=some l[i]:=am ad;obtain⟨go,yl⟩:=iv.one i l[i] A' H' ab a'.prot (λz=>by cases z) λp hp=>a'.env.new hp;show#[go,λZ H2=>∃A' F U,At3 Pn { B with G0:=zF A H1 } S M A' Z H2 F U/\I '(' F U,λZ H2 h=>#[l.length - '(',by lia,A5,ad,h],λx H2 hy=>?_];obtain⟨S2,V2⟩:=yl x H2 hy;have a2:=a'.step (Go.same a'.pn S2);show hg.run A' O H2 F x l[i] _ _ a2.env V2 (it i l[i] F U ab hI) λag al r3 E3 f3=>?_;show hb.run { B with G0:=zF A H1 } A' ag H2 al U _ _ (EnvR.mineG a2 E3 f3) #[?_,?_,?_,kk.fc,?_] r3
 show λA4 ac H4 Y n4 a4 r4=>#[A4,Y,n4,a4,r4];show λA4 ac H4 Y n4 a4 r4=>kk.nx A4 ac H4 Y n4 (out a4) r4;show λA4 ac H4 Y n4 a4 r4=>#[A4,Y,n4,a4,r4];show kk.rt;show Or.inl ?_;have an:i=l.length:=by lia
 subst an;show#[iv.stop A' H' a'.prot (λz=>by cases z),kk.nx A' O H' F U (out a') (ie F U hI)]
def zth {wi:TI}{g:TG}{tb:TS}{q:AC}{mg:W->Ev->'>'->Prop}{fb:Ms}(hi:RI Pn M false wi q)(F:RG (S++M) M g mg)(I:RS Pn S M fr tb fb)(O:9999∉S):RS Pn S M fr (zvV wi g tb) (mFor q mg fb):=#[λB A G H D n k BB a kk hf=>hi.run A G H D n _ _ a.env a.pn hf λl m J H1 U Y g1=>zlH F I O (a.step g1) kk Y U]
def xf {tg iter:Expr}{body:List Stmt}{q:AC}{mg:W->Ev->'>'->Prop}{fb:Ms}(hp:PassesOwn 'N' X.A X.env X.xe)(B:'D')(hi:JI X Pn M false tg iter q)(F:JG X (S++M) M tg mg)(I:JSs X Pn S M fr body fb)(hs:'w':=by intro _;rfl)(J:9999∉S:=by ext) :
  JS X Pn S M fr (.For tg iter body [] pos) (mFor q mg fb):=by
 obtain⟨ti,O,U⟩:=hi.ex;obtain⟨Y,Z,rg⟩:=F.ex;obtain⟨tb,qb,rb⟩:=I.ex;show#[_,zkq hp B O Z qb hs,zth U rg rb J]
def uP (N:AM)(q:AU):Ev:=q.map some++List.replicate (N.length - q.length) none
theorem zaR.get:∀ {q:AU} {vs:AT} {i:Nat} {w:W},zaR A H q vs->q[i]?=some w->∃v,vs[i]?=some v/\Val A H w v
 | [],_,_,_,_,e=>by simp at e
 | x::q,vs,0,w,⟨v,r,B,h1,_⟩,e=>by right
 | x::q,vs,i+1,w,⟨v,r,B,_,h2⟩,e=>by
  subst B;obtain⟨u,F,I⟩:=zaR.get (i:=i) h2 'ĭ';right
def zet {A:AL}{H:Hp}{N:AM}{ws:AU}{vs:AT}(al:Al A H)(h:zaR A H ws vs)(hM:∀i∈M,ws.length<=i):EnvR A M (L2.yT N vs) H (uP N ws) where
 len:=by unfold L2.yT uP;rw[ay,ay,ae,ae,List.length_replicate,List.length_replicate,h.len]
 val:=λi w e=>by
  unfold uP at e
  have hi:i<ws.length:=by
   apply cN;intro z;rw[bp 'I'] at e;obtain⟨_,q⟩:=ai.mp e;right
  rw[bD 'I',aF] at e;obtain⟨w',e1,e2⟩:=aI.mp e;cases e2;obtain⟨v,h1,h2⟩:=h.get e1;show#[v,?_,λ_=>h2,λz=>absurd (hM i z) '!'];unfold L2.yT;have hi':i<vs.length:=by rw[h.len];show hi
  rw[bD 'I',aF,h1];rfl
 dis:=λi j w u ad hi hj hne e1=>by
  unfold uP at e1;have:=hM i hi;rw[bp 'I'] at e1;obtain⟨_,q⟩:=ai.mp e1;right
 al:=al
def zr8{P:Aa}{w:Ab}{K:AH}{mg:AI}{base:Heap}{qual:Str}{f:Addr}{fd:Ac}{N ps:AM}{F:PN->AU->Mo W}(M:AR)(Y:(∀vs H Q E,spV m fr F vs H Q E->vs.length=ps.length)->(∀ (B:Value) (A:Ae) (outer:'[') (s:AZ) (H:Hp) (vs:AT) (Q:VK) (E:XK),Room k 'ł'->spV m fr F vs H Q E->
   ∃t,QSs 'Ó'.nox 'y' t/\t { nx:=λ_ H'=>Q .non H',rt:=Q } (L2.yT N vs) H)->FnOk P w K mg base CX0 (k+1) f fd ps (spV m fr F))(hm:m=ps.length)(hM:∀i∈M,m<=i)(I:∀ (B:Value) (A:Ae) (outer:'[') (s:AZ) (H:Hp) (E:XK) (Pn:PN),Room k 'ł'->
   ∃fs,JSs 'Ó'.nox Pn [] M fr 'y' fs/\∀J n R,J.length=m->F Pn J n R->fs (uP N J) n { nx:=λ_ U=>fr=false/\R (.d .non) U,rt:=R }):FnOk P w K mg base CX0 (k+1) f fd ps (spV m fr F):=by
 show Y 'Ĭ' (λB A outer s H vs Q E hr h=>?_);obtain⟨Pn,A,J,n,R,_,Z,hl,_⟩:=h;rw[Z.len,hl,hm];obtain⟨Pn,A3,J,n,R,al,Z,hl,hp,hF,q⟩:=h;obtain⟨fs,⟨t,qs,rs⟩,ab⟩:=I B A outer s H E Pn hr;show#[t,qs,rs.run { A0:=A3,H0:=H,G0:=zF A3 H,σ0:=L2.yT N vs } A3 (L2.yT N vs) H (uP N J) n _ _ #[zet al Z (λi hi=>by right),#[λ_ z=>z,λ_ z=>.inl z,.of (zq.refl _),al,λ_ z=>z.elim,λ_ z=>z.elim],hp,zq.refl _,#[λi hi=>rfl,λz=>by cases z],λi w a hi e=>?_] #[?_,?_,?_,λ_ z=>z,?_] (ab J n R hl hF)];show absurd e (by unfold uP;have:=hM i hi;rw[bp 'I'];intro z;obtain⟨_,q⟩:=ai.mp z;rw[List.getElem_replicate] at q;cases q);intro A' ad H' ag U a' ⟨O,r⟩;show q _ U .non H' r (Val.of (show Is _ .non .non from rfl)) #[a'.frm.st.stay,a'.pn.less a'.frm.sub] λz=>by rw[O] at z;cases z
 right;right;intro w U v H' ac st pn O r;show q w U v H' r ac #[st.stay,pn] O
end
section
variable {X:Cx}{Pn:PN}{M S:AR}{fr fr':Bool}{e a b c:Expr}{es:AO}{f fa fb fc:AD}{pos p p2:Pos}
def zma (B:Dt->Bool)(f:AD):AD:=λD n Q=>f D n λw m=>∃d,w = .d d/\Q (.d (.bl (B d))) m
def zkz(q:∀d:Dt,PySem.W.kitOne K (.type d.ty) '¼'=some (B d))(h:RB Pn M te f):RE Pn M false (tCB (λxs H Q=>∃x T t b,xs=[x,.ty T]/\TyOf K H x t/\PySem.W.kitOne K t '¼'=some b/\Q (.bl b) H) (zfd te (zfd (tC (.ty T)) zqF))) (zma B f):=#[λA G H D n Q R E P hf k=>by show h.run A G H D n _ _ E P hf  ?_;rintro w m v H' ⟨d,e,r⟩ F g;subst e;show#[v,T,_,_,A5,F.is.ty,q d,k _ m _ H' r '¹' g λz=>by cases z]]
abbrev zlP:Dt->Bool
 | .str _=>true
 | _=>false
abbrev isDct:Dt->Bool
 | .dct=>true
 | _=>false
def zpb (K:AH)(d:Dt):PySem.W.kitOne K (.type d.ty) (.type "str")=some (zlP d):=by cases d <;> rfl
def zlV(Y:∀d:Dt,PySem.W.kitOne X.K (.type d.ty) '¼'=some (B d))(Z:bootBuiltins x=some '¼')(I:Gl X x)(hn:'ç')(hd:(x==("__debug__" : Str))=false)(hg:'Ĵ')(hm:'ĥ')(J:'ñ')(h:'Ð')(F:starEach (e::[.Name x p2]) X.env='à'::starEach [.Name x p2] X.env)(O:starEach (.Name x p2::[]) X.env=(false,eval (.Name x p2) X.env)::starEach [] X.env)(U:(backTo pos (starEach [.Name x p2] X.env)).any '%'=false):JE X Pn M false (.Call 'Œ' [e,.Name x p2] [] pos) (zma B f):=by
 obtain⟨te,q,r⟩:=h.ex;show#[_,yr ziC hg hm cr (zB q (zB (zdR (v:=.ty T) I J Z A5 hn hd) yu O) F) '#' '#' F U,zkz Y r]
def yz (O:'Ĵ')(U:'ĥ')(q:X.mg "tuple" = none)(h:'Ð')(B:Gl X "tuple" := by rfl)(F:starEach (e::[.Name "tuple" p2]) X.env='à'::starEach [.Name "tuple" p2] X.env:=by rfl)(I:starEach (.Name "tuple" p2::[]) X.env=(false,eval (.Name "tuple" p2) X.env)::starEach [] X.env:=by rfl)(J:(backTo pos (starEach [.Name "tuple" p2] X.env)).any '%'=false:=by rfl) :
  JE X Pn M false (.Call 'Œ' [e,.Name "tuple" p2] [] pos) (zma Dt.isTup f):=zlV (zpc _) bC B '#' '#' O U q h F I J
def zeF (O:'Ĵ')(U:'ĥ')(q:X.mg "int" = none)(h:'Ð')(B:Gl X "int" := by rfl)(F:starEach (e::[.Name "int" p2]) X.env='à'::starEach [.Name "int" p2] X.env:=by rfl)(I:starEach (.Name "int" p2::[]) X.env=(false,eval (.Name "int" p2) X.env)::starEach [] X.env:=by rfl)(J:(backTo pos (starEach [.Name "int" p2] X.env)).any '%'=false:=by rfl) :
  JE X Pn M false (.Call 'Œ' [e,.Name "int" p2] [] pos) (zma Dt.isInt f):=zlV (zpa _) PyProof.Rows.boot_int B '#' '#' O U q h F I J
def yH (O:'Ĵ')(U:'ĥ')(q:X.mg "bool" = none)(h:'Ð')(B:Gl X "bool" := by rfl)(F:starEach (e::[.Name "bool" p2]) X.env='à'::starEach [.Name "bool" p2] X.env:=by rfl)(I:starEach (.Name "bool" p2::[]) X.env=(false,eval (.Name "bool" p2) X.env)::starEach [] X.env:=by rfl)(J:(backTo pos (starEach [.Name "bool" p2] X.env)).any '%'=false:=by rfl) :
  JE X Pn M false (.Call 'Œ' [e,.Name "bool" p2] [] pos) (zma Dt.isBl f):=zlV (zrT _) PyProof.Rows.boot_bool B '#' '#' O U q h F I J
def zbf (O:'Ĵ')(U:'ĥ')(q:X.mg "str" = none)(h:'Ð')(B:Gl X "str" := by rfl)(F:starEach (e::[.Name "str" p2]) X.env='à'::starEach [.Name "str" p2] X.env:=by rfl)(I:starEach (.Name "str" p2::[]) X.env=(false,eval (.Name "str" p2) X.env)::starEach [] X.env:=by rfl)(J:(backTo pos (starEach [.Name "str" p2] X.env)).any '%'=false:=by rfl) :
  JE X Pn M false (.Call 'Œ' [e,.Name "str" p2] [] pos) (zma zlP f):=zlV (zpb _) PyProof.Rows.boot_str B '#' '#' O U q h F I J
def zmZ (n:Nat):AS:='Ç'.map λi:Nat=>Dt.int i
def zjl(n:Nat):IsL BA (zmZ n) 'Ų':=by
 have q:zmZ n=(('Ç'.map λi:Nat=>(i:Int))).map Dt.int:=by unfold zmZ;rw[aK];rfl
 have B:'Ų'=(('Ç'.map λi:Nat=>(i:Int))).map V.int:=by rw[aK];rfl
 rw[q,B];show IsL.ints
def zdC (fa:AC):AD:=λD n Q=>fa D n λq m=>∃j:Nat,q=[.d (.int (j:Int))]/\j<=1000/\Q (.d (.lst (zmZ j))) m
def zjq{q:Pos}{J:Pos}(hm:X.mg "list" = none)(O:X.mg "range" = none)(ha:JAB X Pn M [a] fs)(hc:'D':=by rfl)(hg:Gl X "list" := by rfl)(U:Gl X "range" := by rfl)(hs:starEach (a::[]) X.env='Ȗ'::starEach [] X.env:=by rfl)(F:starEach (.Call (.Name "range" J) [a] [] q::[]) X.env=(false,eval (.Call (.Name "range" J) [a] [] q) X.env)::starEach [] X.env:=by rfl)(Y:(backTo q 'Ī').any '%'=false:=by rfl)(Z:(backTo pos 'Ī').any '%'=false:=by rfl):JE X Pn M true (.Call (.Name "list" p) [.Call (.Name "range" J) [a] [] q] [] pos) (zdC fs):=by
 obtain⟨ta,qa,ra⟩:=ha.ex;show#[_,zcf (zfw hc) hg hm PyProof.Rows.boot_list (zB (zcf zlv U O PyProof.Rows.boot_range qa '#' '#' hs Y) yu F) '#' '#' F Z,'b'];show ra.run A G H D n _ _ E P hf  ?_;rintro ws m vs H1 ⟨j,e,hj,r⟩ bb g;subst e;obtain⟨v,rfl,b1⟩:=zfp bb;obtain rfl:=xn b1;show#[_,A5,λp1 H2 np g2 S2=>#[p1,j,A5,g2,hj,λp3 H3 I g3 S3=>?_]];have B:=g.trans (Go.same g.pn S2);show k _ m _ H3 r (zgr (H:=H2) (zjl j) (zq.same S3) ((E.stay B.st).new I) g3) (B.trans (Go.same B.pn S3)) λ_=>(zfF (H:=H2) (zjl j) S3 I g3).back B.st
abbrev truD:W->Option Bool
 | .d (.lst l)=>some (!l.isEmpty)
 | .d (.tup l)=>some (!l.isEmpty)
 | .d (.bl b)=>some b
 | .d (.int i)=>some (i != 0)
 | .d .non=>some false
 | _=>none
def zg5 (F BA:W->W->Mo W)(fa fb fc:AD):AD:=λD n Q=>fa D n λx n1=>fb D n1 λy n2=>F x y n2 λz n3=>∃k,z = .d (.bl k)/\if k=true then fc D n3 λu q=>BA y u q Q else Q (.d (.bl false)) n3
def zmR(Y:F2 Pn false r F)(B:F2 Pn false I BA)(Z:RB Pn M ta fa)(hb:RB Pn M tb fb)(hc:RB Pn M tc fc):RE Pn M false (zkU r I ta tb tc) (zg5 F BA fa fb fc):=#[λA G H D n Q R E P hf k=>by
 show Z.run A G H D n _ _ E P hf λx n1 v1 H1 r1 b1 g1=>?_;show hb.run A G H1 D n1 _ _ 'Ğ' g1.pn r1 λy n2 J H2 r2 O g2=>?_;have g:=g1.trans g2;show Y.run A H2 v1 J x y n2 _ _ '¦'.al (b1.stay g2.st) O g2.pn r2  ?_;rintro w m v H' ⟨c,e,h1⟩ h2 U h4;subst e;have hv:v = .bl c:=h2;show#[c,hv,?_];have g3:=g.trans U
 cases c with
 | false=>rw[if_neg '#'] at h1 ⊢;show k _ m _ H' h1 '¹' g3 λz=>by cases z
 | true=>
  rw[if_pos rfl] at h1 ⊢;show hc.run A G H' D m _ _ (E.stay g3.st) g3.pn h1 λu n4 v4 H4 r4 b4 q=>?_;show B.run A H4 J v4 y u n4 _ _ (E.stay (g3.trans q).st).al (O.stay (U.trans q).st) b4 q.pn r4 λw5 m5 v5 H5 a1 a2 a3 a4=>k w5 m5 v5 H5 a1 a2 ((g3.trans q).trans a3) λz=>by cases z]
def zo0(O:'œ')(B:OpQ X (compareOp q) J)(U:F2 Pn false r F)(I:F2 Pn false J BA)(Y:'ê')(Z:JB X Pn M b fb)(hc:JB X Pn M c fc)(hm:lastMarks [op,q] [b,c]=false:=by with_unfolding_all rfl):JE X Pn M false (.Compare a [op,q] [b,c] pos) (zg5 F BA fa fb fc):=by obtain⟨ta,qa,ra⟩:=Y.ex;obtain⟨tb,qb,rb⟩:=Z.ex;obtain⟨tc,qc,rc⟩:=hc.ex;show#[_,zmJ O B qa qb qc hm,zmR U I ra rb rc]
def At3.own(h:'Ŕ')(hi:i∈M)(e:D[i]?=some 'Õ'):∃q xs,G[i]?=some (some (.ref q))/\A q/\H q=some '+'/\IsL '7' l xs:=by obtain⟨v,I,_,J⟩:=h.env.val i _ e;obtain⟨q,rfl,F,O,_⟩:=J hi;obtain⟨a2,xs,U,Y,Z⟩:=O;cases U;show#[q,xs,I,F,Y.own h.env.al F,Z]
end
section
variable {A:AL}{H:Hp}
def zqO(h:zaR A H [w] vs):∃v,vs=[v]/\Val A H w v:=by obtain⟨v,r,e,h1,h2⟩:=h;cases h2;show#[v,e,h1]
def zwi(h:zaR A H [w,u] vs):∃v y,vs=[v,y]/\Val A H w v/\Val A H u y:=by obtain⟨v,r,e,h1,h2⟩:=h;obtain⟨y,rfl,q⟩:=zqO h2;show#[v,y,e,h1,q]
def zn9{st:AG}(h:Val A H (.d 'T') v):∃a,v = .ref a/\H a=some (.tup 'Ĝ'):=by obtain⟨a,xs,e,h1,h2⟩:=h;obtain rfl:=h2.of_ints;show#[a,e,zw _ _ h1]
end
structure RoomOk (rm:AG):Prop where
 ne:rm≠[]
 few:rm.length<=8
 box:∀r∈rm,2<=r/\r<=4
def RoomOk.pos {rm:AG}(h:RoomOk rm):1<=rm.length:=by
 cases rm with
 | nil=>show absurd A5 h.ne
 | cons _ _=>simp
abbrev FV:=PN->AU->Mo W
def ztQ (k:Nat)(fr:Bool)(F:FV)(sp:Sp):Prop:=∀vs H Q E,spV k fr F vs H Q E->sp vs H Q E
def FnOk.lift(h:FnOk P w K mg base CX j f fd ps sp)(l:ztQ k fr F sp):FnOk P w K mg base CX j f fd ps (spV k fr F):=h.imp l
def zqY:FV:=λPn q n R=>∃p c ns zy,Pn=#['·',J0]/\q=[.pen p,.d (.int zy)]/\n<=1000000/\1<=zy/\zy<1073741824/\∀r,0<=r->r<zy->R (.d (.int r)) (n+1)
abbrev ztO:FV:=λPn B n R=>∃p c ns q,Pn=#['·',J0]/\B=[.pen p,.d (.int q)]/\n+20<=1000000/\4<=q/\q<=256/\∀rm,RoomOk rm->yK rm<=q->R (.d (stD rm)) (n+10)
abbrev znm:FV:=λPn q n R=>∃p c ns rm,Pn=#['·',J0]/\q=[.pen p,'ò']/\n+20<=1000000/\RoomOk rm/\∀st,st.length=rm.length->(∀b:Int,0<=b->b<rm.length->0<=zy st b/\zy st b<zy rm b)->R (.d 'T') (n+10)
abbrev zbY (g:List 'W'):Dt:=.tup (g.map yq)
abbrev zqZ:FV:=λPn F n R=>∃p c ns rm B,Pn=#['·',J0]/\F=[.pen p,'ò',.d (.int B)]/\n+40<=1000000/\RoomOk rm/\∀g,Giv rm g->(∀q∈g,q.1≠B)->g.length<=8->R (.d (zbY g)) (n+30)
abbrev zuh:FV:=λ_ q n R=>∃d,q=[.d d]/\R (.d (.bl d.isWhole)) n
abbrev zug:FV:=λ_ q n R=>∃a b,q=[.d (.bl a),.d (.bl b)]/\R (.d (.bl (a==b))) n
abbrev znn:FV:=λ_ q n R=>∃ns:AG,q=[.d (stD ns)]/\(∀n∈ns,2<=n/\n<=4)/\R (.d (.int (yK ns))) n
def zjK:ztQ 1 false znn zn4:=by rintro vs H Q E ⟨Pn,A,O,n,R,U,B,Y,hp,⟨ns,rfl,h1,F⟩,q⟩;obtain⟨v,rfl,I⟩:=zqO B;obtain⟨a,rfl,J⟩:=zn9 I;show#[a,ns,A5,J,h1,q _ n _ H F '¹' (Go.refl hp) λz=>by cases z]
abbrev zuf:FV:=λ_ B n R=>∃st g,B=[.d 'T',.d (zbY g)]/\(∀q∈g,0<=q.1/\q.1<st.length)/\R (.d (.bl (xt st g))) n
abbrev zbP (A9:AF):Dt:=.lst (A9.map stD)
def zqC{A9:AF}(F:Al A H)(s:yL H H')(n:H a=none)(h:H' a=some (.lst ys))(I:IsL H' (A9.map stD) ys):Val A H' (.d (zbP A9)) 'J'/\FrV A H H' (.d (zbP A9)) 'J':=by
 have q:=F.stay (zq.same s);have B:=zae q.noT (uS A9) I;show#[Val.of #[a,ys,A5,.inl (zv (F.new n) h),B],a,A5,.of n,#[_,h,A5],a,ys,A5,.inl h,zae (λb xs z e=>?_) (uS A9) I];rcases z with z | z;show q.noT b xs z e;grind
abbrev F_all:FV:=λ_ q n R=>∃rm,q=['ò']/\RoomOk rm/\yK rm<=256/\R (.d (zbP 'j')) n
abbrev lsD (c:AG):Dt:=.lst (c.map .int)
abbrev zcP:FV:=λ_ q n R=>∃cs:AF,q=[.d (.lst (cs.map lsD))]/\cs.length<=8/\(∀c∈cs,c.length<=4)/\R (.d (zbP (yg cs))) n
def zl8(s:yL BA H):∀ {cs:AF} {xs:AT},IsL BA (cs.map lsD) xs->zq4 H xs cs:=λ{cs xs} h=>by show#[by rw[h.length,ae],λi c F=>?_];obtain⟨v,h1,h2⟩:=h.getD (i:=i) (d:=lsD c) 'I';obtain⟨a,ys,rfl,q,B⟩:=h2;obtain rfl:=B.of_ints;show#[a,h1,q.same s]
def zdB:ztQ 1 true zcP (zde K):=by rintro vs H Q E ⟨Pn,A,ws,n,R,I,J,hl,hp,⟨cs,rfl,h1,h2,O⟩,q⟩;obtain⟨v,rfl,U⟩:=zqO J;obtain⟨a,xs,rfl,Y,Z⟩:=U;show#[a,xs,cs,A5,Y.sub,zl8 zw Z,h1,h2,λa ys H' na B F S=>?_];obtain⟨z1,z2⟩:=zqC I S na B F;show q _ n _ H' O z1 (Go.same hp S) λ_=>z2
def zix {α:Type}{l:AU}{F:Ev}{n:Nat}{mg:W->Ev->'>'->Prop}{ft:Ev->Mo Bool}{Y:AD}{Q:AV}(xs:List α)(I:α->W)(hl:l=xs.map I)(J:Ev->Prop)(P:α->Bool)(E:α->Dt)(Z:xs.length<=lim)(j0:J F)
  (h:∀a∈xs,∀ B,J B->∀C:Ev->Nat->Option Dt->Prop,(∀ q,J q->C q n (if P a then some (E a) else none))->mg (I a) B λq=>ft q n λb n2=>if b=true then Y q n2 λx n3=>∃d,x = .d d/\C q n3 (some d) else C q n2 none)
  (fin:Q (.d (.lst ((xs.filter P).map E))) n):ziv mg ft Y F Q l n:=by
 subst hl;show#['9',λi B O acc=>J B/\O=n/\acc='á'.map E,#[j0,A5,'4'],?_,?_];rintro i w B O acc hw ⟨hj,rfl,rfl⟩;rw[aF] at hw;obtain⟨a,ha,rfl⟩:=aI.mp hw
 have:=h a (aB ha) B hj (λq n3 o=>match o with
  | some d=>J q/\n3=O/\'á'.map E++[d]='Ō'.map E
  | none=>J q/\n3=O/\'á'.map E='Ō'.map E) (λq U=>by
   rw[zj ha,dE,aO];by_cases hp:P a=true;right;rw[if_neg hp];show#[U,A5,by simp[hp]])
 show this;grind
def zlu {α:Type}{l:AU}{F:Ev}{n:Nat}{mg:W->Ev->'>'->Prop}{Y:AD}{Q:AV}(xs:List α)(I:α->W)(hl:l=xs.map I)(J:Ev->Prop)(E:α->Dt)(Z:xs.length<=lim)(j0:J F)
  (h:∀a∈xs,∀ B,J B->∀C:Ev->Nat->Dt->Prop,(∀ q,J q->C q n (E a))->mg (I a) B λq=>Y q n λx n3=>∃d,x = .d d/\C q n3 d)
  (fin:Q (.d (.lst (xs.map E))) n):ziv mg zt5 Y F Q l n:=by
 subst hl;show#['9',λi B O acc=>J B/\O=n/\acc=(xs.take i).map E,#[j0,A5,'4'],?_,?_];rintro i w B O acc hw ⟨hj,rfl,rfl⟩;rw[aF] at hw;obtain⟨a,ha,rfl⟩:=aI.mp hw;show h a (aB ha) B hj (λq n3 d=>J q/\n3=O/\(xs.take i).map E++[d]='ƺ'.map E) λq U=>#[U,A5,by rw[zj ha,aO];rfl];grind
def zoG(I:Nat->Ev->Nat->Prop)(U:I 0 D n)(h:∀i q B,i<r->I i q B->mg 'ś' q λF=>fb F B 'ȉ')(Y:∀ q B,I r q B->k.nx q B):zoF mg fb D k (zhZ 0 r) n:=by
 show#[I,U,λi w q B J O=>?_,λq B O=>Y q B ?_];unfold zhZ at J;rw[aF] at J;obtain⟨j,h1,rfl⟩:=aI.mp J;obtain⟨hi,h2⟩:=ai.mp h1;rw[fB] at h2;right;unfold zhZ at O;right
def zja{α:Type}(xs:List α)(F:α->W)(Y:l=xs.map F)(I:Nat->Ev->Nat->Prop)(Z:I 0 D n)(h:∀i a q B,xs[i]?=some a->I i q B->mg (F a) q λJ=>fb J B 'ȉ')(hd:∀ q B,I xs.length q B->k.nx q B):zoF mg fb D k l n:=by
 subst Y;show#[I,Z,λi w q B O U=>?_,λq B U=>hd q B 'I'];rw[aF] at O;obtain⟨a,ha,rfl⟩:=aI.mp O;show h i a q B ha U
def zbX(I:Nat->Ev->Nat->Prop)(O:I 0 D n)(h:∀i q F,i<r->I i q F->∀ (C B:Ev->Nat->Prop) (E:AV),(∀ {D m},I '(' D m->C D m)->(∀ {D m},k.nx D m->B D m)->(∀ {w m},k.rt w m->E w m)->mg 'ś' q λJ=>fb J F { rt:=E,nx:=C,ct:=C,bk:=B })(U:∀ q F,I r q F->k.nx q F):zoF mg fb D k (zhZ 0 r) n:=
 zoG I O (λi q F hi Y=>h i q F hi Y (I '(') k.nx k.rt (λz=>z) (λz=>z) λz=>z) U
def xh{α:Type}(xs:List α)(F:α->W)(U:l=xs.map F)(I:Nat->Ev->Nat->Prop)(Y:I 0 D n)(h:∀i a q J,xs[i]?=some a->I i q J->∀ (C B:Ev->Nat->Prop) (E:AV),(∀ {D m},I '(' D m->C D m)->(∀ {D m},k.nx D m->B D m)->(∀ {w m},k.rt w m->E w m)->mg (F a) q λO=>fb O J { rt:=E,nx:=C,ct:=C,bk:=B })(Z:∀ q J,I xs.length q J->k.nx q J):zoF mg fb D k l n:=
 zja xs F U I Y (λi a q J ha hI=>h i a q J ha hI (I '(') k.nx k.rt (λz=>z) (λz=>z) λz=>z) Z
def zio {α:Type}{l:List α}{i:Nat}{x:α}(h:l[i]?=some x):atI l (i:Int)=some x:=by
 have:=(ai.mp h).1;unfold atI ixN;right
def zq9 {α:Type}{l:List α}{i:Int}(B:0<=i)(h1:i<l.length):∃d,atI l i=some d/\d∈l:=by
 obtain⟨j,rfl⟩:∃j:Nat,i=j:=#[i.toNat,by lia];have q:j<l.length:=by lia
 show#[l[j],zio (am q),bj q]
def zoi {st:AG}{b:Int}(B:0<=b)(h1:b<st.length):atI '¥' b=some (.int (zy st b)):=by
 obtain⟨j,rfl⟩:∃j:Nat,b=j:=#[b.toNat,by lia];have q:j<st.length:=by lia
 show zio ?_;rw[aF,am q,x8];simp[q]
def gw (g:List 'W')(i:Nat):AQ:=(g.find? λq=>decide (q.1=(i:Int))).map 'Ã'
def ziX (rm:AG):enW 0 (rm.map Dt.int)='ď'.map λi:Nat=>W.d (.tup [.int (i:Int),.int (rm.getD i 0)]):=by
 apply et;intro i;rw[zfB,aF,aF];by_cases h:i<rm.length
 all_goals right
def cho (rm:AG)(g:List 'W')(i:Nat):AG:=match gw g i with
 | some w=>[w]
 | none=>zl (rm.getD i 0)
def chs (rm:AG)(g:List 'W'):AF:='ď'.map (cho rm g)
def zu6 (rm:AG)(g:List 'W'):AF:=yg (chs rm g)
section
variable {X:Cx}{Pn:PN}{M S:AR}{fr fr':Bool}{e a b c:Expr}{es:AO}{f fa fb fc:AD}{pos p p2:Pos}
theorem zht:∀ (l k:AS) (i:Nat),(ziW l k)[i]?=(l[i]?).bind λx=>(k[i]?).map λy=>W.d (.tup [x,y])
 | [],_,_=>by simp[ziW]
 | _::_,[],_=>by simp[ziW]
 | x::r,y::s,0=>by simp[ziW]
 | x::r,y::s,i+1=>by have:=zht r s i;simp only[ziW,cT,this]
def zvc (i:Nat)(f:AD):Ms:=λD n k=>(∃l,D[i]?=some 'Õ')/\f D n λw m=>∃l q,D[i]?=some 'Õ'/\w = .d (.lst q)/\l.length+q.length<=lim/\k.nx (D.set i (some (.d (.lst (l++q))))) m
def znH (i:Nat){x:Str}{ap cp sp np:Pos}(he:'ĳ')(hi:i∈M:=by ext)(hN:'_':=by rfl)(hv:'Ì':=by fail"v")(hd:Ah x:=by ext)
  (ab:'Å':=by ext) (U:'Ǻ':=by rfl) (hs:swapsWith (.Call (.Attribute 'n' "extend" ap) [e] [] cp) none sp.line X.env=pure false:=by rfl) (J:attributeBase 'n' "extend" X.env (eval 'n' X.env)=eval 'n' X.env:=by rfl) (O:(ap.endLine==cp.line)=true:=by rfl)
  (Y:'ȓ':=by rfl) (I:(backTo cp 'Ī').any '%'=false:=by rfl) :
  JS X Pn S M fr (.Expr (.Call (.Attribute 'n' "extend" ap) [e] [] cp) sp) (zvc i f):=by
 obtain⟨te,q,r⟩:=he.ex;show#[_,zdV (znQ eW PySem.F.slot_list_extend PySem.F.type_list_extend zjY (qv i hN hv hd ab) (zB q yu U) J Y O U I) hs,#[ ?_]];rintro B A G H D n k BB a kk ⟨⟨l0,e0⟩,hf⟩;obtain⟨ad,ag,s1,hA,g0,_⟩:=a.own hi e0;show#[.ref ad,s1,.inl #[A5,_,SqL.of g0],?_];show r.run A G H D n _ _ a.env a.pn hf  ?_;rintro w m v H' ⟨l,l2,e,ed,hz,r⟩ hv g _;subst ed;have a':=a.step g;obtain⟨al,xs,s2,_,g4,hl⟩:=a'.own hi e;rw[s1] at s2;cases s2;obtain⟨b2,ys,rfl,ac,Z⟩:=hv;show#[ad,b2,xs,ys,A5,A5,g4,ac.sub,zg4 (by rw[hl.length,Z.length];show hz),kk.nx A G _ _ m (a'.wr hi e s1 (hl.append Z)) r]
def zlf {α:Type}(l:List α)(k:Nat)(x:α):List α:=l.take k++x::l.drop k
def zve (i:Nat)(fk f:AD):Ms:=λD n k=>(∃l,D[i]?=some 'Õ')/\fk D n λy m=>f D m λw q=>∃l d j,D[i]?=some 'Õ'/\w = .d d/\y = .d (.int j)/\0<=j/\j<=l.length/\l.length<lim/\k.nx (D.set i (some (.d (.lst (zlf l j.toNat d))))) q
def zrL(i:Nat){x:Str}{ap cp sp np:Pos}(hc:JE X Pn M ab c fc)(he:'ĳ')(hi:i∈M:=by ext)(hN:'_':=by rfl)(hv:'Ì':=by fail"v")(hd:Ah x:=by ext)(ac:'Å':=by ext)(U:starEach (c::[e]) X.env=(false,eval c X.env)::starEach [e] X.env:=by rfl)(ag:'Ǻ':=by rfl)(hs:swapsWith (.Call (.Attribute 'n' "insert" ap) [c,e] [] cp) none sp.line X.env=pure false:=by rfl)(J:attributeBase 'n' "insert" X.env (eval 'n' X.env)=eval 'n' X.env:=by rfl)(O:(ap.endLine==cp.line)=true:=by rfl)(Y:((backTo cp (starEach [c,e] X.env)).all (λx=>!x.1)&&(backToKw cp 'ź').all (λx=>x.1.isSome)&&decide (([c,e]:AO).length+'Ɯ'.length+'Ƒ'<30))=true:=by rfl)(I:(backTo cp (starEach [e] X.env)).any '%'=false:=by rfl) :
  JS X Pn S M fr (.Expr (.Call (.Attribute 'n' "insert" ap) [c,e] [] cp) sp) (zve i fc f):=by
 obtain⟨te,q,r⟩:=he.ex;obtain⟨tc,qc,rc⟩:=hc.ex;show#[_,zdV (znQ eW PySem.F.slot_list_insert PySem.F.type_list_insert zjZ (qv i hN hv hd ac) (zB qc (zB q yu ag) U) J Y O U I) hs,#[ ?_]];rintro B A G H D n k BB a kk ⟨⟨l0,e0⟩,hf⟩;obtain⟨ad,an,s1,hA,g0,_⟩:=a.own hi e0;show#[.ref ad,s1,.inl #[A5,_,SqL.of g0],?_];show rc.run A G H D n _ _ a.env a.pn hf λw1 m1 v1 H1 r1 al g1 _=>?_;have a1:=a.step g1;show r.run A G H1 D m1 _ _ a1.env a1.pn r1  ?_;rintro w m v H' ⟨l,d,j,e,ed,ey,j0,j1,hz,r⟩ hv g _;subst ed ey;have e1:v1 = .int j:=al;subst e1;have a':=a1.step g;obtain⟨as,xs,s2,_,g4,Z⟩:=a'.own hi e;rw[s1] at s2;cases s2;show#[ad,xs,j,v,A5,A5,g4,j0,by rw[Z.length];show j1,zb3 (by rw[Z.length];show dq hz),kk.nx A G _ _ m (a'.wr hi e s1 ?_) r];show (Z.take _).append #[v,_,A5,hv.is,Z.drop _]
def ze1 {κ:Type}[DecidableEq κ](A7:List (κ×Dt))(k:κ)(d:Dt):List (κ×Dt):=
 if 'Ŭ'=true then A7.map (λkv=>if kv.1=k then (kv.1,d) else kv) else A7++[(k,d)]
theorem xO.any {κ:Type}[DecidableEq κ]{BA:Hp}{k:κ}:∀ {A7:List (κ×Dt)} {ks:List (κ×V)},xO BA A7 ks->(ks.any λkv=>decide (kv.1=k))=A7.any λkv=>decide (kv.1=k)
 | [],_,h=>by cases h;rfl
 | q::r,ks,⟨v,s,e,h1,h2⟩=>by subst e;rw[dC,dC,xO.any h2]
theorem xO.map1 {κ:Type}[DecidableEq κ]{BA:Hp}{k:κ}{d:Dt}{x:V}(F:Is BA d x):∀ {A7:List (κ×Dt)} {ks:List (κ×V)},xO BA A7 ks->xO BA (A7.map λkv=>if kv.1=k then (kv.1,d) else kv) (ks.map λkv=>if kv.1=k then (kv.1,x) else kv)
 | [],_,h=>by cases h;rfl
 | q::r,ks,⟨v,s,e,h1,h2⟩=>by
  subst e;rw[az,az];by_cases B:q.1=k;rw[if_pos B,if_pos B];show#[x,_,A5,F,xO.map1 F h2];rw[if_neg B,if_neg B];show#[v,_,A5,h1,xO.map1 F h2]
theorem xO.snoc {κ:Type}{BA:Hp}{k:κ}{d:Dt}{x:V}(B:Is BA d x):∀ {A7:List (κ×Dt)} {ks:List (κ×V)},xO BA A7 ks->xO BA (A7++[(k,d)]) (ks++[(k,x)])
 | [],_,h=>by cases h;show#[x,[],A5,B,A5]
 | q::r,ks,⟨v,s,e,h1,h2⟩=>by subst e;show#[v,_,A5,h1,xO.snoc B h2]
def xO.put{κ:Type}[DecidableEq κ]{k:κ}{A7:List (κ×Dt)}{ks:List (κ×V)}(h:xO BA A7 ks)(q:Is BA d x):xO BA (ze1 A7 k d) (u7 ks k x):=by
 unfold ze1 u7;rw[h.any];split;show h.map1 q;show h.snoc q
theorem xO.len {κ:Type}{BA:Hp}:∀ {A7:List (κ×Dt)} {ks:List (κ×V)},xO BA A7 ks->ks.length=A7.length
 | [],_,h=>by cases h;rfl
 | q::r,ks,⟨v,s,e,h1,h2⟩=>by subst e;rw[aS,aS,xO.len h2]
def At3.wrX(h:'Ŕ')(hi:i∈M)(e:D[i]?=some 'Q')(s:G[i]?=some (some (.ref ad)))(hw:WAt (L2.upd H ad o) '7' w' (.ref ad))(hm':w'.mut=true)(np:NP o)(nt:Mt o):At3 Pn B S M A G (L2.upd H ad o) (D.set i (some w')) n:=by
 obtain⟨v,s1,_,s3⟩:=h.env.val i w e;rw[s] at s1;cases s1;obtain⟨a2,e2,hA,_,_⟩:=s3 hi;cases e2;have hlen:i<D.length:=(ai.mp e).1
 have hE:EnvR A M G (L2.upd H ad o) (D.set i (some w')):=by
  show#[by rw[cg];show h.env.len,λj u ej=>?_,λj q u u' b hj hq hne e1 e2=>?_,λb hb=>?_];by_cases hj:j=i;subst hj;rw[ba hlen] at ej;cases ej;show#[.ref ad,s,λz=>absurd hi z,λ_=>#[ad,A5,hA,by change WAt _ _ _ _;rw[zH hA];show hw,hm']];rw[aH (Ne.symm hj)] at ej;obtain⟨v,t1,t2,t3⟩:=h.env.val j u ej;show#[v,t1,λz=>?_,λz=>?_];change WAt _ _ _ _;rw[zH hA];show t2 z;obtain⟨b,rfl,hb,hbb,hm⟩:=t3 z;have hne:b≠ad:=λq=>h.env.dis i j w u ad hi z (Ne.symm hj) e ej s (by rw[t1,q]);show#[b,A5,hb,?_,hm];change WAt _ _ _ _;rw[zH hA]
  cases u with
  | d x=>
   cases x with
   | lst l=>obtain⟨a2,xs,e2,g1,g2⟩:=hbb;cases e2;show#[b,xs,A5,by unfold Rd;rw[zc hne];show g1,g2]
   | dct=>obtain⟨a2,xs,e2,g1,g2⟩:=hbb;cases e2;show 'Ƶ'
   | _=>cases hm
  | pen p=>cases hm
  | dk k=>obtain⟨a2,xs,e2,g1,g2⟩:=hbb;cases e2;show 'Ƶ'
  | dt k=>obtain⟨a2,xs,e2,g1,g2⟩:=hbb;cases e2;show 'Ƶ'
  | dn fz k=>obtain⟨a2,xs,e2,g1,g2⟩:=hbb;cases e2;show#[b,xs,A5,g1.imp λo _ e=>by rw[zc hne];show e,g2]
  | wd d fs kn=>cases hm
  | lf ls=>cases hm
  | cu k=>cases hm
  | ss P w k=>obtain⟨a2,xs,e2,g1,g2⟩:=hbb;cases e2;show 'Ƶ'
  | df k=>obtain⟨a2,ob,xs,e2,g1,g2⟩:=hbb;cases e2;show 'ŗ'
  | kf k=>obtain⟨a2,ob,xs,e2,g1,g2⟩:=hbb;cases e2;show 'ŗ'
  | ad a x=>cases hm
  | tz A7 x=>cases hm
  | fl k=>obtain⟨a2,ob,xs,e2,g1,g2⟩:=hbb;cases e2;show 'ŗ'
  have get:∀q (u:W),(D.set i (some w'))[q]?=some (some u)->∃u',D[q]?=some (some u'):=λq u z=>by
   by_cases hq:q=i;subst hq;show#[w,e];rw[aH (Ne.symm hq)] at z;show#[u,z]
  obtain⟨v1,f1⟩:=get j u e1;obtain⟨v2,f2⟩:=get q u' e2;show h.env.dis j q v1 v2 b hj hq hne f1 f2;by_cases hb':b=ad;subst hb';show#[_,zg,np,nt];rw[zc hb'];show h.env.al b hb
 show#[hE,#[h.frm.sub,h.frm.new,λb o eb nn nc=>?_,h.frm.al,h.frm.cn,λb z=>(by
  by_cases hb':b=ad;subst hb';show#[_,zg,np];rw[zc hb'];show h.frm.cs b z)],h.pn.upd hA,by rw[zH hA];show h.prot,h.fix,λj u b hj ej sj=>?_]
 have hne:b≠ad:=λq=>by
  subst q;rcases h.mine i w b hi e s with z | z;show z o eb nn;show nc z
 rw[zc hne];show h.frm.st b o eb nn nc;by_cases hj':j=i;subst hj';show h.mine j w b hj e sj;rw[aH (Ne.symm hj')] at ej;show h.mine j u b hj ej sj
end
def zq1:FV:=λPn q n R=>∃p c ns l,Pn=#['·',J0]/\q=[.pen p,.d (.lst l)]/\n+l.length<=1000000/\l.length<=100000/\∀l':AS,l'.Perm l->R (.d (.lst l')) (n+l.length)
section
variable {X:Cx}{Pn:PN}{M S:AR}{fr fr':Bool}{e a b c:Expr}{es:AO}{f fa fb fc:AD}{pos p:Pos}
def WAt.mv(t:∀o,T ad=some o->T' ad=some o)(g:yL BA G')(m:w.mut=true)(h:WAt T BA w (.ref ad)):WAt T' G' w (.ref ad):=by
 cases w with
 | d x=>
  cases x with
  | lst l=>obtain⟨a2,xs,e2,g1,g2⟩:=h;cases e2;show#[ad,xs,A5,g1.imp (t _) λ⟨o,g1⟩=>#[o,t _ g1],'ē']
  | dct=>obtain⟨a2,xs,e2,g1,g2⟩:=h;cases e2;show#[ad,xs,A5,t _ g1,g2]
  | _=>cases m
 | pen p=>cases m
 | dk k=>obtain⟨a2,xs,e2,g1,g2,g3⟩:=h;cases e2;show#[ad,xs,A5,t _ g1,'ē',g3]
 | dt k=>obtain⟨a2,xs,e2,g1,g2⟩:=h;cases e2;show#[ad,xs,A5,t _ g1,'ē']
 | dn fz k=>obtain⟨a2,xs,e2,g1,g2,g3⟩:=h;cases e2;show#[ad,xs,A5,g1.imp λo _ e=>t _ e,'ē',g3.stay (zq.same g)]
 | wd d fs kn=>cases m
 | lf ls=>cases m
 | cu k=>cases m
 | ss P w k=>obtain⟨a2,xs,e2,g1,g2⟩:=h;cases e2;show#[ad,xs,A5,t _ g1,'ē']
 | df k=>obtain⟨a2,ob,xs,e2,g1,g2⟩:=h;cases e2;show#[ad,ob,xs,A5,t _ g1,'ē']
 | kf k=>obtain⟨a2,ob,xs,e2,g1,g2⟩:=h;cases e2;show#[ad,ob,xs,A5,t _ g1,'ē']
 | ad a x=>cases m
 | tz A7 x=>cases m
 | fl k=>obtain⟨a2,ob,xs,e2,g1,g2⟩:=h;cases e2;show#[ad,ob,xs,A5,t _ g1,'ē']
def At3.move(h:'Ŕ')(hj:j∈M)(hi:i∉M)(a0:i∉S)(e:D[j]?=some 'Q')(s:G[j]?=some (some (.ref I))):At3 Pn B S M (λb=>A b/\b≠I) (G.set i (some (.ref I))) H ((D.set j none).set i 'Q') n:=by
 obtain⟨v,s1,_,s3⟩:=h.env.val j w e;rw[s] at s1;cases s1;obtain⟨a2,e2,hA,ag,an⟩:=s3 hj;cases e2;have a4:i≠j:=λz=>hi (z ▸ hj);have J:∀b,(A b/\b≠I)->A b:=λb z=>z.1;have O:yL '7' (zF (λb=>A b/\b≠I) H):=yx J
 have Z:∀q (u:W),((D.set j none).set i 'Q')[q]?=some (some u)->q≠i->q≠j/\D[q]?=some (some u):=λq u z hq=>by
  rw[aH (Ne.symm hq)] at z;by_cases U:q=j;subst U;rw[List.getElem?_set] at z;right;rw[aH (Ne.symm U)] at z;show#[U,z]
 have ab:¬ B.A0 I:=λz=>by
  rcases h.mine j w I hj e s with q | q;obtain⟨o,o1,o2,_⟩:=h.frm.al I z;show q o o1 o2;show h.frm.cn I q z
 have ac:Val (λb=>A b/\b≠I) H w (.ref I):=by show WAt.mv (λo ho=>zv (λz=>z.2 A5) ho) O an ag
 show#[#[?_,?_,?_,?_],#[λb z=>#[h.frm.sub b z,λq=>ab (q ▸ z)],λb z=>h.frm.new b z.1,h.frm.st,h.frm.al,h.frm.cn,h.frm.cs],h.pn.less J,h.prot.trans (zq.same O),#[λk hk=>?_,h.fix.2],λk u b hk ek sk=>?_];rw[cg,cg,cg];show h.env.len;intro q u eq;by_cases hq:q=i;subst hq
 have Y:q<(D.set j none).length:=by
  have:=(ai.mp eq).1;right
 rw[ba Y] at eq;cases eq;rw[cg] at Y;show#[.ref I,ba (by rw[h.env.len];show Y),λ_=>ac,λz=>absurd z hi];obtain⟨U,z⟩:=Z q u eq hq;obtain⟨v,t1,t2,t3⟩:=h.env.val q u z;show#[v,by rw[aH (Ne.symm hq)];show t1,λy=>WAt.up (zq.same O) (zq.same O) (t2 y),λy=>?_];obtain⟨b,rfl,hb,a1,hm⟩:=t3 y;show#[b,A5,#[hb,λq'=>?_],WAt.up (zq.refl _) (zq.same O) a1,hm];subst q';show h.env.dis j q w u b hj y (Ne.symm U) e z s t1;intro q k u u' b hq hk a3 e1 e2;have as:q≠i:=λz=>hi (z ▸ hq);have F:k≠i:=λz=>hi (z ▸ hk);rw[aH (Ne.symm as),aH (Ne.symm F)];show h.env.dis q k u u' b hq hk a3 (Z q u e1 as).2 (Z k u' e2 F).2;show λb z=>h.env.al b z.1;have F:k≠i:=λz=>a0 (z ▸ hk);rw[aH (Ne.symm F)];show h.fix.1 k hk;have F:k≠i:=λz=>hi (z ▸ hk);rw[aH (Ne.symm F)] at sk;show h.mine k u b hk (Z k u ek F).2 sk
def zpk (i j:Nat):Ms:=λD n k=>∃w,D[j]?=some 'Q'/\k.nx ((D.set j none).set i 'Q') n
def zo4(j:Nat){x y:Str}{px O sp:Pos}(Z:'«')(hi:'_')(hx:'æ')(U:j∈M:=by ext)(q:i∉M:=by ext)(F:i∉S:=by ext)(I:X.N[j]?=some y:=by rfl)(hv:Vis X.env.scope y:=by fail"v")(hd:Ah y:=by ext)(J:(y=='ŀ')=false:=by ext)(hs:swapsWith (.Name y O) (some (.Name x px)) sp.line X.env=pure false:=by rfl)(hf:'Þ':=by fail"l"):JS X Pn S M fr (.Assign [.Name x px] (.Name y O) sp) (zpk i j):=by
 show#[_,xH (i:=i) Z hi hx (qv j I hv hd J) hs hf,#[ ?_]];rintro B A G H D n k BB a kk ⟨w,e,r⟩;obtain⟨v,Y,_,s3⟩:=a.env.val j w e;obtain⟨ad,rfl,hA,_,_⟩:=s3 U;show#[.ref ad,Y,kk.nx _ _ H _ n (a.move U q F e Y) r]
end
end L3
namespace L3
open L2
structure StOk (rm st:AG):Prop where
 len:st.length=rm.length
 box:∀b:Int,0<=b->b<rm.length->0<=zy st b/\zy st b<zy rm b
def xY:∀ (ns:AG),(∀n∈ns,1<=n)->((yg (ns.map zl)).length:Int)=yK ns:=by
 have:∀ (k:Nat) (ns:AG),ns.length=k->(∀n∈ns,1<=n)->((yg (ns.map zl)).length:Int)=yK ns:=by
  intro k
  induction k with
  | zero=>intro ns e _;rw[a9 e];rfl
  | succ k B=>
   intro ns e h
   obtain⟨m,x,rfl⟩:∃m x,ns=m++[x]:=by
    have q:ns≠[]:=by intro z;rw[z] at e;cases e
    show#[ns.dropLast,ns.getLast q,(bF q).symm]
   rw[ay] at e;rw[aO,az,dX,yE,uR,xT,xU];have h1:=B m 'ĭ' λn F=>h n (cC _ F);have h2:=h x (a8 _ '$');rw[Int.natCast_mul,h1,bE '!']
 right
def zkj:∀ {ns:AG},(∀n∈ns,1<=n)->1<=yK ns:=λ{ns} h=>by
 have h1:=xY ns h
 have:∀ (ns:AG) (a:Int),1<=a->(∀n∈ns,1<=n)->1<=ns.foldl (· * ·) a:=by
  intro ns
  induction ns with
  | nil=>intro a q _;show q
  | cons n ns F=>
   intro a q B;show F (a * n) ?_ λm I=>B m (ak _ I);have:=B n aq;show Int.le_trans '#' (Int.mul_le_mul q this '#' '!')
 show this ns 1 '#' h
def zad (a b:AG)(k:Nat):Wi:=#[('ƀ'.filter λi=>!decide (i=k)).map λi:Nat=>((i:Int),a.getD i 0),(k:Int),b.getD k 0,a.getD k 0]
def zul (rm:AG)(bk:AW)(g:List 'W'):AF:=(zu6 rm g).filter λst=>decide (zfJ bk st (g.map '%')=[])
abbrev y9 (bk:AW):Dt:=.tup 'Ñ'
def uY (rm:AG)(bk:AW):Prop:=∀x∈bk,WishOk rm x
abbrev F_bett:FV:=λ_ q n R=>∃rm bk st hs,q=['ò',.d (y9 bk),.d 'T',.d (stD hs)]/\RoomOk rm/\uY rm bk/\st.length=rm.length/\R (.d (zbP (uz bk st hs))) n
abbrev ztN:FV:=λ_ q n R=>∃rm bk g,q=['ò',.d (y9 bk),.d (zbY g)]/\RoomOk rm/\uY rm bk/\Giv rm g/\R (.d (zbP (zul rm bk g))) n
def zaH (r:Nat):zhZ 0 r=(List.range r).map λk:Nat=>W.d (.int (k:Int)):=by
 unfold zhZ;right
def zgy {ns:AG}(I:ns.length<=8)(q:∀m∈ns,2<=m/\m<=4)(k:Nat):(yg ((ns.take k).map zl)).length<=65536:=by
 have:=zgx (cs:=ns.map zl) 'I' (λc B=>by obtain⟨m,F,rfl⟩:=aJ.mp B;have:=q m F;rw[xU];lia) k;right
def zq8 {L:AS}{a:Int}{BA:Dt->Prop}(q:0<=a)(h1:a<L.length)(h:∀x∈L,BA x):∃x,atI L a=some x/\BA x:=by obtain⟨d,h2,B⟩:=zq9 q h1;show#[d,h2,h d B]
def zbo:∀ {rm:AG},'ħ'->yK rm<=256->rm.length<=8:=λ{rm} B hp=>by
 have:∀ (k:Nat) (rm:AG),rm.length=k->'ħ'->(2:Int) ^ k<=yK rm:=by
  intro k
  induction k with
  | zero=>intro rm e _;rw[a9 e];decide
  | succ k I=>
   intro rm e B
   obtain⟨m,x,rfl⟩:∃m x,rm=m++[x]:=by
    have q:rm≠[]:=by intro z;rw[z] at e;cases e
    show#[rm.dropLast,rm.getLast q,(bF q).symm]
   rw[ay] at e;have h1:=I m 'ĭ' λn F=>B n (cC _ F);have h2:=B x (a8 _ '$');rw[xT,Int.pow_succ];have J:(0:Int)<=2 ^ k:=Int.pow_nonneg '#';show Int.mul_le_mul h1 h2.1 '#' '!'
 apply cN;intro F;have h1:=this _ rm A5 B
 have h2:(2:Int) ^ 9<=2 ^ rm.length:=by
  have:(2:Nat) ^ 9<=2 ^ rm.length:=gb '#' '!'
  exact_mod_cast this
 grind
def StOk.snoc {rm st:AG}{w v:Int}(h:StOk rm st)(I:0<=v)(J:v<w):StOk (rm++[w]) (st++[v]):=by
 have O:=h.len;show#['9',λb q B=>?_];rw[ay] at B;by_cases F:b<(rm.length:Int);rw[zbi q '!',zbi q F];show h.box b q F
 have e:b=(rm.length:Int):=by
  have:b<(rm.length:Int)+1:=by simpa using B
  lia
 subst e;rw[zbh,<- O,zbh];show#[I,J]
def zaW {α q:Type}(f:α->q)(l:List α)(lo hi:AQ):ux (l.map f) lo hi=(ux l lo hi).map f:=by
 unfold ux;right
def zbV {α:Type}(l:List α)(lo hi:AQ):(ux l lo hi).length<=l.length:=by unfold ux;rw[bi,eK];lia
def zrf {st:AG}{b w:Int}(q:0<=b):ux st none '®'++[w]++ux st 'Ö' none=chg st b w:=by
 have h:=zoo st (w:=w) q;have B:zcV 'Ĝ' none '®'=(ux st none '®').map V.int:=by rw[<- zaW];rfl
 have F:zcV 'Ĝ' 'Ö' none=(ux st 'Ö' none).map V.int:=by rw[<- zaW];rfl
 rw[B,F] at h;have I:(ux st none '®').map V.int++[V.int w]++(ux st 'Ö' none).map V.int=(ux st none '®'++[w]++ux st 'Ö' none).map V.int:=by rw[aO,aO];rfl
 rw[I] at h;show dU '?' |>.mp h
def zoT {α q:Type}(f:α->q)(l:List α)(i:Nat)(x:α):zlf (l.map f) i (f x)=(zlf l i x).map f:=by
 unfold zlf;right
def zoS {α:Type}(l:List α)(i:Nat)(x:α):(zlf l i x).length=l.length+1:=by
 unfold zlf;grind
def unI:Dt->Int
 | .int i=>i
 | _=>0
def zgH {α:Type}(l:List α)(k:Nat):ux l none 'ÿ'=l.take k:=by
 unfold ux;rw[HT.sIx_none,HT.sIx_nat,eG,iC];grind
def yF:∀ (ns st:AG),st∈yg (ns.map zl)->StOk ns st:=by
 have:∀ (k:Nat) (ns:AG),ns.length=k->∀st,st∈yg (ns.map zl)->StOk ns st:=by
  intro k
  induction k with
  | zero=>
   intro ns e st q;rw[a9 e] at q ⊢;rw[ao.mp q];show#[A5,λb Y F=>absurd F '¶']
  | succ k I=>
   intro ns e st q
   obtain⟨m,x,rfl⟩:∃m x,ns=m++[x]:=by
    have B:ns≠[]:=by intro z;rw[z] at e;cases e
    show#[ns.dropLast,ns.getLast B,(bF B).symm]
   rw[ay] at e;rw[aO,az,dX,yE] at q;obtain⟨r,J,q⟩:=fY.mp q;obtain⟨v,O,rfl⟩:=aJ.mp q;obtain⟨j,U,rfl⟩:=aJ.mp O;have:=aL.mp U;show (I m 'ĭ' r J).snoc '!' '!'
 right
def zp3 {κ:Type}[DecidableEq κ](A7:List (κ×Dt))(k:κ)(d:Dt):(ze1 A7 k d).length<=A7.length+1:=by
 unfold ze1;split
 all_goals right
def zhF {ns:AG}:(Dt.lst 'µ').eqOk:=xo (ns:=ns)
def zon{st:AG}{b x:Int}(q:0<=b)(B:st.length<=1000)(h:Q (.d (stD (chg st b x))) n):zfD (.d (.tup (ux '¥' none '®'))) (.d (.tup [.int x])) n λw m=>zfD w (.d (.tup (ux '¥' 'Ö' none))) m Q:=by
 have F:=zbV st none '®';have I:=zbV st 'Ö' none;rw[zaW,zaW];show#[_,_,A5,A5,by rw[ae];show aw (by simp;lia:_<=1001) '#',_,_,A5,A5,by rw[ay,ae,ae];show aw (by simp;lia:_<=2001) '#',?_];have e:(ux st none '®').map Dt.int++[Dt.int x]++(ux st 'Ö' none).map Dt.int=(chg st b x).map Dt.int:=by rw[<- zrf q,aO,aO];rfl
 rw[e];show h
section
variable {X:Cx}{Pn:PN}{M S:AR}{fr fr':Bool}{e a b c:Expr}{es:AO}{f fa fb fc:AD}{pos p:Pos}
end
end L3
namespace L2
open PyProof.Rows
def zcD(ke ve gens scope pos):eval (.DictComp ke ve gens scope pos) env=comprehension (.DictComp ke ve gens scope pos) scope env (firstIterPos gens pos) newDict (firstAsync gens) (firstIter gens env):=rfl
def zdn (ke ve target iter:Expr)(ifs:AO)(scope:Scope)(pos:Pos)(it:Value)(d:Addr)(env:Env) :
  compTurn 'Ƹ' 0 it (.ref d) env=(do
   standAt iter.pos
   match <- pyNext it with
   | none=>pure (.done .next)
   | some v=>
    letOwnedTupleGo target it v
    assign target env v
    let mut ok:=true
    for c in ifs do
     if ok then ok <- isTrue c env (eval c env)
    if ok then
     (do
      let kv <- eval ke env
      let vv <- holding [kv] (eval ve env)
      standAt { ke.pos with endLine:=ve.pos.endLine,endCol:=ve.pos.endCol }
      holding [kv,vv] (dictSet d kv vv))
    again (.compLoop 'Ƹ' 0 it (.ref d) env)):=by rfl
section
variable {prog:Aa}{w:Ab}{A:Ae}{E:AA}{R:Result->AZ->Prop}{s:AZ}
def uv {ke ve target iter ifs zu scope pos it acc env}
  (h0:codeAny '2' A (.compLoop 'Ư' 0 it acc env) R s)
  (h:Ag prog w A (pyIter it) (λit' s'=>codeAny '2' A (.compLoop 'Ư' 0 it' acc env) R s')
   (notedBy '2' A env λx s'=>R (.error x) s') s) :
  codeAny '2' A (.compStart 'Ư' 0 it acc env) R s:=by
 show ff ?_;change wpAny _ _ ((compStart 'Ư' 0 it acc env).onRaise 'ţ') _ _ s;show wpAny_notedAt ?_;unfold compStart;change wpAny _ _ (ask >>= _) _ _ s;show aa (bA (wpAny_ite ?_));split
 first
  | show aa '?'
  | show af (And.intro A5 h0)
 first
  | show aa '?'
  | (show aa (cD ?_);change wpAny _ _ (standAt iter.pos >>= _) _ _ s;show aa (bv (aa (aE h (λit' s' h'=>af (And.intro A5 h')) λ_ _ x=>x))))
def zaV(I:'Ą')(turn:∀n s,I n s->Ag prog w A (pyNext it) (λr s₁=>match r with
   | none=>R '©' s₁
   | some v=>Ag prog w A 'ŭ' (λ_ s₂=>Ag prog w A 'ſ' (λ_ s₃=>
     Ag prog w A 'Ŀ' (λok s₄=>
      if ok=true then Ag prog w A (eval ke env) (λx s₅=>Ag prog w A (eval ve env) (λy s₆=>
       Ag prog w A (dictSet d x y) (λ_ s₇=>∃m,m<n/\I m s₇) '&' s₆) '&' s₅) '&' s₄
      else ∃m,m<n/\I m s₄) '&' s₃) '&' s₂) '&' s₁) '&' s)(n:Nat)(h:I n s) :
  codeAny '2' A (.compLoop 'Ƹ' 0 it (.ref d) env) R s:=by
 show dZ A5 I 'ě' n h;change wpAny _ A ((compTurn 'Ƹ' 0 it (.ref d) env).onRaise 'ċ') _ _ s;show eL ?_;rw[zdn];show aa 'Ĉ'
 cases r with
 | none=>show af h₁
 | some v=>
  show aa 'Ċ';show aa 'ć'
  cases ok with
  | false=>show af #[A5,h₄]
  | true=>
   show aa (aa 'Ơ');show aa (bP (aE h₅ (λy s₆ h₆=>?_) λ_ _ h'=>h'.elim));show aa (bv (bP (aE h₆ (λ_ s₇ h₇=>?_) λ_ _ h'=>h'.elim)));show af #[A5,h₇]
def zhL(h:Q '°' { s with heap:=s.heap.push 'Ņ' }):Ag prog w A (newDict) Q E s:=by simp only[newDict,newObj];show aa (wpAny_alloc (af h))
variable {X:Cx}{A6:AB}{G:St}{H:Hp}{a:Addr}{y v:V}{u r:Value}{o:Option V}
def ziJ(hu:A.units+1<cLine)(I:')')(g:zed H a y v H')(Z:ye y u)(rv:ye v r)(h:∀s',Inv X A6 G H' s'->Q () s') :
  wpAny 'N' A (dictSet a u r) Q E s:=by
 rcases g with ⟨A7,k,e,ey,l,eH⟩ | ⟨A7,k,b,e,ey,eb,l,eH⟩;subst ey eH;obtain⟨z,O,vs,B,dd⟩:=zou I.hok e;have U:vs.length<=sizeLine:=by rw[<- B.length];show z
 have Y:(u7 A7 k v).length<=sizeLine:=by have:=xu A7 k v;lia
 show wpAny_dictSet_pairs (hsz:=U) (zjy Z) dd λh' F hs=>h _ ?_;have he:∃q,h'.get? a=some q:=let ⟨q,_,_,J,_⟩:=F;#[q,J];show zaX I 'Ŋ' hs he (ziT Y O (B.put k rv) F);subst ey eH;cases (show u=Value.ref b from Z);obtain⟨z,O,xs,B,dd⟩:=zrr I.hok e;have U:xs.length<=sizeLine:=by rw[<- gg B];show z
 have Y:(u7 A7 k v).length<=sizeLine:=by have:=xu A7 k v;lia
 show wpAny_dictSet_heap (hsz:=U) (Nat.lt_of_succ_lt hu) (zgY I.hok eb) dd λh' F hs=>h _ ?_;obtain⟨q,es,ep,J,h2,h3,h4,_,h5⟩:=F;show zaX I 'Ŋ' hs #[q,J] #[Y,O,_,(B.put k eb rv).keeps λc ys ec=>?_,q,es,ep,J,h2,h3,h4,h5];rw[zc '?'];show ec
end
def zuF (g:TG)(ti:TT)(tk tv:TE)(acc:Addr)(N:'Ø')(x:V)(G:St)(H:Hp):Prop:=
 g x G H λq H3=>ti q H3 λB H4=>if B=true then tk q H4 λy H5=>tv q H5 λv H6=>∃H7,zed H6 acc y v H7/\N q H7 else N q H4
def zuE (J:It)(g:TG)(ti:TT)(tk tv:TE)(acc:Addr)(Q:VK)(G:St)(H:Hp):Prop:=∃W:Nat->Nat->St->Hp->Prop,'ę'/\
 ∀i m q H',W i m q H'->'Ÿ'\/(J.go i H'/\∃N:St->Hp->Prop,'Ʃ'/\∀x H2,J.yld i H' x H2->zuF g ti tk tv acc N x q H2)
def zkW (o0:HO)(wi:TI)(g:TG)(ti:TT)(tk tv:TE)(A8:List '0'):TE:=λG H Q=>wi G H λJ H1=>∀acc,H1 acc=none->zuE J g ti tk tv acc Q '<' (upd H1 acc o0)
section
variable {X:Cx}{Fam:Cx->Prop}{scope:Scope}{N:AM}{A8:List (Option Nat)}{z:Str}{use:Option (Value->Sem Unit)}{Qp:AA}{elt ke ve tg iter tg2 iter2:Expr}{ifs ifs2:AO}{pos ipos spos px:Pos}{wi wi2:TI}{g g2:TG}{ti ti2:TT}{te tk tv:TE}{A6:AB}{G:St}{H:Hp}{s:AZ}{Q:VK}{o0:HO}
def ziR (Z:o0 = .dK []\/o0 = .dT [])(hu:'Ë')(O:'ŝ')(hc:'D')(hi:'Ļ')(hg:'ŷ')(ht:'Ű')(hk:∀X',Fam X'->PE X' ke tk)(hv:∀X',Fam X'->PE X' ve tv)(hs:'w')(I:')')
  (h:zkW o0 wi g ti tk tv A8 G H Q) (F:ztM X A6 G use Qp Q) :
  Af X (comprehension (.DictComp ke ve ['È'] scope pos) scope X.env ipos newDict false 'ı' use) Qp X.xe s:=
 uD (ob:='Ņ') (o0:=λ_=>o0) (Fin:=λacc H=>Q 'H' H) (B:=λX' acc P s=>wpAny 'c' X'.A (eval ke X'.env) (λx s5=>wpAny 'c' X'.A (eval ve X'.env) (λy s6=>wpAny 'c' X'.A (dictSet acc x y) (λ_ s7=>P s7) '&' s6) '&' s5) '&' s) (tb:=λacc Nx G H=>tk G H λy H5=>tv G H5 λv H6=>∃H7,zed H6 acc y v H7/\Nx G H7) O hc A5 hs (λ_ _ _ _ _ h0 h1=>uv h0 h1) (λ_ _ _ _ _ _ I U n h=>zaV I U n h) (λs Q h=>zhL h) (λ{_ _ _ s} I _=>by
  rcases Z with rfl | rfl;show zgK s.heap I.big
  show zlA s.heap I.big) hi hg ht (λX' hF pX wX AX _ xX acc pl s G H Nx P I q k=>by
  have e9:=hk X' hF pl s G H _ I q;rw[xX] at e9;show thn e9 ?_;rintro u2 ab ⟨y,H10,I10,ac,ad⟩;have Y:=hv X' hF pl ab G H10 _ I10 ad;rw[xX] at Y;show thn Y ?_;rintro u3 al ⟨v,H11,I11,ag,H12,dp,nx⟩;show ziJ (by rw[AX];show hu) I11 dp ac ag λs' I'=>k _ _ _ I' nx) I h 'Ǎ' F
end
def zf8{X:Cx}{tk tv:TE}{ifs:AO}{scope:Scope}{wi:TI}{g:TG}{ti:TT}{N:AM}{o0:HO}(B:o0 = .dK []\/o0 = .dT [])(F:'Ë')(J:'D')(c:'k')(hi:QI X tg iter wi)(O:'Ź')(U:'ű')(Y:∀C s H ex,QE '-' ke tk)(Z:∀C s H ex,QE '-' ve tv)(hs:'w':=by intro _;rfl):QE X (.DictComp ke ve ['È'] scope pos) (zkW o0 wi g ti tk tv A8):=#[λA6 s G H Q I h=>by
 rw[zcD];show ziR B F (uL c) J hi.run 'Ū' (zaO λC s H ex=>(U C s H ex).run) (zaO λC s H ex=>(Y C s H ex).run) (zaO λC s H ex=>(Z C s H ex).run) hs I h λ_ _ _ _ _ hm hb q=>zdr hm hb q]
section
variable {X:Cx}{A6:AB}{G:St}{H:Hp}{A:Ae}
end
end L2
namespace L3
open L2
section
variable {X:Cx}{Pn:PN}{M S:AR}{fr fr':Bool}{e a b c:Expr}{es:AO}{f fa fb fc:AD}{pos p:Pos}
def zhO (ks:List (AG×V)):NP (dtO ks):=λ_ e=>by cases e
def zny (mg:'U')(ft:'O')(fk fv:AD)(J:Ev)(Q:AV):AU->Nat->Prop:=λl n1=>l.length<=lim/\∃I:Nat->Ev->Nat->List (AG×Dt)->Prop,I 0 J n1 []/\
 (∀i w B F acc,l[i]?=some w->I i B F acc->mg w B λq=>ft q F λb n2=>if b=true then fk q n2 λy n3=>fv q n3 λx O=>∃st d,y = .d 'T'/\x = .d d/\I '(' q O (ze1 acc st d) else I '(' q n2 acc)/\
 ∀ B F acc,I l.length B F acc->Q (.dt acc) F
abbrev zjT (q:AC) (mg:'U') (ft:'O') (fk fv:AD) (A8:List '0'):AD:=λD n Q=>q D n (zny mg ft fk fv 'E' Q)
def zrp (mg:'U')(ft:'O')(fk fv:AD)(J:Ev)(Q:AV):AU->Nat->Prop:=λl n1=>l.length<=lim/\∃I:Nat->Ev->Nat->List (Key×Dt)->Prop,I 0 J n1 []/\
 (∀i w B F acc,l[i]?=some w->I i B F acc->mg w B λq=>ft q F λb n2=>if b=true then fk q n2 λy n3=>fv q n3 λx O=>∃ (j:Int) (d:Dt),y = .d (.int j)/\x = .d d/\I '(' q O (ze1 acc (Sum.inl j) d) else I '(' q n2 acc)/\
 ∀ B F acc,I l.length B F acc->Q (.dk acc) F
abbrev zva (q:AC) (mg:'U') (ft:'O') (fk fv:AD) (A8:List '0'):AD:=λD n Q=>q D n (zrp mg ft fk fv 'E' Q)
def zky{wi:TI}{g:TG}{ti:TT}{tk tv:TE}{A8:List '0'}{fi:AC}{mg:W->Ev->'>'->Prop}{ft:Ev->Mo Bool}{fk fv:AD}(hn:'É')(hi:RI Pn M ow wi fi)(hg:RG '*' '*' g mg)(ht:RT Pn '*' ti ft)(hk:RB Pn '*' tk fk)(he:RE Pn '*' fr' tv fv):RE Pn M true (zkW (.dT []) wi g ti tk tv A8) (zjT fi mg ft fk fv A8):=#[λA G H D n Q R E P hf k=>by
 show hi.run A G H D n _ _ E P hf λl m J H1 ⟨hz,I,i0,it,ie⟩ iv g1=>λacc B=>?_;have E1:=E.stay g1.st;have E2:='ð'.more (zq.upd (o:=.dT []) B) (Fr.of B) zg (zhO []) A5;have P2:y8 Pn 'A' m (L2.upd H1 acc (.dT [])):=g1.pn.grow' (g1.pn.same (yL.upd B)) (Fr.of B) zg (zhO []) A5;have a4:∀k w,k∈zQ M A8->'E'[k]?=some 'Q'->'<'[k]?≠some 'Û':=λk w hk hw z=>by obtain⟨v,s1,_,s3⟩:='ð'.val k w hw;obtain⟨a,e,hA,_⟩:=s3 hk;rw[z] at s1;cases s1;cases e;show E1.new B hA
 have key:∀ O F H',EnvR 'A' '*' O H' F->'Ƣ'->∀k w,k∈zQ M A8->F[k]?=some 'Q'->O[k]?≠some 'Û':=λO F H' E' an k w hk hw z=>by right
 show#[λi mm O H'=>mm=l.length - i/\i<=l.length/\∃ F n' q xs,EnvR 'A' '*' O H' F/\y8 Pn 'A' n' H'/\I i F n' q/\H' acc=some (dtO xs)/\xO 'î' q xs/\q.length<=i/\zq (zF A H1) 'î'/\zq H1 H'/\'Ƣ',
  #[l.length,'4',aP _,_,m,[],[],E2,P2,i0,zg,A5,aj _,yy (zq.upd B) (Fr.of B),zq.upd B,λk hk=>#[A5,A5]],?_]
 rintro i mm O H' ⟨rfl,a5,F,n',q,xs,E',P',hI,Y,Z,a7,st,s1,an⟩;by_cases a0:i<l.length
 show Or.inr ?_;have al:l[i]?=some l[i]:=am a0;obtain⟨go,yl⟩:=iv.one i l[i] _ H' al st (λ_=>s1) λp hp=>E'.new hp
 show#[go,λas H2=>∃ F n' q xs,EnvR 'A' '*' as H2 F/\y8 Pn 'A' n' H2/\I '(' F n' q/\H2 acc=some (dtO xs)/\xO 'Ć' q xs/\q.length<=i+1/\zq (zF A H1) 'Ć'/\zq H1 H2/\(∀k∈zQ M A8,as[k]?='<'[k]?/\F[k]?='E'[k]?),
  λas H2 h=>#[l.length - '(',by lia,A5,a0,h],λx H2 hy=>?_]
 obtain⟨S2,V2⟩:=yl x H2 hy;show hg.run _ O H2 F x l[i] _ _ (E'.stay 'ą') V2 (it i l[i] F n' q al hI) λab U r3 E3 f3=>?_;have ac:∀k∈zQ M A8,ab[k]?='<'[k]?/\U[k]?='E'[k]?:=λk hk=>'Ǣ';show ht.run _ ab H2 U n' _ _ E3 (P'.same S2) r3 λb m3 H4 r4 g4=>?_;have ad:='ą'.trans g4.st
 cases b with
 | false=>
  rw[if_neg '#'] at r4 ⊢;show#[U,m3,q,xs,E3.stay g4.st,g4.pn,r4,ad _ _ Y (zhO _),Z.stay (zr ad),by lia,st.trans (zr ad),s1.trans ad,ac]
 | true=>
  rw[if_pos rfl] at r4 ⊢;show hk.run _ ab H4 U m3 _ _ 'þ' g4.pn r4 λy5 m5 u5 H5 r5 B5 g5=>?_;show he.run _ ab H5 U m5 _ _ ('þ'.stay g5.st) g5.pn r5  ?_;rintro w6 m6 v6 H6 ⟨ky,d,ey,e6,r6⟩ V6 g6 _;subst ey e6;have ag:=(ad.trans g5.st).trans g6.st;have E6:=('þ'.stay g5.st).stay g6.st;have a1:H6 acc=some (dtO xs):=ag _ _ Y (zhO _);obtain⟨bd,zs,rfl,a2,hx⟩:=xJ (B5.stay g6.st);obtain rfl:=hx.of_ints;have bb:=zp3 q ky d;show#[_,zed.i a1 a2 (zb3 (by rw[Z.len];lia)),U,m6,ze1 q ky d,u7 xs ky v6,E6.upd 'F' (key ab U H6 E6 ac) (zhO _) A5,g6.pn.upd 'F',r6,zg,?_,by lia,?_,?_,ac];rw[zH 'F'];show (Z.stay (zr ag)).put V6.is;rw[zH 'F'];show st.trans (zr ag);show λb o e nn=>by rw[zc (ze e B)];show s1.trans ag b o e nn
 show Or.inl ?_;have a3:i=l.length:=by lia
 subst a3;show#['Ǒ',k _ n' _ H' (ie F n' q hI) #[acc,xs,A5,zv (E1.new B) Y,Z.stay (zq.same (yx λb z=>.inl z))] 'ȋ' λ_=>#[acc,A5,(Fr.of B).back g1.st,#[_,Y,A5],acc,xs,A5,Y,Z]]]
def zv5(h:∀C s H ex,JB '-' Pn M e f):∃te,(∀C s H ex,QE '-' e te)/\RB Pn M te f:=
 #[λG H Q=>∀C s H0 ex,'ă'.ex.choose G H Q,λC s H0 ex=>'ƍ',
  'Ƌ']
def zlU(B:'Ë')(F:'D')(cc:'k')(hi:JI X Pn M ow tg iter q)(I:'ƻ')(J:'ƹ')(O:∀C s H ex,JB '-' Pn '*' ke fk)(U:∀C s H ex,JE '-' Pn '*' fr' ve fv)(Y:'É':=by ext)(hs:'w':=by intro _;rfl):JE X Pn M true (.DictComp ke ve ['È'] scope pos) (zjT q mg ft fk fv A8):=by
 obtain⟨ti,Z,ri⟩:=hi.ex;obtain⟨g,qg,rg⟩:=zgp I;obtain⟨tt,qt,rt⟩:=zgq J;obtain⟨tk,qk,rk⟩:=zv5 O;obtain⟨te,qe,re⟩:=zk6 U;show#[_,zf8 (o0:=.dT []) '$' B F cc Z qg qt qk qe hs,zky Y ri rg rt rk re]
end
abbrev onI (w:W) (P:Int->Prop):Prop:=match w with | .d (.int i)=>P i | _=>False
abbrev onB (w:W) (P:Bool->Prop):Prop:=match w with | .d (.bl i)=>P i | _=>False
abbrev onT (w:W) (P:AS->Prop):Prop:=match w with | .d (.tup i)=>P i | _=>False
abbrev onL (w:W) (P:AS->Prop):Prop:=match w with | .d (.lst i)=>P i | _=>False
abbrev onS (w:W) (P:AS->Prop):Prop:=match w with | .d (.lst i)=>P i | .d (.tup i)=>P i | _=>False
abbrev onD (w:W) (P:Dt->Prop):Prop:=match w with | .d i=>P i | _=>False
abbrev onK (w:W) (P:List (Key×Dt)->Prop):Prop:=match w with | .dk i=>P i | _=>False
abbrev onE (w:W) (P:List (AG×Dt)->Prop):Prop:=match w with | .dt i=>P i | _=>False
abbrev onO {α:Type} (o:Option α) (P:α->Prop):Prop:=match o with | some i=>P i | none=>False
abbrev onC (c:Bool) (A B:Prop):Prop:=match c with | true=>A | false=>B
abbrev on1 (l:AU) (P:W->Prop):Prop:=match l with | [a]=>P a | _=>False
abbrev on2 (l:AU) (P:W->W->Prop):Prop:=match l with | [a,b]=>P a b | _=>False
abbrev onV:Ev->Nat->(W->Prop)->Prop
 | [],_,_=>False
 | a::_,0,P=>onO a P
 | _::r,i+1,P=>onV r i P
abbrev onP:Ev->Nat->W->'>'->Prop
 | [],_,_,Q=>Q []
 | _::r,0,w,Q=>Q (some w::r)
 | a::r,i+1,w,Q=>onP r i w λq=>Q (a::q)
abbrev onN:Ev->Nat->'>'->Prop
 | [],_,Q=>Q []
 | _::r,0,Q=>Q (none::r)
 | a::r,i+1,Q=>onN r i λq=>Q (a::q)
abbrev zca {α:Type}:Nat->List α->Prop->Prop
 | 0,[],P=>P
 | k+1,_::r,P=>zca k r P
 | _,_,_=>False
def u6{P:Int->Prop}:onI w P = ∃i,w = .d 'P'/\P i:=propext #['Ɖ','9']
def zhb:onB w P = ∃i,w = .d (.bl i)/\P i:=propext #['Ɖ',by rintro⟨i,e,h⟩;subst e;show h]
def zbl:onT w P = ∃i,w = .d (.tup i)/\P i:=propext #['Ɖ','9']
def zeV:onL w P = ∃i,w = .d (.lst i)/\P i:=propext #['Ɖ','9']
def zhc:onS w P = ∃i,(w = .d (.lst i)\/w = .d (.tup i))/\P i:=propext #[λh=>by rcases w with (x|x|x|x|_|_) <;> first | show False.elim h | (cases x <;> first | show False.elim h | show#[_,.inl A5,h] | show#[_,.inr A5,h]),by rintro⟨i,e,h⟩;rcases e with e | e <;> subst e <;> show h]
def xF:onD w P = ∃i,w = .d i/\P i:=propext #['š','9']
def zse{P:List (AG×Dt)->Prop}:onE w P = ∃i,w = .dt i/\P i:=propext #['š','9']
def zc6 {α:Type}{w:Option α}{P:α->Prop}:onO w P = ∃i,w=some i/\P i:=propext #['š','9']
def zaD{A B:Prop}:onC c A B=if c=true then A else B:=by cases c <;> simp[onC]
def zb9:on1 l P = ∃a,l=[a]/\P a:=propext #[λh=>by rcases l with (_|⟨a,_|⟨b,l⟩⟩) <;> first | show False.elim h | show#[_,A5,h],'9']
def zsa:on2 l P = ∃a b,l=[a,b]/\P a b:=propext #[λh=>by rcases l with (_|⟨a,_|⟨b,_|⟨c,l⟩⟩⟩) <;> first | show False.elim h | show#[_,_,A5,h],'9']
theorem zbm:∀ {D:Ev} {i:Nat} {P:W->Prop},onV D i P = ∃w,D[i]?=some 'Q'/\P w
 | [],i,P=>by simp[onV]
 | some w::r,0,P=>by simp[onV]
 | none::r,0,P=>by simp[onV]
 | some w::r,i+1,P=>by simpa [onV] using zbm (D:=r) (i:=i) (P:=P)
 | none::r,i+1,P=>by simpa [onV] using zbm (D:=r) (i:=i) (P:=P)
theorem zbk:∀ {D:Ev} {i:Nat} {w:W} {Q:Ev->Prop},onP D i w Q=Q (D.set i 'Q')
 | [],i,w,Q=>rfl
 | a::r,0,w,Q=>rfl
 | a::r,i+1,w,Q=>by rw[onP,zbk];rfl
theorem znM:∀ {D:Ev} {i:Nat} {Q:Ev->Prop},onN D i Q=Q (D.set i none)
 | [],i,Q=>rfl
 | a::r,0,Q=>rfl
 | a::r,i+1,Q=>by rw[onN,znM];rfl
theorem zbL {α:Type}:∀ {k:Nat} {l:List α} {P:Prop},zca k l P=(l.length=k/\P)
 | 0,[],P=>by simp[zca]
 | 0,a::r,P=>by simp[zca]
 | k+1,[],P=>by simp[zca]
 | k+1,a::r,P=>by simp[zca,zbL (l:=r)]
def zdM {P:Prop}[Decidable P]{A B:Prop}(h1:P->A)(h2:¬ P->B):onC (decide P) A B:=by
 by_cases h:P
 all_goals right
def zhQ {P:Prop}[Decidable P]{A B:Prop}(h1:¬ P->A)(h2:P->B):onC (!decide P) A B:=by
 by_cases h:P
 all_goals right
def zpv{A B:Prop}(h1:c=true->A)(h2:c=false->B):onC c A B:=by
 cases c;show h2 A5;show h1 A5
def zsc{A B:Prop}(h1:c=false->A)(h2:c=true->B):onC (!c) A B:=by
 cases c;show h1 A5;show h2 A5
def zsd{A B:Prop}(h:c=true)(h1:A):onC c A B:=by subst h;show h1
def zsb{A B:Prop}(h:c=false)(h1:B):onC c A B:=by subst h;show h1
def zf5 {α:Type}{o:Option α}{a:α}{P:α->Prop}(e:o=some a)(h:P a):onO o P:=by subst e;show h
def onA{st:AG}{b:Int}(q:0<=b)(h1:b<st.length)(h:P (.int (zy st b))):onO (atI '¥' b) P:=zf5 (zoi q h1) h
def zpu {L:AS}{a:Int}{P:Dt->Prop}(q:0<=a)(h1:a<L.length)(h:∀x∈L,P x):onO (atI L a) P:=by obtain⟨x,e,B⟩:=zq8 q h1 h;show zf5 e B
def onG {α:Type}{L:List α}{f:α->Dt}{i:Nat}{x:α}{P:Dt->Prop}(e:L[i]?=some x)(h:P (f x)):onO (atI (L.map f) (i:Int)) P:=zf5 (zio 'I') h
section
variable {X:Cx}{Pn:PN}{M S:AR}{fr fr':Bool}{e a b c:Expr}{es:AO}{f fa fb fc g:AD}{pos p:Pos}{t u:Ev->Mo Bool}{fs gs:AC}
def wE (h:f=g)(j:'ė'):JE X Pn M fr e g:=h ▸ j
def wB (h:f=g)(j:'Ð'):JB X Pn M e g:=h ▸ j
def wT (h:t=u)(j:JT X Pn M e t):JT X Pn M e u:=h ▸ j
def wW (h:t=u)(j:JW X Pn M e t):JW X Pn M e u:=h ▸ j
def wO {f g:Ev->Mo AQ}{e:Option Expr}(h:f=g)(j:JO X Pn M e f):JO X Pn M e g:=h ▸ j
def wG {f g:W->Ev->'>'->Prop}(h:f=g)(j:JG X S M e f):JG X S M e g:=h ▸ j
def wH {f g:AS->Ev->'>'->Prop}(h:f=g)(j:JGs X S M es f):JGs X S M es g:=h ▸ j
def wI(h:fs=gs)(j:JI X Pn M ow tg e fs):JI X Pn M ow tg e gs:=h ▸ j
def wS {s:Stmt}{f g:Ms}(h:f=g)(j:JS X Pn S M fr s f):JS X Pn S M fr s g:=h ▸ j
abbrev zhD (i:Nat):AD:=λD n Q=>onV D i λw=>Q w n
def zjX:zr2 i=zhD i:=by funext D n Q;show zbm.symm
def kv (i:Nat){x:Str}(hi:i∉M:=by ext)(B:'_':=by rfl)(F:'Ì':=by fail"v")(I:Ah x:=by ext)
  (q:'Å':=by ext):JE X Pn M false 'u' (zhD i):=wE zjX (zjt i hi B F I q)
def kb(i:Nat)(B:'_':=by rfl)(F:'Ì':=by fail"v")(I:Ah x:=by ext)(q:'Å':=by ext):JB X Pn M 'u' (zhD i):=wB zjX (zuV i B F I q)
abbrev zrn (fa:AD):Ev->Mo Bool:=λD n Q=>fa D n λx m=>onB x λc=>Q c m
def zp:zpq fa=zrn fa:=by funext D n Q;simp only[zpq,zrn,zhb]
abbrev ztT (t u:'O'):Ev->Mo Bool:=λD n Q=>t D n λc m=>onC c (u D m Q) (Q false m)
def zb5:zt1 t u=ztT t u:=by funext D n Q;simp only[zt1,ztT,zaD]
abbrev dOr (t u:'O'):Ev->Mo Bool:=λD n Q=>t D n λc m=>onC c (Q true m) (u D m Q)
def uK:mOr t u=dOr t u:=by funext D n Q;simp only[mOr,dOr,zaD]
abbrev dNot (t:'O'):Ev->Mo Bool:=λD n Q=>t D n λc m=>onC c (Q false m) (Q true m)
def yM:zvl t=dNot t:=by funext D n Q;simp only[zvl,dNot];congr 1;funext c m;cases c <;> rfl
abbrev zrh (fa fb:AD):AD:=λD n Q=>fa D n λx m=>onB x λc=>onC c (fb D m Q) (Q (.d (.bl false)) m)
def x6:zpg fa fb=zrh fa fb:=by funext D n Q;simp only[zpg,zrh,zaD,zhb]
abbrev dOrV (fa fb:AD):AD:=λD n Q=>fa D n λx m=>onB x λc=>onC c (Q (.d 'Ý') m) (fb D m Q)
abbrev zrk (fa:AD):AD:=λD n Q=>fa D n λx m=>onB x λc=>Q (.d (.bl (!c))) m
def zmc:zpm fa=zrk fa:=by funext D n Q;simp only[zpm,zrk,zhb]
abbrev dIf (t:'O') (fa fb:AD):AD:=λD n Q=>t D n λc m=>onC c (fa D m Q) (fb D m Q)
def zr1:mIf t fa fb=dIf t fa fb:=by funext D n Q;simp only[mIf,dIf,zaD]
abbrev dI (C:Int->Int->Prop) (g:Int->Int->Dt):W->W->Mo W:=λx y n Q=>onI x λi=>onI y λj=>C i j/\Q (.d (g i j)) n
def zrw {C:Int->Int->Prop}{g:Int->Int->Dt}:fI C g=dI C g:=by funext x y n Q;simp only[dI,u6];show propext 'ȭ'
abbrev dI0 (g:Int->Int->Dt):W->W->Mo W:=λx y n Q=>onI x λi=>onI y λj=>Q (.d (g i j)) n
def zev {g:Int->Int->Dt}:fI0 g=dI0 g:=by funext x y n Q;simp only[dI0,u6];show propext 'ȭ'
def zcx:F2 Pn false (rI0 λi j=>.int (i+j)) (dI0 λi j=>.int (i+j)):=zev ▸ zv6
def zv4:F2 Pn false 'ǐ' (dI0 λi j=>.int (i - j)):=zev ▸ zwh
def ztF:F2 Pn false 'Ǌ' (dI znl λi j=>.int (i * j)):=zrw ▸ zwe
def ztE:F2 Pn false 'ư' (dI (λ_ j=>0<j) λi j=>.int (i % j)):=zrw ▸ zwd
def u_lt:F2 Pn false 'ǁ' (dI0 λi j=>.bl (decide (i<j))):=zev ▸ v_lt
def zue:F2 Pn false 'ƾ' (dI0 λi j=>.bl (decide (i<=j))):=zev ▸ v_le
def u_gt:F2 Pn false (rI0 λi j=>.bl (decide (i > j))) (dI0 λi j=>.bl (decide (j<i))):=zev ▸ v_gt
abbrev zuA:W->Mo W:=λx n Q=>onI x λi=>Q (.d (.int (-i))) n
def zv3:F1 Pn false (rU λi=>.int (-i)) zuA:=(show zuO=zuA by funext x n Q;simp only[zuO,zuA,u6]) ▸ zwg
abbrev dEq:W->W->Mo W:=λx y n Q=>onD x λa=>onD y λb=>onO (sEq a b) λr=>Q (.d (.bl r)) n
def zrv:fEq=dEq:=by
 funext x y n Q;simp only[fEq,dEq,xF,zc6];right
abbrev dNe:W->W->Mo W:=λx y n Q=>onD x λa=>onD y λb=>onO (sEq a b) λr=>Q (.d (.bl (!r))) n
def zrx:fNe=dNe:=by
 funext x y n Q;simp only[fNe,dNe,xF,zc6];right
def zli:F2 Pn false rEq dEq:=zrv ▸ v_eq
def zlj:F2 Pn false rNe dNe:=zrx ▸ v_ne
abbrev zup:W->W->Mo W:=λx y n Q=>onD x λa=>onD y λb=>a.eqOk/\b.eqOk/\∀r:Bool,(r=true↔a=b)->Q (.d (.bl r)) n
abbrev zuz:W->W->Mo W:=λx y n Q=>onD x λa=>onD y λb=>a.eqOk/\b.eqOk/\∀r:Bool,(r=true↔a=b)->Q (.d (.bl (!r))) n
def zoz:zuI=zup:=by
 funext x y n Q;simp only[zuI,zup,xF];right
def zoE:zuN=zuz:=by
 funext x y n Q;simp only[zuN,zuz,xF];right
def znb:F2 Pn false zt8 zup:=zoz ▸ zv8
def zv2:F2 Pn false zub zuz:=zoE ▸ zwf
abbrev dIsB:W->W->Mo W:=λx y n Q=>onB x λa=>onB y λb=>Q (.d (.bl (a==b))) n
abbrev zuu:W->W->Mo W:=λx y n Q=>onB x λa=>onB y λb=>Q (.d (.bl (a != b))) n
abbrev dInI:W->W->Mo W:=λx y n Q=>onI x λb=>onS y λl=>∃ns:AG,l=ns.map .int/\Q (.d (.bl (ns.contains b))) n
abbrev zdp:W->W->Mo W:=λx y n Q=>onI x λb=>onS y λl=>∃ns:AG,l=ns.map .int/\Q (.d (.bl (!ns.contains b))) n
def zhG:zfE=zdp:=by funext x y n Q;simp only[zfE,zdp,u6,zhc];show propext #[by rintro⟨a,b,q,B,h⟩;show#[a,q,_,B,b,A5,h],by rintro⟨a,q,l,B,b,e,h⟩;subst e;show#[a,b,q,B,h]]
def znc:F2 Pn false (rIn K true) zdp:=zhG ▸ zne
abbrev xr:Bool->Bool->Bool
 | false,b=>b
 | true,b=>!b
abbrev zus (q:Bool):W->W->Mo W:=λx y n Q=>onD x λd=>onS y λds=>d.eqOk/\'Ú'.eqOk/\∀b:Bool,(b=true↔d∈ds)->Q (.d (.bl (xr q b))) n
def zwj {q b:Bool}:(if q then !b else b)=xr q b:=by cases q <;> rfl
def zoA:zuJ q=zus q:=by
 funext x y n Q;simp only[zuJ,zus,xF,zhc,zwj];right
def zqM:F2 Pn false (zvK q) (zus q):=zoA ▸ zv9
abbrev ztU:W->W->Mo W:=λx y n Q=>onT x λl=>onI y λi=>onO (atI l i) λd=>Q (.d d) n
abbrev zuw:W->W->Mo W:=λx y n Q=>onL x λl=>onI y λi=>onO (atI l i) λd=>Q (.d d) n
def zoC:zuL=ztU:=by
 funext x y n Q;simp only[zuL,ztU,zbl,u6,zc6];right
def zoB:zuK=zuw:=by
 funext x y n Q;simp only[zuK,zuw,zeV,u6,zc6];right
def z0:F2 Pn false (zua K) ztU:=zoC ▸ zwb
def zk5:F2 Pn false (zt9 K) zuw:=zoB ▸ zwa
abbrev zot:W->W->Mo W:=λx y n Q=>onT x λl=>onT y λm=>l.length+m.length<=lim/\Q (.d (.tup (l++m))) n
abbrev dCatL:W->W->Mo W:=λx y n Q=>onL x λl=>onL y λm=>l.length+m.length<=lim/\Q (.d (.lst (l++m))) n
def zlF:zfD=zot:=by
 funext x y n Q;simp only[zfD,zot,zbl];right
def ut:F2 Pn false (zku K) zot:=zlF ▸ ztK
abbrev dRepT:W->W->Mo W:=λx y n Q=>onT x λl=>onI y λj=>(1<=j/\j<=1000000/\l.length * j.toNat<=lim)/\Q (.d (.tup (List.replicate j.toNat l).flatten)) n
abbrev dRepL:W->W->Mo W:=λx y n Q=>onL x λl=>onI y λj=>(0<=j/\j<=1000000/\l.length * j.toNat<=lim)/\Q (.d (.lst (List.replicate j.toNat l).flatten)) n
abbrev zux:AU->Mo W:=λq n Q=>on1 q λx=>onO (lenD x) λk=>Q (.d (.int (k:Int))) n
def zoD:zuM=zux:=by
 funext ws n Q;simp only[zuM,zux,zb9,zc6];right
def zaM:FL Pn false (λxs H Q=>∃x n,xs=[x]/\ztP K x H n/\Q (.int n) H) zux:=zoD ▸ zwc
abbrev dAbs:AU->Mo W:=λq n Q=>on1 q λx=>onI x λi=>Q (.d (.int (if i<0 then -i else i))) n
abbrev dMin:AU->Mo W:=λq n Q=>on2 q λx y=>onI x λi=>onI y λj=>Q (.d (.int (if j<i then j else i))) n
abbrev dMax:AU->Mo W:=λq n Q=>on2 q λx y=>onI x λi=>onI y λj=>Q (.d (.int (if j > i then j else i))) n
abbrev zuo:AU->Mo W:=λq n Q=>on1 q λx=>onL x λl=>∃bs:List Bool,l=bs.map .bl/\Q (.d (.bl (bs.all id))) n
def zoy:zuH=zuo:=by funext ws n Q;simp only[zuH,zuo,zb9,zeV];show propext #[by rintro⟨x,e,h⟩;show#[_,e,_,A5,x,A5,h],'9']
def zqL:FL Pn false 'Ɗ' zuo:=zoy ▸ zv7
abbrev dList:AU->Mo W:=λq n Q=>on1 q λx=>onS x λl=>Q 'ġ' n
abbrev znx:AU->Mo W:=λq n Q=>on1 q λx=>onS x λl=>Q (.d 'x') n
def zvS:(∃l,(q=[.d (.lst l)]\/q=[.d 'x'])/\P l)=on1 q λx=>onS x P:=by
 simp only[zb9,zhc];grind
def zai:FL Pn false (zge K) znx:=(show znC=znx by funext ws n Q;show zvS) ▸ zqN
abbrev dDictT:AU->Mo W:=λq n Q=>on1 q λx=>onT x λl=>∃ps:List (Int×Dt),l=ps.map prD/\(ps.map '%').Nodup/\ps.length<=1000/\Q (.dk (ps.map kvD)) n
abbrev dInt1:AU->Mo W:=λq n Q=>on1 q λx=>match x with
 | .d (.int i)=>Q (.d 'P') n
 | .d (.bl b)=>Q (.d (.int (if b then 1 else 0))) n
 | _=>False
abbrev dSortI:AU->Mo W:=λB n Q=>on1 B λx=>onL x λl=>∃ns:AG,l=ns.map .int/\ns.length<64/\∀q:AG,q.Perm ns->q.Pairwise (·<=·)->Q (.d (.lst (q.map .int))) n
abbrev dSortT:AU->Mo W:=λB n Q=>on1 B λx=>onL x λl=>∃ (A9:AF) (m:Nat),l=A9.map stD/\A9.length<64/\1<=m/\(∀st∈A9,st.length=m)/\A9.Nodup/\∀q:AF,q.Perm A9->'Ʊ'->Q (.d (zbP q)) n
abbrev dListD:AU->Mo W:=λq n Q=>on1 q λx=>onE x λA7=>('Ġ'.Nodup->Q (.d (.lst ('Ġ'.map stD))) n)
end
section
variable {fa fb fc f fk fd fv:AD}{t u:Ev->Mo Bool}{fs gs:AC}
abbrev zrl (fa:AD):Ev->Mo AQ:=λD n Q=>fa D n λx m=>onI x λi=>Q (some i) m
def yU:zpn fa=zrl fa:=by funext D n Q;simp only[zpn,zrl,u6]
abbrev dSlT (fa:AD) (fl q:Ev->Mo AQ):AD:=λD n Q=>fa D n λx n1=>fl D n1 λlo n2=>q D n2 λhi n3=>onT x λl=>Q (.d (.tup (ux l lo hi))) n3
def xN {fl q:Ev->Mo AQ}:zvm fa fl q=dSlT fa fl q:=by funext D n Q;simp only[zvm,dSlT,zbl]
abbrev dSlL (fa:AD) (fl q:Ev->Mo AQ):AD:=λD n Q=>fa D n λx n1=>fl D n1 λlo n2=>q D n2 λhi n3=>onL x λl=>Q (.d (.lst (ux l lo hi))) n3
abbrev zrm (fa:AD):AD:=λD n Q=>fa D n λx m=>onT x λl=>Q (.d (.tup l.reverse)) m
abbrev dRevL (fa:AD):AD:=λD n Q=>fa D n λx m=>onL x λl=>Q (.d (.lst l.reverse)) m
def zme:zpp fa=zrm fa:=by funext D n Q;simp only[zpp,zrm,zbl]
abbrev dDGet (fd fk:AD):AD:=λD n Q=>fd D n λx n1=>fk D n1 λy n2=>onK x λA7=>onO (ztZ y) λk=>onO (yI A7 k) λd=>Q (.d d) n2
abbrev dDIn (q:Bool) (fk fd:AD):AD:=λD n Q=>fk D n λy n1=>fd D n1 λx n2=>onK x λA7=>onO (ztZ y) λk=>Q (.d (.bl (xr q (yI A7 k).isSome))) n2
abbrev dFn (k:Nat) (F:AU->Mo W) (fs:AC):AD:=λD n Q=>fs D n λq m=>zca k q (F q m Q)
def zo:mFn k F fs=dFn k F fs:=by funext D n Q;simp only[mFn,dFn,zbL]
abbrev dFnB (k:Nat) (fr:Bool) (F:AU->Mo W) (fs:AC):AD:=λD n Q=>fs D n λq m=>zca k q (F q m λw B=>W.flat fr w=true/\Q w B)
abbrev eN (i:Nat):W->Ev->'>'->Prop:=λw D Q=>onP D i w Q
def zK:gN i=eN i:=by funext w D Q;show zbk.symm
abbrev eNl:AS->Ev->'>'->Prop:=λds D Q=>match ds with | []=>Q D | _=>False
def uE:gNl=eNl:=by
 funext ds D Q
 cases ds with
 | nil=>simp[gNl,eNl]
 | cons _ _=>simp[gNl,eNl]
abbrev eCn (g:'U') (u:AS->Ev->'>'->Prop):AS->Ev->'>'->Prop:=λds D Q=>match ds with | d::r=>g (.d d) D λq=>u r q Q | []=>False
def zZ {g:W->Ev->'>'->Prop}{u:AS->Ev->'>'->Prop}:gCn g u=eCn g u:=by
 funext ds D Q
 cases ds with
 | nil=>simp[gCn,eCn]
 | cons d r=>show propext #[by rintro⟨d',q,e,h⟩;cases e;show h,λh=>#[d,r,A5,h]]
abbrev eTp (n:Nat) (u:AS->Ev->'>'->Prop):W->Ev->'>'->Prop:=λw D Q=>onT w λds=>zca n ds (u ds D Q)
def uF {n:Nat}{u:AS->Ev->'>'->Prop}:gTp n u=eTp n u:=by funext w D Q;simp only[gTp,eTp,zbl,zbL]
abbrev dItL (fa:AD):AC:=λD n Q=>fa D n λx m=>onL x λl=>Q (l.map W.d) m
abbrev dItT (fa:AD):AC:=λD n Q=>fa D n λx m=>onT x λl=>Q (l.map W.d) m
def za5:zvg fa=dItL fa:=by funext D n Q;simp only[zvg,dItL,zeV]
def uJ:zvi fa=dItT fa:=by funext D n Q;simp only[zvi,dItT,zbl]
abbrev dItR (fs:AC):AC:=λD n Q=>fs D n λq m=>on1 q λx=>onI x λj=>(j<=1000000/\-1000000<=j)/\Q (zhZ 0 j.toNat) m
def xa:zvh fs=dItR fs:=by funext D n Q;simp only[zvh,dItR,zb9,u6];congr 1;funext ws m;show propext #['9','9']
abbrev dItR2 (fs:AC):AC:=λD n Q=>fs D n λq m=>on2 q λx y=>onI x λi=>onI y λj=>(j<=1000000/\-1000000<=j/\i<=1000000/\-1000000<=i)/\Q (zhZ i (j - i).toNat) m
abbrev dItE (fs:AC):AC:=λD n Q=>fs D n λq m=>on1 q λx=>onT x λl=>Q (enW 0 l) m
abbrev dItEL (fs:AC):AC:=λD n Q=>fs D n λq m=>on1 q λx=>onL x λl=>Q (enW 0 l) m
def zjV:zvf fs=dItE fs:=by funext D n Q;simp only[zvf,dItE,zb9,zbl];congr 1;funext ws m;show propext #['9','9']
abbrev dItZ (fs:AC):AC:=λD n Q=>fs D n λq m=>on2 q λx y=>onT x λl=>onT y λk=>l.length=k.length/\Q (ziW l k) m
abbrev dItZM (fs:AC):AC:=λD n Q=>fs D n λq m=>on2 q λx y=>onL x λl=>onT y λk=>l.length=k.length/\Q (ziW l k) m
abbrev dItZL (fs:AC):AC:=λD n Q=>fs D n λq m=>on2 q λx y=>onL x λl=>onL y λk=>Q (ziW l k) m
def zpj:zvj fs=dItZ fs:=by funext D n Q;simp only[zvj,dItZ,zsa,zbl];congr 1;funext ws m;show propext #[by rintro⟨i,j,e,h⟩;show#[_,_,e,i,A5,j,A5,h],by rintro⟨x,y,e,i,q,j,B,h⟩;subst q B;show#[i,j,e,h]]
abbrev dIfS (t:'O') (f g:Ms):Ms:=λD n k=>t D n λc m=>onC c (blk f D m k) (blk g D m k)
def zT {f g:Ms}:zvd t f g=dIfS t f g:=by funext D n k;simp only[zvd,dIfS,zaD]
abbrev zuC (i:Nat):Ms:=λD n k=>onV D i λw=>k.rt w n
def zmd:zpo i=zuC i:=by funext D n k;show zbm.symm
abbrev dSet (i:Nat) (f:AD):Ms:=λD n k=>f D n λw m=>onP D i w λq=>k.nx q m
def zz:zph f (gN i)=dSet i f:=by change zph f (gN i)=zph f (eN i);rw[zK]
abbrev dOwn (i:Nat) (f:AD):Ms:=λD n k=>f D n λw m=>onC (W.mut w) (onP D i w λρ'=>k.nx ρ' m) False
def za6:zt4 i f=dOwn i f:=by funext D n k;simp only[zt4,dOwn,zbk (Q:=λρ'=>k.nx ρ' _)];congr 1;funext w m;cases h:W.mut w <;> simp
abbrev dApp (i:Nat) (f:AD):Ms:=λD n k=>onV D i λv=>onL v λl=>f D n λw m=>onD w λd=>l.length<lim/\onP D i (.d (.lst (l++[d]))) λq=>k.nx q m
def zfU:(onV D i λv=>onL v P) = ∃l,D[i]?=some 'Õ'/\P l:=by simp only[zbm,zeV];show propext #['9','9']
def zfV:zt2 i f=dApp i f:=by
 funext D n k;simp only[zt2,dApp,zfU,xF,zbk (Q:=λq=>k.nx q _)];show propext 'ǣ'
 all_goals
  right
abbrev dExt (i:Nat) (f:AD):Ms:=λD n k=>onV D i λv=>onL v λl=>f D n λw m=>onL w λB=>l.length+B.length<=lim/\onP D i (.d (.lst (l++B))) λq=>k.nx q m
def zjU:zvc i f=dExt i f:=by
 funext D n k;simp only[zvc,dExt,zfU];simp only[zeV,zbk (Q:=λq=>k.nx q _)];show propext 'ǣ'
 all_goals
  right
abbrev dIns (i:Nat) (fk f:AD):Ms:=λD n k=>onV D i λv=>onL v λl=>fk D n λy m=>f D m λw B=>onD w λd=>onI y λj=>(0<=j/\j<=l.length/\l.length<lim)/\onP D i (.d (.lst (zlf l j.toNat d))) λq=>k.nx q B
def zpi:zve i fk f=dIns i fk f:=by
 funext D n k;simp only[zve,dIns,zfU,xF,u6,zbk (Q:=λq=>k.nx q _)];show propext 'ǣ'
 all_goals
  show (congrArg (fk D n) ?_).mp h;funext y m;show congrArg (f D m) ?_;funext w m2;show propext ?_;simp[e,and_assoc]
abbrev dPopS (i:Nat) (fk:AD):Ms:=λD n k=>onV D i λv=>onL v λl=>fk D n λy m=>onI y λj=>(0<=j/\j<l.length/\l.length<=lim)/\onP D i (.d (.lst (l.eraseIdx j.toNat))) λq=>k.nx q m
abbrev ztW (i:Nat):Ms:=λD n k=>onV D i λv=>onL v λl=>onP D i (.d (.lst l.reverse)) λq=>k.nx q n
abbrev dPut (i:Nat) (fk f:AD):Ms:=λD n k=>onV D i λv=>onL v λl=>f D n λw m=>fk D m λy B=>onD w λd=>onI y λj=>(0<=j/\j<l.length)/\onP D i (.d (.lst (l.set j.toNat d))) λq=>k.nx q B
abbrev onSt (w:W) (P:AG->Prop):Prop:=∃st,w = .d 'T'/\P st
abbrev dDGetT (fd fk:AD):AD:=λD n Q=>fd D n λx n1=>fk D n1 λy n2=>onE x λA7=>∃st,y = .d 'T'/\onO (yI A7 st) λd=>Q (.d d) n2
abbrev dDPutT (i:Nat) (fk f:AD):Ms:=λD n k=>onV D i λv=>onE v λA7=>f D n λw m=>fk D m λy B=>onD w λd=>∃st,y = .d 'T'/\A7.length<lim/\onP D i (.dt (ze1 A7 st d)) λq=>k.nx q B
abbrev zri (i j:Nat):Ms:=λD n k=>onV D j λw=>onN D j λq=>onP q i w λB=>k.nx B n
def zmb:zpk i j=zri i j:=by funext D n k;simp only[zpk,zri,zbm,zbk (Q:=λq=>k.nx q _),znM (Q:=λB=>k.nx (B.set i (some _)) n)]
abbrev dPar (i j:Nat) (fs:AC):Ms:=λD n k=>fs D n λF m=>on2 F λw u=>onP D i w λq=>onP q j u λB=>k.nx B m
abbrev dIsi (B:Dt->Bool) (f:AD):AD:=λD n Q=>f D n λw m=>onD w λd=>Q (.d (.bl (B d))) m
def yB:zma B f=dIsi B f:=by funext D n Q;simp only[zma,dIsi,xF]
abbrev zgI (fs:AC):AD:=λD n Q=>fs D n λq m=>on1 q λx=>onI x λj=>(0<=j/\j<=1000)/\Q (.d (.lst (zmZ j.toNat))) m
abbrev zro (fs:AC):AD:=λD n Q=>fs D n λq m=>on1 q λx=>onI x λj=>(0<=j/\j<=1000)/\Q (.d (.tup (zmZ j.toNat))) m
def ztf {q:AU}{P:Nat->Prop}:(∃j:Nat,q=[.d (.int (j:Int))]/\j<=1000/\P j)=on1 q λx=>onI x λj=>(0<=j/\j<=1000)/\P j.toNat:=by simp only[zb9,u6];show propext #[by rintro⟨j,e,h1,h⟩;show#[_,e,_,A5,'d',by simpa using h],by rintro⟨x,e,j,B,⟨h1,h2⟩,h⟩;show#[j.toNat,by grind,by lia,h]]
def zfX:zdC fs=zgI fs:=by funext D n Q;simp only[zdC,zgI];congr 1;funext ws m;show ztf (P:=λj=>Q (.d (.lst (zmZ j))) m)
abbrev dTru (f:AD):Ev->Mo Bool:=λD n Q=>f D n λw m=>onO (truD w) λb=>Q b m
abbrev znw (F BA:W->W->Mo W) (fa fb fc:AD):AD:=λD n Q=>fa D n λx n1=>fb D n1 λy n2=>F x y n2 λz n3=>onB z λk=>onC k (fc D n3 λu q=>BA y u q Q) (Q (.d (.bl false)) n3)
def zjS:zg5 F BA fa fb fc=znw F BA fa fb fc:=by funext D n Q;simp only[zg5,znw,zhb,zaD]
def zdl{α:Type}(xs:List α)(F:α->W)(Y:l=xs.map F)(J:Ev->Prop)(P:α->Bool)(E:α->Dt)(O:xs.length<=lim)(j0:J I)(h:∀a∈xs,∀ B,J B->∀C:Ev->Nat->Option Dt->Prop,(∀ {q},P a=true->J q->C q n (some (E a)))->(∀ {q},P a=false->J q->C q n none)->mg (F a) B λq=>ft q n λb n2=>onC b (U q n2 λx n3=>onD x λd=>C q n3 (some d)) (C q n2 none))(fin:Q (.d (.lst ((xs.filter P).map E))) n):ziv mg ft U I Q l n:=by
 show zix xs F Y J P E O j0 (λa Z B hj C hC=>?_) fin;have:=h a Z B hj C (λ{q} e z=>by right) λ{q} e z=>by have:=hC q z;rwa[if_neg (by rw[e];decide)] at this
 simp only[zaD,xF] at this;show this
def zen{α:Type}(xs:List α)(F:α->W)(Y:l=xs.map F)(J:Ev->Prop)(E:α->Dt)(O:xs.length<=lim)(j0:J I)(h:∀a∈xs,∀ B,J B->∀C:Ev->Nat->Dt->Prop,(∀ {q},J q->C q n (E a))->mg (F a) B λq=>U q n λx n3=>onD x λd=>C q n3 d)(fin:Q (.d (.lst (xs.map E))) n):ziv mg zt5 U I Q l n:=by
 show zlu xs F Y J E O j0 (λa Z B hj C hC=>?_) fin;have:=h a Z B hj C λ{q} z=>hC q z;simp only[xF] at this;show this
end
abbrev rep:Nat->'>'->Prop
 | 0,Q=>Q []
 | k+1,Q=>rep k λD=>Q (none::D)
abbrev beg:AU->Nat->'>'->Prop
 | [],r,Q=>rep r Q
 | w::q,r,Q=>beg q r λD=>Q (some w::D)
theorem zkE:∀ {r:Nat} {Q:Ev->Prop},rep r Q=Q (List.replicate r none)
 | 0,Q=>rfl
 | r+1,Q=>by rw[rep,zkE];rfl
theorem znr:∀ {q:AU} {r:Nat} {Q:Ev->Prop},beg q r Q=Q (q.map some++List.replicate r none)
 | [],r,Q=>by rw[beg,zkE];rfl
 | w::q,r,Q=>by rw[beg,znr];rfl
def znL {P:Aa}{w:Ab}{K:AH}{mg:AI}{base:Heap}{qual:Str}{st:Stmt}{f:Addr}{fd:Ac}{N ps:AM}{k m:Nat}{fr:Bool}{F:PN->AU->Mo W}(M:AR)(r:Nat)(J:(∀vs H Q E,spV m fr F vs H Q E->vs.length=ps.length)->(∀ (q:Value) (A:Ae) (outer:'[') (s:AZ) (H:Hp) (vs:AT) (Q:VK) (E:XK),Room k (A.deeper (PyProof.Rows.envOfC qual 'e' s.heap.objs.size f q))->spV m fr F vs H Q E->
   ∃t,QSs 'Ǫ'.nox 'y' t/\t { nx:=λ_ H'=>Q .non H',rt:=Q } (L2.yT N vs) H)->FnOk P w K mg base CX0 (k+1) f fd ps (spV m fr F)) (O:m=ps.length) (U:∀i∈M,m<=i) (Y:N.length=m+r)
  (B:∀ (q:Value) (A:Ae) (outer:'[') (s:AZ) (H:Hp) (E:XK) (Pn:PN),Room k (A.deeper (PyProof.Rows.envOfC qual 'e' s.heap.objs.size f q))->
   ∃fs,JSs 'Ǫ'.nox Pn [] M fr 'y' fs/\∀I n R,F Pn I n R->beg I r λD=>fs D n { nx:=λ_ Z=>onC fr False (R (.d .non) Z),rt:=R }):FnOk P w K mg base CX0 (k+1) f fd ps (spV m fr F):=by
 show zr8 M J O U λq A outer s H E Pn hr=>?_;obtain⟨fs,h1,h2⟩:=B q A outer s H E Pn hr;show#[fs,h1,λI n R hl hF=>?_];have:=h2 I n R hF;rw[znr] at this;have e:uP N I=I.map some++List.replicate r none:=by unfold uP;rw[Y,hl,Nat.add_sub_cancel_left]
 grind
def Fun.okW(M:AR)(r:Nat)(Fu:'Ř')(S:'Ķ')(J:m=ps.length)(O:∀i∈M,m<=i)(U:N.length=m+r)(q:∀ (B:Value) (A:Ae) (outer:'[') (s:AZ) (H:Hp) (E:XK) (Pn:PN),Room k 'ł'->
   ∃fs,JSs 'Ó'.nox Pn [] M fr 'y' fs/\∀I n R,F Pn I n R->beg I r λD=>fs D n { nx:=λ_ Y=>onC fr False (R (.d .non) Y),rt:=R }):FnOk P w K mg base CX0 (k+1) f fd ps (spV m fr F):=znL M r (λl b=>Fun.okQ Fu S l b) J O U q
def FunD.okW(M:AR)(r:Nat)(Fu:FunD K x qual st f fd)(S:'Ķ')(J:m=ps.length)(O:∀i∈M,m<=i)(U:N.length=m+r)(q:∀ (B:Value) (A:Ae) (outer:'[') (s:AZ) (H:Hp) (E:XK) (Pn:PN),Room k 'ł'->
   ∃fs,JSs 'Ó'.nox Pn [] M fr 'y' fs/\∀I n R,F Pn I n R->beg I r λD=>fs D n { nx:=λ_ Y=>onC fr False (R (.d .non) Y),rt:=R }):FnOk P w K mg base CX0 (k+1) f fd ps (spV m fr F):=znL M r (λl b=>FunD.okQ Fu S l b) J O U q
abbrev dItS (i:Nat):AC:=λD n Q=>onV D i λx=>onS x λl=>Q (l.map W.d) n
def ztc{fs:Ms}(h:rep r λD=>fs (a::b::D) n k):fs (a::b::List.replicate r none) n k:=by rw[zkE] at h;show h
def len1 {st:AG}{x:Dt}(h:st.length<=1000):'¥'.length+[x].length<=lim:=by rw[ae];show aw (by simp;lia:_<=1001) '#'
def cat1 {st:AG}{x:Int}:st.map Dt.int++[Dt.int x]=(st++[x]).map Dt.int:=by right
def zis {st:AG}{b x:Int}(q:0<=b)(B:st.length<=1000):ux '¥' none '®'++[Dt.int x]++ux '¥' 'Ö' none=(chg st b x).map Dt.int:=by
 have key:∀z:W,zfD (.d (.tup (ux '¥' none '®'))) (.d (.tup [.int x])) 0 (λw m=>zfD w (.d (.tup (ux '¥' 'Ö' none))) m λw' _=>w' = .d (stD (chg st b x))):=λz=>zon q B A5;obtain⟨l,m,F,I,_,J,O,U,Y,_,h⟩:=key (.d .non);grind
def zgE {st:AG}{b:Int}{x:Dt}(q:st.length<=1000):(ux '¥' none '®').length+[x].length<=lim:=by have:=zbV '¥' none '®';rw[ae] at this;show aw (by simp;lia:_<=1001) '#'
def zgF{st:AG}{b c:Int}(q:st.length<=1000):(ux '¥' none '®'++[x]).length+(ux '¥' (some c) none).length<=lim:=by have h1:=zbV '¥' none '®';have h2:=zbV '¥' (some c) none;rw[ae] at h1 h2;rw[ay];show aw (by simp;lia:_<=2001) '#'
def scR (mg:'U')(ft:'O')(O:AD)(J:Ev)(Q:AF->Nat->Prop):AU->Nat->Prop:=λl n1=>∃I:Nat->Ev->Nat->AF->Prop,I 0 J n1 []/\
 (∀i w q F acc,l[i]?=some w->I i q F acc->mg w q λB=>ft B F λb n2=>if b=true then O B n2 λx n3=>∃st,x = .d 'T'/\I '(' B n3 (acc++[st]) else I '(' B n2 acc)/\
 (∀i q F acc ks,I i q F acc->List.Nodup ks->(∀z∈ks,z∈acc)->ks.length<300)/\
 ∀ q F acc ks,I l.length q F acc->List.Nodup ks->(∀z,z∈ks↔z∈acc)->Q ks F
abbrev zjW (q:AC) (mg:'U') (ft:'O') (B:AD) (A8:List '0'):AD:=λD n Q=>q D n (scR mg ft B 'E' λks F=>∃m,ks.length<64/\1<=m/\(∀st∈ks,st.length=m)/\∀l':AF,l'.Perm ks->(l'.Pairwise λa b=>HT.lexLt a b=true)->Q (.d (zbP l')) F)
def zj6:NP (zhp P w a xs):=zg8
def zqv{ks:AF}(S:zgv P w (upd H acc o) acc ks):NP o/\Mt o:=by obtain⟨xs,h1,_⟩:=S;rw[zg] at h1;cases h1;show#[zj6,A5]
section
variable {X:Cx}{Pn:PN}{M S:AR}{fr fr':Bool}{pos p:Pos}
def zkA{P:Aa}{w:Ab}{wi:TI}{g:TG}{ti:TT}{te:TE}{A8:List '0'}{fi:AC}{mg:W->Ev->'>'->Prop}{ft:Ev->Mo Bool}{fe:AD}(hn:'É')(hi:RI Pn M ow wi fi)(hg:RG '*' '*' g mg)(ht:RT Pn '*' ti ft)(he:RE Pn '*' fr' te fe):RE Pn M true (tCB (znX P w) (zfd (zqG P w wi g ti te A8) zqF)) (zjW fi mg ft fe A8):=#[λA G H D n Q R E Pp hf k=>by
 show hi.run A G H D n _ _ E Pp hf λl m J H1 ⟨I,i0,it,ib,ie⟩ iv g1=>λacc F S0=>?_;have E1:=E.stay g1.st;have E2:='ð'.more (zq.upd (o:=zhp P w acc []) F) (Fr.of F) zg zj6 A5;have P2:y8 Pn 'A' m (L2.upd H1 acc (zhp P w acc [])):=g1.pn.grow' (g1.pn.same (yL.upd F)) (Fr.of F) zg zj6 A5;have bt:∀k w,k∈zQ M A8->'E'[k]?=some 'Q'->'<'[k]?≠some 'Û':=λk w hk hw z=>by obtain⟨v,s1,_,s3⟩:='ð'.val k w hw;obtain⟨a,e,hA,_⟩:=s3 hk;rw[z] at s1;cases s1;cases e;show E1.new F hA
 have key:∀ O q H',EnvR 'A' '*' O H' q->(∀k∈zQ M A8,O[k]?='<'[k]?/\q[k]?='E'[k]?)->∀k w,k∈zQ M A8->q[k]?=some 'Q'->O[k]?≠some 'Û':=λO q H' E' an k w hk hw z=>by right
 show#[λi mm O H'=>mm=l.length - i/\i<=l.length/\∃ q Y B ks,EnvR 'A' '*' O H' q/\y8 Pn 'A' Y H'/\I i q Y B/\zgv P w H' acc ks/\(∀z,z∈ks↔z∈B)/\zq (zF A H1) 'î'/\zq H1 H'/\(∀k∈zQ M A8,O[k]?='<'[k]?/\q[k]?='E'[k]?),
  #[l.length,'4',aP _,_,m,[],[],E2,P2,i0,S0,λ_=>Iff.rfl,yy (zq.upd F) (Fr.of F),zq.upd F,λk hk=>#[A5,A5]],?_]
 rintro i mm O H' ⟨rfl,bx,q,Y,B,ks,E',P',hI,hS,hm,st,s1,an⟩;have a1:ks.Nodup:=hS.choose_spec.2.2.2;by_cases a2:i<l.length
 show Or.inr ?_;have ag:l[i]?=some l[i]:=am a2;obtain⟨go,yl⟩:=iv.one i l[i] _ H' ag st (λ_=>s1) λp hp=>E'.new hp
 show#[go,λas H2=>∃ q Y B ks,EnvR 'A' '*' as H2 q/\y8 Pn 'A' Y H2/\I '(' q Y B/\zgv P w H2 acc ks/\(∀z,z∈ks↔z∈B)/\zq (zF A H1) 'Ć'/\zq H1 H2/\(∀k∈zQ M A8,as[k]?='<'[k]?/\q[k]?='E'[k]?),
  λas H2 h=>#[l.length - '(',by lia,A5,a2,h],λx H2 hy=>?_]
 obtain⟨S2,V2⟩:=yl x H2 hy;show hg.run _ O H2 q x l[i] _ _ (E'.stay 'ą') V2 (it i l[i] q Y B ag hI) λac U r3 E3 f3=>?_;have Z:∀k∈zQ M A8,ac[k]?='<'[k]?/\U[k]?='E'[k]?:=λk hk=>'Ǣ';show ht.run _ ac H2 U Y _ _ E3 (P'.same S2) r3 λb m3 H4 r4 g4=>?_;have ad:='ą'.trans g4.st
 cases b with
 | false=>
  rw[if_neg '#'] at r4 ⊢;show#[U,m3,B,ks,E3.stay g4.st,g4.pn,r4,hS.stay ad,hm,st.trans (zr ad),s1.trans ad,Z]
 | true=>
  rw[if_pos rfl] at r4 ⊢;show he.run _ ac H4 U m3 _ _ 'þ' g4.pn r4  ?_;rintro w5 m5 v5 H5 ⟨d,e5,r5⟩ V5 g5 _;subst e5;have a0:=ad.trans g5.st;have E5:='þ'.stay g5.st;obtain⟨b,rfl,hb⟩:=zn9 V5;show#[b,d,ks,A5,hb,hS.stay a0,ib i q Y B ks hI a1 λz hz=>(hm z).mp hz,λo bb S' bc b0=>?_];obtain⟨np,nt⟩:=zqv S';show#[U,m5,B++[d],bb,E5.upd 'F' (key ac U H5 E5 Z) np nt,g5.pn.upd 'F',r5,S',λz=>?_,?_,?_,Z];rw[bc z,aC,ao,hm z,or_comm];rw[zH 'F'];show st.trans (zr a0);show λb o e nn=>by rw[zc (ze e F)];show s1.trans a0 b o e nn
 show Or.inl ?_;have bd:i=l.length:=by lia
 subst bd;show#['Ǒ',?_];obtain⟨ml,bk,h1,bl,hq⟩:=ie q Y B ks hI a1 hm;show#[acc,ks,ml,A5,hS,bk,h1,bl,λys ab bm hp hu=>λp H3 a3 gp S3=>?_];have bo:=s1.trans (zq.same S3);have a4:Al A H':=E1.al.stay s1;have bs:y8 Pn A Y H3:=(P'.same S3).less λa z=>.inl z;have a5:=a4.stay (zq.same S3);have a7:=bm.stay (zq.same S3);show k _ Y _ H3 (hq ab hp hu) (Val.of #[p,ys,A5,.inl (zv (a4.new a3) gp),zae a5.noT (uS ab) a7]) (g1.trans #[bo,bs]) λ_=>#[p,A5,((Fr.of a3).back s1).back g1.st,#[_,gp,A5],p,ys,A5,.inl gp,zae (λb xs z e=>?_) (uS ab) a7];rcases z with z | z;show a5.noT b xs z e;subst z;rw[gp] at e;cases e]
def zlW {elt tg iter:Expr}{ifs:AO}{scope:Scope}{N:AM}{A8:List '0'}{J:AC}{mg:W->Ev->'>'->Prop}{ft:Ev->Mo Bool}{O:AD}{ow:Bool}{sp:Pos}(B:X.mg "sorted" = none)(Y:'Ë')(U:'D')(cc:'k')
  (hi:JI X Pn M ow tg iter J) (Z:'ƻ') (ht:'ƹ') (he:∀C s H ex,JE '-' Pn '*' fr' elt O)
  (hn:'É':=by ext) (hs:'w':=by intro _;rfl) (F:Gl X "sorted" := by rfl) (q:starEach [.SetComp elt ['È'] scope sp] X.env=[(false,eval (.SetComp elt ['È'] scope sp) X.env)]:=by rfl) (I:(backTo pos 'Ī').any '%'=false:=by rfl) :
  JE X Pn M true (.Call (.Name "sorted" p) [.SetComp elt ['È'] scope sp] [] pos) (zjW J mg ft O A8):=by
 obtain⟨ti,qi,ri⟩:=hi.ex;obtain⟨g,qg,rg⟩:=zgp Z;obtain⟨tt,qt,rt⟩:=zgq ht;obtain⟨te,qe,re⟩:=zk6 he;show#[_,yr (zlw U) F B eS (zB (zhV Y U cc qi qg qt qe hs) yu q) '#' '#' q I,zkA hn ri rg rt re]
end
def zqz{α:Type}{Q:AF->Nat->Prop}(xs:List α)(O:α->W)(hl:l=xs.map O)(J:Ev->Prop)(P:α->Bool)(E:α->AG)(j0:J I)(h:∀a∈xs,∀ B,J B->∀C:Ev->Nat->Option AG->Prop,(∀ {q},P a=true->J q->C q n (some (E a)))->(∀ {q},P a=false->J q->C q n none)->mg (O a) B λq=>ft q n λb n2=>onC b (fe q n2 λx n3=>∃st,x = .d 'T'/\C q n3 (some st)) (C q n2 none))(Y:∀ks,List.Nodup ks->(∀z∈ks,z∈(xs.filter P).map E)->ks.length<300)(fin:∀ks,List.Nodup ks->(∀z,z∈ks↔z∈(xs.filter P).map E)->Q ks n):scR mg ft fe I Q l n:=by
 subst hl;show#[λi B U acc=>J B/\U=n/\acc='á'.map E,#[j0,A5,'4'],?_,?_,?_];rintro i w B U acc hw ⟨hj,rfl,rfl⟩;rw[aF] at hw;obtain⟨a,Z,rfl⟩:=aI.mp hw
 have:=h a (aB Z) B hj (λq n3 o=>match o with
  | some d=>J q/\n3=U/\'á'.map E++[d]='Ō'.map E
  | none=>J q/\n3=U/\'á'.map E='Ō'.map E) (λ{q} hp F=>by
   rw[zj Z,dE,aO]
   show#[F,A5,by simp[hp]]) (λ{q} hp F=>by
   rw[zj Z,dE,aO];show#[F,A5,by simp[hp]])
 simp only[zaD] at this;show this;rintro i B U acc ks ⟨_,rfl,rfl⟩ hn hk;show Y ks hn λz hz=>?_;grind;right
abbrev dGetI (fd fk q:AD):AD:=λD n Q=>fd D n λx n1=>onK x λA7=>fk D n1 λy n2=>q D n2 λz n3=>onO (ztZ y) λk=>onI z λi=>Q (.d ((yI A7 k).getD 'P')) n3
section
variable {X:Cx}{Pn:PN}{M:AR}{a b c:Expr}{fa fb fc:AD}{apos cpos:Pos}
end
end L3
namespace L2
open PyProof.Rows
section
variable {X:Cx}{e lo st:Expr}{te tl tk:TE}{pos p2:Pos}
end
end L2
namespace L3
open L2
abbrev dFromL (fa fl fk:AD):AD:=λD n Q=>fa D n λx n1=>onL x λl=>fl D n1 λy n2=>onI y λc=>fk D n2 λz n3=>onI z λk=>(0<=c/\1<=k)/\∀ys:AS,ys.Sublist (l.drop c.toNat)->Q (.d (.lst ys)) n3
section
variable {X:Cx}{Pn:PN}{M:AR}{e lo st:Expr}{f fl fk:AD}{pos p2:Pos}
end
def zuQ:HO:=.dK [(Sum.inr "at",.non)]
abbrev gone (H:Hp)(a:Addr):Hp:=L2.upd H a zuQ
section
variable {X:Cx}{Pn:PN}{M S:AR}{fr fr':Bool}{pos p:Pos}
abbrev dGiv (i:Nat) (F:AU->Mo W) (f1 f2:AD):Ms:=λD n k=>f1 D n λw1 m1=>f2 D m1 λw2 m2=>onV D i λw=>F [w1,w2,w] m2 λw' m'=>onC (W.mut w') (onP D i w' λρ'=>k.nx ρ' m') False
end
end L3
namespace L2
open PyProof.Rows PySem.W PySem.SeqAt
section
variable {X:Cx}
end
end L2
namespace L3
open L2
section
variable {X:Cx}{Pn:PN}{M S:AR}{fr fr':Bool}{e o:Expr}{f fo:AD}{pos p:Pos}
abbrev dLenK:AU->Mo W:=λq n Q=>on1 q λx=>onK x λA7=>Q (.d (.int (A7.length:Nat))) n
abbrev dListK:AU->Mo W:=λq n Q=>on1 q λx=>onK x λA7=>∃ns:AG,A7.map '%'=ns.map Sum.inl/\Q (.d (.lst 'µ')) n
abbrev dIndex (fo f:AD):AD:=λD n Q=>fo D n λx n1=>onL x λl=>f D n1 λy n2=>onI y λk=>∃ns:AG,l=ns.map .int/\k∈ns/\Q (.d (.int (ns.idxOf k:Nat))) n2
abbrev zuy (f:AD):AD:=λD n Q=>f D n λx n1=>onL x λl=>∃ns:AG,l=ns.map .int/\ns.Nodup/\ns.length<=1000/\Q (.d (.int (ns.length:Nat))) n1
end
end L3
namespace L2
def us_1 {α:Type}{us:List α}(h:us.length=1):∃a,us=[a]:=match us,h with | [a],_=>#[a,A5]
def us_2 {α:Type}{us:List α}(h:us.length=2):∃a b,us=[a,b]:=match us,h with | [a,b],_=>#[a,b,A5]
def us_3 {α:Type}{us:List α}(h:us.length=3):∃a b c,us=[a,b,c]:=match us,h with | [a,b,c],_=>#[a,b,c,A5]
def us_4 {α:Type}{us:List α}(h:us.length=4):∃a b c d,us=[a,b,c,d]:=match us,h with | [a,b,c,d],_=>#[a,b,c,d,A5]
open PyProof.Rows PySem.W PySem.Calls
end L2
namespace L3
open L2
section
variable {X:Cx}{Pn:PN}{M S:AR}{fr fr':Bool}{e a b c:Expr}{es:AO}{f fa fb fc:AD}{pos p:Pos}
variable {K:AH}
abbrev dInB:W->W->Mo W:=λx y n Q=>onB x λb=>onL y λl=>∃bs:List Bool,l=bs.map .bl/\Q (.d (.bl (bs.contains b))) n
end
end L3
namespace L2
open PyProof.Rows PySem.W PySem.Calls
section
variable {prog:Aa}{w:Ab}{A:Ae}{E:AA}{s:AZ}
variable {X:Cx}
end
end L2
namespace L3
open L2
section
variable {X:Cx}{Pn:PN}{M S:AR}{fr fr':Bool}{pos p:Pos}{e:Expr}{f:AD}
abbrev dSAdd (P:Aa) (w:Ab) (i:Nat) (f:AD):Ms:=λD n k=>onV D i λv=>∃ks,v = .ss P w ks/\f D n λx m=>∃st:AG,x = .d 'T'/\ks.length<300/\
 ∀q:AF,(∀y,y∈q↔y=st\/y∈ks)->q.length<=ks.length+1->q.Nodup->onP D i (.ss P w q) λB=>k.nx B m
abbrev dSortS (P:Aa) (w:Ab):AU->Mo W:=λB n Q=>on1 B λx=>∃ (ks:AF) (m:Nat),x = .ss P w ks/\ks.length<64/\1<=m/\(∀st∈ks,st.length=m)/\∀q:AF,q.Perm ks->'Ʊ'->Q (.d (zbP q)) n
end
def zhq {α:Type}{p:List α->Prop}(q:p [])(hs:∀l x,p l->p (l++[x]))(l:List α):p l:=by
 have h:∀l:List α,p l.reverse:=λl=>by
  induction l with
  | nil=>show q
  | cons x l B=>rw[eu];show hs _ _ B
 have:=h l.reverse;grind
def zgR {α:Type}(a b:List α)(i:Nat)(d:α)(h:i<a.length):(a++b).getD i d=a.getD i d:=by grind
def zmf:∀ {cs:AF} {st:AG},st∈yg cs↔st.length=cs.length/\∀i,i<cs.length->st.getD i 0∈cs.getD i []:=by
 intro cs;show zhq (p:=λcs=>∀ {st:AG},st∈yg cs↔st.length=cs.length/\∀i,i<cs.length->st.getD i 0∈cs.getD i []) ?_ ?_ cs;intro st;simp[yg,List.length_eq_zero_iff];intro cs c I st;rw[yE];unfold ui;rw[fY];constructor;rintro⟨r,J,h⟩;obtain⟨w,O,rfl⟩:=aJ.mp h;obtain⟨h1,h2⟩:=I.mp J;show#[by simp[h1],λi hi=>?_];simp at hi;by_cases e:i=cs.length;right;grind;rintro⟨h1,h2⟩;simp at h1;have q:st≠[]:=λz=>by rw[z] at h1;simp at h1
 have F:=bF q;have B:st.dropLast.length=cs.length:=by simp[h1]
 show#[st.dropLast,I.mpr #[B,λi hi=>?_],aJ.mpr #[st.getLast q,?_,F]];have:=h2 i (by simp;omega);rw[zgR _ _ _ _ hi] at this;rw[<- F,zgR _ _ _ _ (by omega)] at this;show this;have:=h2 cs.length '$';rw[<- F] at this;have e:(st.dropLast++[st.getLast q]).getD cs.length 0=st.getLast q:=by simp[<- B]
 right
def zoe:∀ (cs:AF),(∀c∈cs,c.Pairwise (· < ·))->Up' (yg cs):=by
 intro cs;show zhq (p:=λcs=>(∀c∈cs,c.Pairwise (· < ·))->Up' (yg cs)) ?_ ?_ cs;intro _;simp[yg,Up'];intro cs c F h;have I:=h c '$';have F:=F λd J=>h d (by simp[J]);rw[yE];have q:=zdh cs;generalize yg cs=rows at F q;unfold ui Up';rw[fR];constructor;intro r hr;rw[bM];show I.imp λ{a b} B=>?_;show lex_app r B;show (List.Pairwise.and_mem.mp F).imp λ{a b} ⟨O,U,B⟩=>?_;intro x Y y Z;obtain⟨v,_,rfl⟩:=aJ.mp Y;obtain⟨w,_,rfl⟩:=aJ.mp Z;show lex_pre ((q a O).trans (q b U).symm) B
where
 lex_app:∀ (r:AG) {a b:Int},a<b->HT.lexLt (r++[a]) (r++[b])=true
  | [],a,b,h=>by
   change (if a=b then HT.lexLt [] [] else decide (a<b))=true;grind
  | x::r,a,b,h=>by change (if x=x then HT.lexLt (r++[a]) (r++[b]) else decide (x<x))=true;rw[if_pos rfl];show lex_app r h
 lex_pre:∀ {r t:AG} {a b:Int},r.length=t.length->HT.lexLt r t=true->HT.lexLt (r++[a]) (t++[b])=true
  | [],[],_,_,_,h=>by rw[zX] at h;cases h
  | [],_::_,_,_,h,_=>by simp at h
  | _::_,[],_,_,h,_=>by simp at h
  | x::r,y::t,a,b,hl,h=>by
   have h:(if x=y then HT.lexLt r t else decide (x<y))=true:=h;change (if x=y then HT.lexLt (r++[a]) (t++[b]) else decide (x<y))=true;by_cases e:x=y;rw[if_pos e] at h ⊢;show lex_pre (by simpa using hl) h;right
end L3
namespace L3
open L2
def IsP (Pn:PN)(p:Addr):Prop:=∃c ns,Pn=#['·',J0]
def dc{zy:Int}(q:IsP Pn p)(h:∀r,0<=r->r<zy->Q (.d (.int r)) (n+1))(B:n<=1000000:=by lia)(h1:1<=zy:=by lia)(h2:zy<1073741824:=by lia):zqY Pn [.pen p,.d (.int zy)] n Q:=let ⟨c,ns,e⟩:=q;#[p,c,ns,zy,e,A5,B,h1,h2,h]
def tc(q:IsP Pn p)(h:∀l':AS,l'.Perm l->Q (.d (.lst l')) (n+l.length))(B:n+l.length<=1000000:=by lia)(h1:l.length<=100000:=by lia):zq1 Pn [.pen p,.d (.lst l)] n Q:=let ⟨c,ns,e⟩:=q;#[p,c,ns,l,e,A5,B,h1,h]
def zc4 {m b:Int}:b∈zl m↔0<=b/\b<m:=by
 unfold zl;rw[aJ];constructor;rintro⟨k,q,rfl⟩;grind;rintro⟨B,h1⟩;show#[b.toNat,aL.mpr '!',by lia]
end L3
namespace L3
open L2
def zgm {rm st:AG}(h:StOk rm st):st∈yg 't':=by
 rw[zmf];have q:=h.len;show#[by grind,λi hi=>?_];rw[ae] at hi;have e:'t'.getD i []=zl (rm.getD i 0):=by simp[hi]
 rw[e,zc4];have:=h.box (i:Int) '!' '!';rw[x8,x8] at this;show this
def zd4 {rm st:AG}{b x:Int}(h:StOk rm st)(q:0<=b)(J:b<rm.length)(O:0<=x)(U:x<zy rm b):StOk rm (chg st b x):=by
 have F:=h.len;show#[by rw[zft q '!'];show F,λc B I=>?_];rw[uB q '!' B];split;right;show h.box c B I
end L3
namespace L3
open L2
def lpE (bk:AW)(q:Int)(st:AG):List 'W':=(lpF bk q st).map λr=>(r.getD 0 0,r.getD 1 0)
def ziG {α:Type}(l:List α)(k:Nat):ux l 'ÿ' none=l.drop k:=by
 unfold ux
 have h1:HT.sIx l.length 0 'ÿ'=min k l.length:=by unfold HT.sIx;simp;try lia
 have h2:HT.sIx l.length l.length none=l.length:=rfl;rw[h1,h2,bw '$'];right
end L3
namespace L3
open L2
end L3
namespace L2
open PyProof.Rows PySem.W PySem.Calls
section
variable {X:Cx}{A6:AB}{G:St}{H:Hp}{s:AZ}{a:Addr}
def Inv.frz {A7:List (AG×V)}(I:')')(h:H a=some (dtO A7)):∃ob,Inv X A6 G (upd H a (.frz ob (dtO A7))) s:=by obtain⟨z,lo,xs,r,o,es,ep,h1,h2,F,J,O⟩:=(show zJ X.prog X.w H s.heap a (.dT (zjB A7)) from I.hok a _ h);show#[o,I.write (x:=a) (e:=a) (h':=s.heap) (t':=s.toks) (by rw[h];trivial) 'h' (λ_ _ _ e=>e) #[o,h1] #[h1,z,lo,xs,Paired.imp' (λp q y=>?_) r,o,es,ep,h1,h2,F,J,O]];obtain⟨U,B,Y⟩:=y;show#[U,by rw[zc (λy=>by rw[y,h] at B;cases B)];show B,Y]
def tFrz (te:TE):TE:=λG H Q=>te G H λx H1=>∃a ks,x = .ref a/\H1 a=some (dtO ks)/\∀ob,Q x (upd H1 a (.frz ob (dtO ks)))
def zsY(h:'|'):QE X e (tFrz te):=#[by
 intro A6 s G H Q I q;show thn (h.run A6 s G H _ I q) ?_;rintro v O ⟨x,H1,I1,B,a,ks,rfl,F,J⟩;obtain⟨ob,I2⟩:=I1.frz F;show#[_,_,I2,B,J ob]]
end
end L2
namespace L3
open L2
def zmA{ks:List (AG×V)}(h:y8 Pn A n H)(hp:H p=some (dtO ks)):y8 Pn A n (L2.upd H p o):=by
 show#[?_,Pn.J.frz h.2 hp (zhO _) A5];have h:=h.1;split at h;trivial;show#[?_,h.2];obtain⟨h1,_⟩:=h;obtain⟨a,l,g1,g2⟩:=h1.ob;show 'ȗ'
abbrev onZ (w:W) (P:List (AG×Dt)->Prop):Prop:=match w with | .df i=>P i | _=>False
def zsf{P:List (AG×Dt)->Prop}:onZ w P = ∃i,w = .df i/\P i:=propext #['š','9']
section
variable {X:Cx}{Pn:PN}{M S:AR}{fr fr':Bool}{pos p:Pos}{e a b c:Expr}{f fa fb fc:AD}
abbrev dFrz (f:AD):AD:=λD n Q=>f D n λx m=>onE x λA7=>Q (.df A7) m
def zuX (h:JE X Pn M true e f):JE X Pn M false e (dFrz f):=by
 obtain⟨te,q,r⟩:=h.ex;show#[_,zsY q,'b'];show r.run A G H D n _ _ E P hf λw m v H' F hv g Y=>?_;rw[zse] at F;obtain⟨A7,rfl,F⟩:=F;obtain⟨O,Z,B,_,ab,ks,e2,h1,h2⟩:=Y A5;subst Z;cases e2;have nA:=E.newF B;show#[O,ks,A5,h1,λob=>k _ m _ _ F #[O,ob,ks,A5,zv nA zg,h2.stay λb o I J=>?_] #[λb o I J=>?_,?_] λz=>by cases z];obtain⟨U,z2⟩:=zY.mp I;show zv (λy=>U (.inl y)) (by rw[zc λy=>U (.inr y)];show z2);rw[zc λy=>by subst y;show B o I J];show g.st b o I J;show zmA g.pn h1
abbrev dItF (fa:AD):AC:=λD n Q=>fa D n λx m=>onZ x λA7=>'Ġ'.Nodup->Q (A7.map λq=>W.d (stD q.1)) m
abbrev zur (fd fk:AD):AD:=λD n Q=>fd D n λx n1=>fk D n1 λy n2=>onZ x λA7=>∃st,y = .d 'T'/\onO (yI A7 st) λd=>Q (.d d) n2
def zrc{A7:List (AG×Dt)}(h:Bor A H (.df A7) v):∃q ks,v = .ref q/\Rd H q (dtO ks)/\xO '7' A7 ks:=by obtain⟨q,ob,ks,e,h1,h2⟩:=h;show#[q,ks,e,.inr #[ob,h1],h2]
def zgt.z {H:Hp}{a b:Addr}{A7:List (AG×V)}{st:AG}(e:Rd H a (dtO A7))(q:H b=some (.tup 'Ĝ')):zgt H a 'q' (zby A7 st):=
 .inr #[_,st.map Sum.inl,b,e,A5,by rw[zfQ];show q,(zlY A7 st).symm]
def zfS (I:'Ë')(J:'ê')(O:JB X Pn M b fb)(hs:ztR b):JE X Pn M false 'Ƈ' (zur fa fb):=by obtain⟨ta,U,ra⟩:=J.ex;obtain⟨tb,Y,rb⟩:=O.ex;show#[_,ud I U Y hs,'b'];show ra.run A G H D n _ _ E P hf λw1 Z v1 H1 r1 b1 g1=>?_;show rb.run A G H1 D Z _ _ 'Ğ' g1.pn r1 λw2 m2 v2 H2 q b2 g2=>?_;rw[zsf] at q;obtain⟨A7,rfl,st,rfl,q⟩:=q;rw[zc6] at q;obtain⟨d,e3,r⟩:=q;obtain⟨ad,ks,rfl,B,hk⟩:=zrc (b1.stay g2.st);obtain⟨bd,xs,rfl,F,hx⟩:=xJ b2;obtain rfl:=hx.of_ints;obtain⟨v,h1,h2⟩:=(hk.look (k:=st)).2 d e3;show#[ad,v,A5,?_,k _ m2 _ H2 r (Val.of h2) (g1.trans g2) λz=>by cases z];rw[<- h1];show zgt.z B F
abbrev dGetFD (fd fk q:AD):AD:=λD n Q=>fd D n λx n1=>onZ x λA7=>fk D n1 λy n2=>q D n2 λz n3=>∃st,y = .d 'T'/\onD z λi=>Q (.d ((yI A7 st).getD i)) n3
abbrev dDictL:AU->Mo W:=λB n Q=>on1 B λx=>∃A7:List (AG×Dt),x = .d (.lst (A7.map λq=>Dt.tup [stD q.1,q.2]))/\'Ġ'.Nodup/\A7.length<=lim/\Q (.dt A7) n
end
def zlx(xs:AF)(hl:l=xs.map λi=>W.d (stD i))(J:Ev->Prop)(P:AG->Bool)(E:AG->Dt)(hN:xs.Nodup)(ac:xs.length<=lim)(j0:J O)(h:∀a∈xs,∀ F,J F->∀C:Ev->Nat->Option (AG×Dt)->Prop,(∀ {B},P a=true->J B->C B n (some (a,E a)))->(∀ {B},P a=false->J B->C B n none)->mg (.d (stD a)) F λB=>ft B n λb n2=>onC b (fk B n2 λy n3=>fv B n3 λx Y=>∃j,y = .d (stD j)/\onD x λd=>C B Y (some (j,d))) (C B n2 none))(fin:Q (.dt ((xs.filter P).map λa=>(a,E a))) n):zny mg ft fk fv O Q l n:=by
 subst hl;show#['9',λi F Z acc=>J F/\Z=n/\acc='á'.map λa=>(a,E a),#[j0,A5,A5],?_,?_];rintro i w F Z acc hw ⟨hj,rfl,rfl⟩;rw[aF] at hw;obtain⟨a,U,rfl⟩:=aI.mp hw
 have:=h a (aB U) F hj (λB Y o=>match o with
  | some q=>J B/\Y=Z/\ze1 ('á'.map λa=>(a,E a)) q.1 q.2='Ō'.map λa=>(a,E a)
  | none=>J B/\Y=Z/\('á'.map λa=>(a,E a))='Ō'.map λa=>(a,E a)) (λ{B} hp I=>by
   show#[I,A5,?_];have hi:=(ai.mp U).1;have hn:(('á'.map λa=>(a,E a)).any λkv=>decide (kv.1=a))=false:=by rw[List.any_eq_false];intro kv ab z;obtain⟨b,hb,rfl⟩:=aJ.mp ab;have e:b=a:=bh z;subst e;obtain⟨j,hj,e2⟩:=cE.mp (bJ.mp hb).1;rw[bi] at hj;rw[io] at e2;have e3:=(ai.mp U).2;rw[<- e3] at e2;have:=(dh hN).mp e2;lia
   unfold ze1;rw[hn,if_neg '#',zj U,dE,aO]
   simp[hp]) (λ{B} hp I=>by
   show#[I,A5,?_];rw[zj U,dE,aO];simp[hp])
 simp only[zaD,xF] at this;grind;grind
abbrev lpD (bk:AW) (b:Int) (st:AG):Dt:=.lst ((lpE bk b st).map yq)
abbrev rowD (rm:AG) (bk:AW) (st:AG):Dt:=.lst ('ď'.map λb:Nat=>lpD bk (b:Int) st)
def ztI {l:AF}(h:Up' l):l.Nodup:=h.imp λh e=>by subst e;rw[zX] at h;cases h
def zgz (rm:AG):'j'.Nodup:=ztI (zoe _ λc q=>by obtain⟨m,_,rfl⟩:=aJ.mp q;unfold zl;rw[bM];show List.pairwise_lt_range.imp λh=>by lia)
def zog {rm:AG}(q:RoomOk rm):'j'.length<=65536:=by
 have:=zgy q.few q.box rm.length;right
def zfI {rm:AG}{g:List 'W'}(h:Giv rm g):g.length<=rm.length:=by
 have:=zb7 (l:=g.map '%') (l':=zl rm.length) (bM.mpr (h.up.imp λh e=>by lia)) λx B=>by obtain⟨q,F,rfl⟩:=aJ.mp B;have:=h.ok q F;show zc4.mpr #[this.1,this.2.1]
 rw[ae,xU] at this;lia
structure CS (Pn:PN)(A:AL)(acc:Addr)(H1:Hp)(cM:AR)(σc:St)(ρc:Ev)(G:St)(H:Hp)(D:Ev)(n:Nat)(ds:AS):Prop where
 env:EnvR (λb=>A b\/b=acc) cM G H D
 pn:y8 Pn (λb=>A b\/b=acc) n H
 ac:∃xs,H acc=some (.lst xs)/\IsL (zF (λb=>A b\/b=acc) H) ds xs
 st:zq (zF A H1) (zF (λb=>A b\/b=acc) H)
 s1:zq H1 H
 fx:∀k∈cM,G[k]?=σc[k]?/\D[k]?=ρc[k]?
section
variable {X:Cx}{Pn:PN}{M S cM:AR}{fr fr':Bool}{e:Expr}{es:AO}{pos:Pos}{A:AL}{acc:Addr}{H1 H H':Hp}{σc G:St}{ρc D:Ev}{n m:Nat}{ds:AS}
def CS.go (c:CS Pn A acc H1 cM σc ρc G H D n ds)(s:zq H H')(p:y8 Pn 'A' m H'):CS Pn A acc H1 cM σc ρc G H' D m ds:=
 #[c.env.stay s,p,let ⟨xs,h1,h2⟩:=c.ac;#[xs,s.lst h1,h2.stay (zr s)],c.st.trans (zr s),c.s1.trans s,c.fx]
def inR (mg:'U')(ft:'O')(J:AD)(B:Ev)(F:AS)(K:Ev->Nat->AS->Prop):AU->Nat->Prop:=λl n1=>∃I:Nat->Ev->Nat->AS->Prop,I 0 B n1 F/\
 (∀i w D n ds,l[i]?=some w->I i D n ds->mg w D λq=>ft q n λb n2=>if b=true then J q n2 λx n3=>∃d,x = .d d/\ds.length<=lim/\I '(' q n3 (ds++[d]) else I '(' q n2 ds)/\
 ∀ D n ds,I l.length D n ds->K D n ds
def zrd (mg:'U')(ft:'O')(B:AC)(F:'U')(J:'O')(U:AD)(O:Ev)(Q:AV):AU->Nat->Prop:=λl n1=>∃I:Nat->Ev->Nat->AS->Prop,I 0 O n1 []/\
 (∀i w D n ds,l[i]?=some w->I i D n ds->mg w D λq=>ft q n λb n2=>if b=true then B q n2 (inR F J U q ds (I '(')) else I '(' q n2 ds)/\
 ∀ D n ds,I l.length D n ds->Q (.d (.lst ds)) n
abbrev mComp2 (I:AC) (mg:'U') (ft:'O') (q:AC) (B:'U') (F:'O') (J:AD) (A8:List '0'):AD:=λD n Q=>I D n (zrd mg ft q B F J 'E' Q)
def ztG(h:∀C s H ex,JI '-' Pn M ow tg e q):∃te,(∀C s H ex,QI '-' tg e te)/\RI Pn M ow te q:=
 #[λG H Q=>∀C s H0 ex,'ă'.ex.choose G H Q,λC s H0 ex=>'ƍ',
  'Ƌ']
end
end L3
namespace L2
open PyProof.Rows PySem.W PySem.Calls
section
variable {X:Cx}{A6:AB}{G:St}{H:Hp}{s:AZ}{a:Addr}
end
end L2
namespace L3
open L2
abbrev onY (w:W) (P:List (Key×Dt)->Prop):Prop:=match w with | .kf i=>P i | _=>False
section
variable {X:Cx}{Pn:PN}{M S:AR}{fr fr':Bool}{pos p:Pos}{e a b c:Expr}{f fa fb fc:AD}
abbrev dFrzK (f:AD):AD:=λD n Q=>f D n λx m=>onK x λA7=>Q (.kf A7) m
abbrev dItK (fa:AD):AC:=λD n Q=>fa D n λx m=>onY x λA7=>∃ns:AG,A7.map '%'=ns.map Sum.inl/\Q (ns.map λi=>W.d 'P') m
abbrev dGetY (fd fk:AD):AD:=λD n Q=>fd D n λx n1=>fk D n1 λy n2=>onY x λA7=>onI y λi=>onO (yI A7 (Sum.inl i)) λd=>Q (.d d) n2
abbrev dListY:AU->Mo W:=λq n Q=>on1 q λx=>onY x λA7=>∃ns:AG,A7.map '%'=ns.map Sum.inl/\Q (.d (.lst 'µ')) n
abbrev dRetT (f:AD) (i:Nat):Ms:=λD n k=>f D n λw m=>onD w λd=>onV D i λx=>onL x λl=>k.rt (.d (.tup [d,.lst l])) m
end
end L3
namespace L2
open PyProof.Rows PySem.SeqAt
section
variable {prog:Aa}{w:Ab}{t:SetTable}{es:Array (Int×Value)}{xs:List (List Key×Addr)}{A:Ae}{E:AA}{s:AZ}
variable {X:Cx}
end
end L2
namespace L3
open L2
section
variable {X:Cx}{Pn:PN}{M S:AR}{fr fr':Bool}{pos p:Pos}{e o a b c:Expr}{es:AO}{f fo fa fc:AD}
abbrev dAug (F:Int->Int->Int) (i:Nat) (f:AD):Ms:=λD n k=>onV D i λx=>onI x λa=>f D n λy m=>onI y λb=>onP D i (.d (.int (F a b))) λq=>k.nx q m
abbrev dAugT (F:Int->Int->Int) (i:Nat) (fk f:AD):Ms:=λD n k=>onV D i λx=>onE x λA7=>fk D n λy m=>∃st,y = .d 'T'/\∃a,yI A7 st=some (.int a)/\f D m λw B=>onI w λb=>A7.length<lim/\onP D i (.dt (ze1 A7 st (.int (F a b)))) λq=>k.nx q B
abbrev dSetL (P:Aa) (w:Ab):AU->Mo W:=λq n Q=>on1 q λx=>∃A9:AF,x = .d (.lst (A9.map stD))/\(∀ks:AF,ks.Nodup->(∀z∈ks,z∈A9)->ks.length<300)/\∀ks:AF,ks.Nodup->(∀st,st∈ks↔st∈A9)->Q (.ss P w ks) n
abbrev dInS (P:Aa) (w:Ab):W->W->Mo W:=λx y n Q=>∃ (st:AG) (ks:AF),x = .d 'T'/\y = .ss P w ks/\∀c:Bool,(c=true↔st∈ks)->Q (.d (.bl c)) n
abbrev dItEF (fa:AC):AC:=λD n Q=>fa D n λq m=>on1 q λx=>onZ x λA7=>'Ġ'.Nodup->Q (enW 0 ('Ġ'.map stD)) m
abbrev zut (fo f:AD):AD:=λD n Q=>fo D n λx n1=>onL x λl=>f D n1 λy n2=>onD y λd=>d.eqOk/\(Dt.lst l).eqOk/\d∈l/\∀j:Nat,l[j]?=some d->(∀i,i<j->l[i]?≠some d)->Q (.d (.int j)) n2
abbrev snN:AU->(AU->Prop)->Prop
 | [],P=>P [.d .non]
 | a::r,P=>snN r λq=>P (a::q)
theorem zn3:∀ {q:AU} {P:AU->Prop},snN q P=P (q++[.d .non])
 | [],P=>rfl
 | a::r,P=>by rw[snN,zn3];rfl
theorem zaR.non:∀ {q:AU} {vs:AT},zaR A H q vs->zaR A H (q++[.d .non]) (vs++[.non])
 | [],_,h=>by cases h;show#[_,_,A5,Val.of A5,A5]
 | _::_,_,⟨v,r,e,h1,h2⟩=>by subst e;show#[v,_,A5,h1,zaR.non h2]
abbrev dFnD (k:Nat) (F:AU->Mo W) (fs:AC):AD:=λD n Q=>fs D n λq m=>snN q λus=>zca k us (F us m Q)
def zuW(BB:DfnD X.K X.mg x st ps [Value.none] fA fd)(BA:FnOk X.prog X.w X.K X.mg X.base CX0 j fA fd ps (spV k fr F))(J:Room kk X.A)(O:JA X Pn M '=' fs)(q:j<=kk:=by ext)(U:Gl X x:=by rfl)(B:Ah x:=by ext)(Y:'g':=by rfl)(I:'¯':=by rfl) :
  JE X Pn M fr '¢' (dFnD k (F Pn) fs):=by
 obtain⟨ta,Z,ra⟩:=O.ex;show#[_,zsX (dv:=[.non]) BB (.cons A5 .nil) BA J Z q U B Y I,#[λA G H D n Q R E P hf kk=>?_]];show ra.run A G H D n _ _ E P hf λws m vs H1 h b g=>?_;rw[zn3,zbL] at h;show#[Pn,A,_,m,R,'¦'.al,b.non,h.1,g.pn,h.2,λw m' v H' h1 h2 h3 h4=>kk w m' v H' h1 h2 (g.trans h3) λz=>(h4 z).back g.st]
end
end L3
namespace L2
open PyProof.Rows
section
variable {X:Cx}{A6:AB}{G:St}{H BA G':Hp}{s:AZ}{d l:Addr}{ob:Obj}{A7:List (List Key×V)}
def Inv.frzL(I:')')(h:H l=some '+'):∃ob,Inv X A6 G (upd H l (.frz ob '+')) s:=by obtain⟨z,its,n,r,e⟩:=(show zJ X.prog X.w H s.heap l '+' from I.hok l _ h);show#[_,I.write (x:=l) (e:=l) (h':=s.heap) (t':=s.toks) (by rw[h];trivial) 'h' (λ_ _ _ e=>e) #[_,e] #[e,z,its,n,r,e]]
variable {e:Expr}{te:TE}
def zvW (te:TE):TE:=λG H Q=>te G H λx H1=>∃l xs,x = .ref l/\H1 l=some '+'/\∀ob,Q x (upd H1 l (.frz ob '+'))
def zpH (h:PE X e te):PE X e (zvW te):=λA6 s G H Q I q=>thn (h A6 s G H _ I q) λu F ⟨x,H1,I1,r,l,xs,ex,h1,B⟩=>by obtain⟨ob,I2⟩:=I1.frzL h1;show#[x,_,I2,r,B ob]
end
end L2
namespace L3
open L2
def zvr(h:∃h:Heap,h.get? d=some ob):¬ NP (kO d ob):=λn=>by have:=n [(Sum.inr "at",.non)] (by unfold kO pnK;dsimp only;rw[if_pos #[d,ob,h,A5]]);cases this
section
variable {K:AH}{P:Aa}{w:Ab}{C:Addr}{H:Hp}{Q:VK}{E:XK}{BB:Ends}
end
end L3
namespace L2
open PyProof.Rows PySem.SeqAt
section
variable {X:Cx}
end
end L2
namespace L3
open L2
abbrev W.isD:W->Bool
 | .d _=>true
 | _=>false
section
variable {X:Cx}{Pn:PN}{M:AR}{fr:Bool}{e:Expr}{f:AD}
abbrev onFl (w:W) (P:AS->Prop):Prop:=match w with | .fl i=>P i | _=>False
abbrev dInF (q:Bool):W->W->Mo W:=λx y n Q=>onD x λd=>onFl y λds=>d.eqOk/\'Ú'.eqOk/\∀b:Bool,(b=true↔d∈ds)->Q (.d (.bl (xr q b))) n
variable {s:Stmt}{C fI fA:Addr}{dI dA:Ac}
end
end L3
namespace L2
open PyProof.Rows PySem.SeqAt
def okT:Nat->Dt->Bool
 | _,.non=>true
 | _,.int _=>true
 | _,.bl _=>true
 | _,.str x=>PyData.strOk x
 | n+1,.tup l=>l.all (okT n)
 | n+1,.lst l=>l.all (okT n)
 | _,_=>false
abbrev Dt.py (d:Dt):PyData:=PySem.W.kqdP d.toW
section
variable {P:Aa}{w:Ab}{H:Hp}{h:Heap}
variable {X:Cx}
end
end L2
namespace L3
open L2
section
variable {X:Cx}{Pn:PN}{M:AR}{e:Expr}{f:AD}{pos p:Pos}
abbrev dNeT:W->W->Mo W:=λx y n Q=>onD x λd=>onD y λe=>d=e/\okT 8 d=true/\Q (.d (.bl false)) n
abbrev dNiT:W->W->Mo W:=λx y n Q=>onD x λd=>onL y λds=>okT 8 d=true/\'Ú'.eqOk/\∀b:Bool,(d∈ds->b=true)->(b=true->∃e∈ds,PyData.eqv e.py d.py=true)->Q (.d (.bl (!b))) n
abbrev ztV (f:AD):AD:=λD n Q=>f D n λx n1=>onL x λl=>∃A9:AF,l=A9.map stD/\(∀ks:AF,ks.Nodup->(∀z∈ks,z∈A9)->ks.length<300)/\∀ks:AF,ks.Nodup->(∀st,st∈ks↔st∈A9)->Q (.d (.int (ks.length:Nat))) n1
end
end L3
namespace L2
open PyProof.Rows
section
variable {X:Cx}
end
end L2
namespace L3
open L2
section
variable {Pn:PN}
abbrev dMaxT:AU->Mo W:=λq n Q=>on1 q λx=>∃ns:AG,x = .d (stD ns)/\ns≠[]/\∀m,m∈ns->(∀x∈ns,x<=m)->Q (.d (.int m)) n
end
end L3
namespace L2
open PyProof.Rows
end L2
namespace L3
open L2
section
variable {X:Cx}{Pn:PN}{M S:AR}{fr:Bool}{a:Expr}{pos p:Pos}
end
end L3
namespace L2
open PyProof.Rows PySem.W PySem.SeqAt
section
variable {X:Cx}
end
end L2
namespace L3
open L2
section
variable {X:Cx}{Pn:PN}{M S:AR}{fr fr':Bool}{e:Expr}{f:AD}{pos:Pos}
abbrev mRem (i:Nat) (fk:AD):Ms:=λD n k=>onV D i λv=>onL v λl=>fk D n λy m=>onI y λj=>∃ns:AG,l=ns.map Dt.int/\j∈ns/\onP D i (.d (lsD (ns.erase j))) λq=>k.nx q m
end
end L3
namespace L3
open L2
section
variable {X:Cx}{Pn:PN}{M S:AR}{fr fr':Bool}{e:Expr}{f:AD}{pos:Pos}
end
end L3
namespace L2
open PyProof.Rows PySem.W PySem.Calls
section
variable {X:Cx}{pos:Pos}
end
end L2
namespace L3
open L2
section
variable {X:Cx}{Pn:PN}{M S:AR}{fr fr':Bool}{pos p:Pos}{e a b c:Expr}{f fa fb fc:AD}
abbrev dDisp1 (fk fv:AD):AD:=λD n Q=>fk D n λy m=>fv D m λx q=>∃st,y = .d 'T'/\onD x λd=>Q (.dt [(st,d)]) q
abbrev dNinT (fk fd:AD):AD:=λD n Q=>fk D n λy n1=>fd D n1 λx n2=>onE x λA7=>∃st,y = .d 'T'/\Q (.d (.bl (!(yI A7 st).isSome))) n2
abbrev dSortZ:AU->Mo W:=λF n Q=>on1 F λx=>onZ x λA7=>∃m:Nat,A7.length<64/\1<=m/\(∀q∈A7,q.1.length=m)/\∀B:AF,B.Perm 'Ġ'->(B.Pairwise λa b=>HT.lexLt a b=true)->Q (.d (zbP B)) n
abbrev dRetZ (i:Nat) (f:AD):Ms:=λD n k=>onV D i λx=>onE x λA7=>f D n λw m=>onD w λd=>k.rt (.tz A7 d) m
abbrev dIxZ:W->W->Mo W:=λx y n Q=>match x with
 | .tz A7 d=>match y with
  | .d (.int i)=>match i with
   | .ofNat 0=>Q (.df A7) n
   | .ofNat 1=>Q (.d d) n
   | _=>False
  | _=>False
 | _=>False
abbrev dForP (i:Nat) (F:AU->Mo W) (f1 f3:AD) (mg:'U') (fs:Ms):Ms:=λD n k=>f1 D n λw1 q=>onV D i λx=>onL x λl=>∃l' d,l=l'++[d]/\f3 (D.set i (some (.d (.lst l')))) q λw3 B=>F [w1,.d d,w3] B λw m=>onL w λr=>zoF mg fs (D.set i (some (.d (.lst l')))) k (r.map W.d) m
variable {p1 p2 p3 p4:Pos}{apos cpos:Pos}
abbrev dGetK (fd fk q:AD):AD:=λD n Q=>fd D n λx n1=>onK x λA7=>fk D n1 λy n2=>q D n2 λz n3=>onO (ztZ y) λk=>onD z λd=>Q (.d ((yI A7 k).getD d)) n3
end
end L3
namespace L2
open PyProof.Rows PySem.W PySem.Calls
section
variable {prog:Aa}{w:Ab}{A:Ae}{E:AA}{s:AZ}
variable {X:Cx}{pos:Pos}
end
end L2
namespace L3
open L2
section
variable {X:Cx}{Pn:PN}{M S:AR}{fr fr':Bool}{e:Expr}{f:AD}{pos:Pos}
abbrev dSetZ (i j:Nat) (f:AD):Ms:=λD n k=>f D n λw m=>match w with
 | .tz A7 d=>onP D i (.df A7) λq=>onP q j (.d d) λB=>k.nx B m
 | _=>False
variable {K:AH}
abbrev zuB:W->W->Mo W:=λx y n Q=>onB x λb=>onL y λl=>∃bs:List Bool,l=bs.map .bl/\Q (.d (.bl (!bs.contains b))) n
end
end L3
namespace L2
open PyProof.Rows PySem.W PySem.Calls
end L2
namespace L3
open L2
section
variable {X:Cx}{Pn:PN}{M S:AR}{es:AO}{pos:Pos}
abbrev dNinS (P:Aa) (w:Ab):W->W->Mo W:=λx y n Q=>∃ (st:AG) (ks:AF),x = .d 'T'/\y = .ss P w ks/\∀c:Bool,(c=true↔st∈ks)->Q (.d (.bl (!c))) n
abbrev eTpL (n:Nat) (u:AS->Ev->'>'->Prop):W->Ev->'>'->Prop:=λw D Q=>onL w λds=>zca n ds (u ds D Q)
variable {M':AR}{fr:Bool}
abbrev mRel (j:Nat) (fs:Ms):Ms:=λD n k=>onV D j λ_=>fs D n { rt:=k.rt,nx:=λ_ _=>False }
end
abbrev mNo:Ms:=λ_ _ _=>False
def zu2:JS X Pn S M fr st mNo:=#[λ_ _ _=>False,#[λ_ _ _ _ _ _ h=>h.elim],#[λ_ _ _ _ _ _ _ _ _ _ h=>h]]
end L3
namespace L2
open PyProof.Rows PySem.W PySem.Calls
section
variable {prog:Aa}{w:Ab}{A:Ae}{E:AA}{s:AZ}
def zfv(ho:s.heap.get? l=some o)(hc:o.cls = .type "tuple")(hd:o.data = .seq vs.toArray n)(hsz:vs.length<=sizeLine)(h:∀h':Heap,(∀b o,s.heap.get? b=some o->h'.get? b=some o)->Q vs '5'):Ag prog w A (collect (.ref l)) Q E s:=by
 unfold collect;show aa (wpAny_runValue (codeAny_builtin entry_proto_collect' ?_));change wpAny _ _ (do again (.builtin "list.__iadd__" #[[<- newList [],.ref l],[]])) _ _ s;show aa (ir (af #[Code.quiet_builtin _ 'S',codeAny_builtin entry_list_iadd' ?_]));change wpAny _ _ (Builtin.List.listExtendWith '°' (.ref l) '°') _ _ { s with heap:=s.heap.push 'Ď' };unfold Builtin.List.listExtendWith;have ho':(s.heap.push 'Ď').get? l=some o:=ah _ ho;show aa (dD (T := "tuple") #[o,ho',hc] ?_);have ht:(Value.type "tuple" == Value.type "tuple")=true:=by rfl
 rw[if_pos (by rw[ht];simp)];show aa (iD ho' hd ?_);show aa (iD (xs:=#v[]) (n:=0) (ar _ A5) A5 ?_);rw[if_neg '$'];show aa (gm (xs:=#v[]) (n:=0) (ar _ A5) A5 ?_ (aP _) (by change (#v[]++vs.toArray).size<=sizeLine+1;simp only[Array.size_append,aV,List.length_nil];omega));show af ?_
 change Ag prog w A (do
   let o <- load s.heap.objs.size
   match o.data with
   | .seq xs _=>pure xs.toList
   | _=>unsupported "internal:collect") Q E { s with heap:=(s.heap.push 'Ď').update s.heap.objs.size (Obj.mapSeq (·++vs.toArray)) }
 show aa (wpAny_load (get?_update_seq (ar _ A5) _) ?_);change wpAny _ _ (pure ((#v[]:AK)++vs.toArray).toList) Q E _;rw[show ((#v[]:AK)++vs.toArray).toList=vs by simp];show af (h _ λb o e=>((bn _ s.heap.objs.size _).2 b (aY (av e))).trans (ah _ e))
variable {X:Cx}
end
end L2
namespace L3
open L2
section
variable {X:Cx}{Pn:PN}
abbrev dSortP:AU->Mo W:=λB n Q=>on1 B λx=>onT x λl=>∃ (A9:AF) (m:Nat),l=A9.map stD/\A9.length<64/\1<=m/\(∀st∈A9,st.length=m)/\A9.Nodup/\∀q:AF,q.Perm A9->'Ʊ'->Q (.d (zbP q)) n
end
end L3
namespace L2
open PyProof.Rows
structure Fly (P:Aa)(w:Ab)(C:Addr)(outer:List Env)(H:Hp)(s:AZ)(e:Addr)(H':Hp)(s':AZ):Prop where
 os:s'.os=s.os
 bare:AllBare s'.gens
 un:Un (frs outer) [] H H' s.heap s'.heap
 hok:HOk P w H' s'.heap
 fly:∃B a0,Heap.FlyingW B outer e (.ref C) a0 s'.heap/\(∀b o,s.heap.get? b=some o->b∉frs outer->∃o',B.get? b=some o')/\∀b u,H' b=some u->∃o',B.get? b=some o'
def CX1 (P:Aa)(w:Ab)(C:Addr):CXT:=λouter H s E e s'=>∃q H',e = .ref q/\Fly P w C outer H s q H' s'/\E (.ref q) none H'
structure FrX (C:Addr)(E:XK)(X:Cx):Prop where
 stk:X.stack=X.env::X.outer
 frm:X.env.frame=some X.env.locals
 ex:X.ex=[]
 xe:X.xe=λe s'=>Af X (leaving X.env e) (λ_ s''=>CX1 X.prog X.w C X.outer X.H₀ X.s₀ E e s'') (λe' s''=>CX1 X.prog X.w C X.outer X.H₀ X.s₀ E e' s'') s'
section
variable {X:Cx}{A6:AB}{G:St}{H:Hp}{s:AZ}{C:Addr}{E:XK}
def zJ.there(x:zJ P w H h a o):∃u,h.get? a=some u:=by
 cases o with
 | lst xs=>obtain⟨_,_,_,_,e⟩:=x;show#[_,e]
 | tup xs=>obtain⟨_,_,_,_,e,_⟩:=x;show#[_,e]
 | dK A7=>obtain⟨_,_,_,_,o,_,_,e,_⟩:=x;show#[_,e]
 | dT A7=>obtain⟨_,_,_,_,o,_,_,e,_⟩:=x;show#[_,e]
 | set S n=>obtain⟨o,_,_,_,e,_⟩:=x;show#[_,e]
 | ins C dx fs=>obtain⟨_,_,_,e,_⟩:=x;show#[_,e]
 | own y=>show x
 | xd fs=>obtain⟨_,⟨_,_,_,e,_⟩,_⟩:=x;show#[_,e]
 | rng lo hi=>obtain⟨_,_,_,e⟩:=x;show#[_,e]
 | frz ob u=>show#[_,x.1]
 | tbl ps=>show#[_,show h.get? a=some _ from x]
 | met f y=>show#[_,show h.get? a=some _ from x]
 | ext q=>show x.2.1
def zbW {B O:Heap}(I:')')(Z:X.ex=[])(U:∀b o,X.s₀.heap.get? b=some o->b∉X.fs->∃o',B.get? b=some o')(Y:∀b u,H b=some u->∃o',B.get? b=some o')
  (b1:B.StaysIn s.heap) (b2:B.StaysIn O) (sm:s.heap.UpToSlots O):Un X.fs [] X.H₀ H X.s₀.heap O/\HOk X.prog X.w H O:=by
 have nx:∀b:Addr,b∉X.ex:=λb z=>by rw[Z] at z;cases z
 have F:∀ {b o o'},B.get? b=some o'->s.heap.get? b=some o->O.get? b=some o:=λ{b o o'} e1 e2=>by have:=b1 b o' e1;rw[e2] at this;cases this;show b2 b o e1
 have fr:∀ {b o},s.heap.get? b=some o->b∈X.fs->∃sl,O.get? b=some { o with slots:=sl }:=λ{b o} e J=>by obtain⟨_,u,hu,hd⟩:=I.funs.mem J;rw[e] at hu;cases hu;show sm b o e hd
 show#[#[λb o e n J _=>?_,λb o e n J _=>?_,λb o e n _=>I.base.free b o e n (nx b),λb o e _=>?_,I.base.tups,I.base.frzs,I.base.tbls],λa o e=>?_];obtain⟨o',h1⟩:=U b o e J;show F h1 (I.base.keep b o e n J (nx b));obtain⟨sl,h1⟩:=I.base.slot b o e n J (nx b);obtain⟨ab,h2⟩:=fr h1 J;show#[ab,h2];obtain⟨o',h1⟩:=I.base.there b o e (nx b);by_cases J:b∈X.fs;obtain⟨sl,h2⟩:=fr h1 J;show#[_,h2];obtain⟨o2,h2⟩:=U b o e J;show#[_,F h2 h1];show (I.hok a o e).stay (λb u J q=>?_) (λ_ q=>q) λ_ _ q=>q;rcases J with rfl | J;obtain⟨o2,h2⟩:=Y b o e;show F h2 q;obtain⟨o2,h2⟩:=Y b _ J;show F h2 q
def FrX.nolc(F:FrX C E X)(I:')')(e:X.s₀.heap.get? b=some o)(B:b∉X.fs):b∉frs X.stack:=λz=>by
 rw[F.stk] at z;unfold frs at z;rw[bu,F.frm] at z;rcases au.mp z with q | q;have:=av e;rw[q] at this;show absurd (aU this I.ok.above) (cJ _);show B q
def FrX.pass (F:FrX C E X):zgu (CX1 X.prog X.w C) X E:=by
 rintro A6 G H s e s' I ⟨Y,H',rfl,fl,Z⟩;rw[F.xe];have I':Inv X A6 G H' s':=I.call' (ch:=[]) fl.os fl.un fl.hok fl.bare λb z=>by cases z
 obtain⟨B,a0,O,c1,U⟩:=fl.fly;show wpAny_leaves_onW (base:=B) (by rw[I.ok.frames,F.stk]) F.frm (by rw[<- F.stk];show O) λab J sm=>?_;have q:∀b o,X.s₀.heap.get? b=some o->b∉X.fs->∃o',B.get? b=some o':=λb o e hb=>by obtain⟨o',h1⟩:=I.base.there b o e (by rw[F.ex];show λz=>by cases z);show c1 b o' h1 (F.nolc I e hb)
 obtain⟨u,k⟩:=zbW I' F.ex q U O.1 J.1 sm;show#[Y,H',A5,#[I'.os,I'.bare,u,k,B,a0,J,q,U],Z]
def FrX.raised(F:FrX C E X)(I:')')(O:Heap.MadeExcOf s.heap h' e '¡' vs)(Z:E (.ref e) none H):X.xe (.ref e) '5':=by
 rw[F.xe];have I':Inv X A6 G H '5':=I.kept (t':=s.toks) O.keeps;have st:=I.stack;rw[F.stk] at st;have U:∀env∈X.env::X.outer,∀a,env.frame=some a->a∈frs X.stack:=λenv he a ha=>by rw[F.stk];show dB.mpr #[env,he,ha]
 show wpAny_leaves_madeW (base:=PySem.W.hideAll s.heap (frs X.stack)) (h:=s.heap) (by rw[I.ok.frames,F.stk]) F.frm (λb o q=>gL _ q) (PySem.W.funFrames_hide st U) O λab t Y _ _ sm=>?_;have B:∀b o,X.s₀.heap.get? b=some o->b∉X.fs->∃o',(PySem.W.hideAll s.heap (frs X.stack)).get? b=some o':=λb o q hb=>by obtain⟨o',h1⟩:=I.base.there b o q (by rw[F.ex];show λz=>by cases z);show#[o',gr _ h1 (F.nolc I q hb)]
 have J:∀b u,H b=some u->∃o',(PySem.W.hideAll s.heap (frs X.stack)).get? b=some o':=λb u q=>by obtain⟨o',h1⟩:=(I.hok b u q).there;show#[o',gr _ h1 λz=>by rw[I.stkFree b z] at q;cases q]
 obtain⟨u,k⟩:=zbW I' F.ex B J (λb o q=>O.keeps b o (gL _ q)) Y.1 sm;show#[e,H,A5,#[I'.os,I'.bare,u,k,_,_,Y,B,J],Z]
end
def zjb {P:Aa}{w:Ab}{K:AH}{mg:AI}{base:Heap}{N:AM}{qual:Str}{scope:Scope}{f:Addr}{q:Value}{A:Ae}{outer:List Env}{s:AZ}{H:Hp}{E:XK}{C:Addr} :
  FrX C E (zbC (CX1 P w C) P w K mg base N qual scope f q A outer s H E):='ğ'
abbrev VE:AN:=[.type "ValueError",.type "Exception",.type "BaseException",.type "object"]
structure ExcC (K:AH)(mg:AI)(x:Str)(C:Addr):Prop where
 bound:mg x=some (.ref C)
 exc:PySem.W.excIn K C VE "ValueError.__new__" = true
def ExcC.own{K:AH}{mg:AI}{x:Str}{C:Addr}(c:ExcC K mg x C)(X:K.In h):OwnCls x C VE "ValueError.__new__" mg h:=by
 have q:=c.exc;show#[c.bound,?_];unfold PySem.W.excIn at q;split at q
 case h_2=>cases q
 case h_1 dd cd sl ho=>
  split at q
  case h_2=>cases q
  case h_1 C' bm k0 k1 k2 k3 n k5 hm hs=>
   simp only[aR,iG,ev] at q;obtain⟨⟨⟨⟨⟨J,O⟩,F⟩,U⟩,B⟩,I⟩:=q;subst J O
   cases cd with
   | mk nm bs Y ns Z hd sn sub ab col ac=>
    dsimp only at hm F B I;subst hm F
    cases sl with
    | mk l=>
     dsimp only at hs;subst hs;show#[bm,ns,nm,Z,bs,hd,sn,sub,ab,col,dd,k0,k1,k2,k3,k5,_,X _ _ ho,.of_isNs (PySem.W.isNs_of_in X B),PySem.W.nsMap_none_of_in X B I,PySem.W.tail_of_in X U]
section
variable {X:Cx}{C:Addr}{E:XK}{x m:Str}{np cpos pos p1:Pos}
def zmF {j}(F:FrX C E X)(Y:X.A.handled=none)(c:ExcC X.K X.mg x C)(Z:Gl X x)(O:Ah x:=by ext) :
  PS X (.Raise (some (.Call 'n' [.Constant (.str m) j p1] [] cpos)) none pos) (λ_ _ H=>∀e,E (.ref e) none H):=by
 intro A6 s G H BB I h;obtain⟨tl,N,nm,q,bs,hdct,sn,sub,ab,col,dd,k0,k1,k2,k3,k5,mN,hC,hN,U,T⟩:=(c.own I.ok.mod.kin).obj;have kp:∀ {B:AZ},Inv X A6 G H B->B.heap.get? C=some _/\B.heap.Ns N mN/\OwnTail B.heap VE tl:=λJ=>#[J.bk _ _ hC,hN.keeps J.bk,T.keeps J.bk]
 show wpAny_Raise_call_subT (C:=C) (nm:=nm) (q:=q) (N:=N) (bs:=bs) (bm:=tl) (hdct:=hdct) (sn:=sn) (sub:=sub) (ab:=ab) (col:=col) (dd:=dd) (k0:=k0) (k1:=k1) (k2:=k2) (k3:=k3) (k5:=k5)
  PySem.F.excBase_ValueError (mN:=mN) (T.hasType PySem.F.excBase_ValueError.hasBase) Y A5 U (zdz I Z c.bound #[A5,?_] O)
 change wpAny _ _ (evalArgs '¡' true (backTo cpos [(false,eval (.Constant (.str m) j p1) X.env)]) []) _ _ _;show @Calls.evalArgs_plain _ _ _ _ _ _ [] _ (gM (Calls.Constant_str (k:=j) (pos:=p1) (fK ?_)));have J:Inv X A6 G H 'ŵ':=I.tok _;show#[A5,by change 1<=sizeLine;decide,(kp J).1,(kp J).2.1,(kp J).2.2,λh' e hx=>F.raised J hx (h e)]
end
structure ExcI (K:AH)(C:Addr):Prop where
 exc:PySem.W.excIn K C VE "ValueError.__new__" = true
 ga:PySem.W.findIn K (.ref C) "__getattribute__" = some (some (.builtin "BaseException.__getattribute__"))
 gt:PySem.W.findIn K (.ref C) "__getattr__" = some none
 cl:PySem.W.findIn K (.ref C) "__class__" = some (some (.builtin "object.__class__"))
section
variable {prog:Aa}{w:Ab}{A:Ae}{E:AA}{K:AH}{C a:Addr}{o:Obj}{hp:Heap}{gs:Array GenState}{dr:Drawn}{tk:Nat}{oS:OsState}
def zox(c:ExcI K C)(X:K.In hp)(I:hp.get? a=some o)(J:o.cls = .ref C)(Z:R (.ok (.ret '¡')) '²') :
  codeAny '2' A (.call (.builtin "getset_descriptor.__get__") #[[.builtin "object.__class__",.ref a,.ref C],[]]) R '²':=by
 obtain⟨tl,N,nm,q,bs,hdct,sn,sub,ab,col,dd,k0,k1,k2,k3,k5,mN,O,hN,U,T⟩:='Ɩ'.obj;have Y:('²':AZ).TypeIs (.builtin "object.__class__") "getset_descriptor" := el;have B:(Value.ref C::tl).contains (.type (".".intercalate ("object.__class__".cutAt '.').dropLast))=true:=by rw[show (".".intercalate ("object.__class__".cutAt '.').dropLast) = "object" by decide +kernel,eY,T.hasType (b:=true) 'S'];rfl
 show codeAny_call_builtin PySem.F.slot_gs_get.plain PySem.F.entry_gs_get (PySem.F.slot_gs_get.check _ _ _ _ _ _ _ _ Y (PySem.F.args_gs_get _ _ _) ?_)
 repeat (any_goals (first | assumption | (with_reducible show cY I ?_;rw[J]) | (with_reducible show gI O ?_;rw[B]) | wp_step))
 show#[Code.quiet_builtin _ 'S',codeAny_builtin PySem.F.entry_object_class ?_]
 repeat (any_goals (first | assumption | (with_reducible show cY I ?_;rw[J]) | wp_step))
def zi2(c:ExcI K C)(X:K.In hp)(q:hp.get? a=some o)(B:o.cls = .ref C)(I:Q (.done (.ret '¡')) '²') :
  wpAny '2' A (Builtin.«object.__getattribute__» #[[.ref a,.str "__class__" u],[]]) Q E '²':=by
 have J:('²':Shared).TypeIs (.builtin "object.__class__") "getset_descriptor" := el;have O:=el;have U:=PySem.F.slot_gs_get.lookup;have Y:=PySem.F.slot_gs_set.lookup;have L:=ge (M:=model prog w) X c.cl
 repeat (any_goals (first | assumption | (with_reducible refine cY q ?_;rw[B]) | (with_reducible refine fZ L ?_) | wp_step))
 refine zox c X q B ?_
 repeat (any_goals (first | assumption | wp_step))
def zi1(c:ExcI K C)(X:K.In hp)(B:hp.get? a=some o)(I:o.cls = .ref C)(J:Q () '²') :
  wpAny M A (checkBuiltinCall "BaseException.__getattribute__" #[[.ref a,v],[]]) Q E '²':=by
 obtain⟨tl,N,nm,q,bs,hdct,sn,sub,ab,col,dd,k0,k1,k2,k3,k5,mN,O,hN,U,T⟩:='Ɩ'.obj;have Y:builtinKind "BaseException.__getattribute__" = some .slot:=by decide +kernel
 have Z:splitId "BaseException.__getattribute__" = some ("BaseException","__getattribute__"):=by decide +kernel
 have e3:(Value.ref C::tl).contains (.type "BaseException")=true:=by rw[eY,T.hasType (b:=true) 'S'];rfl
 have e4:=PySem.F.args_bexc_ga 'J' v;simp only[checkBuiltinCall,Y,Z];show aa ?_;unfold isInstance
 repeat (first | (with_reducible show cY B ?_;rw[I]) | (with_reducible show gI O ?_;rw[e3]) | wp_step)
 show J
def zlE(c:ExcI K C)(X:K.In hp)(q:hp.get? a=some o)(B:o.cls = .ref C)(I:R (.ok (.ret '¡')) '²') :
  codeAny '2' A (.call (.builtin "BaseException.__getattribute__") #[[.ref a,.str "__class__" u],[]]) R '²':=
 codeAny_call_builtin PySem.F.attrBase_ValueError.ga.plain PySem.F.entry_bexc_ga (zi1 c X q B (zi2 c X q B I))
def zru(c:ExcI K C)(X:K.In hp)(q:hp.get? a=some o)(B:o.cls = .ref C)(I:Q '¡' '²'):wpAny '2' A (getAttrBy 'J' (.str "__class__" u) false) Q E '²':=by
 have g3:=PySem.F.attrBase_ValueError.ga.bind 'J';have g2:(Value.builtin "BaseException.__getattribute__" == Value.builtin "object.__getattribute__")=false:=by decide +kernel
 have g1:(onTheHeap (Value.ref C)&&Value.builtin "BaseException.__getattribute__" == Value.builtin "object.__getattribute__")=false:=by rw[g2];rfl
 have L1:=ge (M:=model prog w) X c.ga;have L2:=ge (M:=model prog w) X c.gt
 repeat (any_goals (first | assumption | (with_reducible refine cY q ?_;rw[B]) | (with_reducible refine fZ L1 ?_) | (with_reducible refine fZ L2 ?_) | wp_step))
 refine zlE c X q B ?_
 repeat (any_goals (first | assumption | wp_step))
def zlD(c:ExcI K C)(X:K.In s.heap)(q:s.heap.get? a=some o)(B:o.cls = .ref C)(F:Q (some '¡') 'ŵ'):Ag prog w A (getAttr? 'J' "__class__") Q E s:=by
 obtain⟨hp,gs,dr,tk,oS⟩:=s;unfold getAttr? getAttrBy?
 repeat (any_goals (first | assumption | with_reducible apply zru c X q B | wp_step))
def EAt (a C:Addr)(h:Heap):Prop:=∃o,h.get? a=some o/\o.cls = .ref C
def zi3 (c:ExcI K C):PySem.W.KitX K 'J' '¡' (EAt a C) where
 ty:=λM h X ⟨o,h1,h2⟩=>λA Q E s k q=>by unfold typeOf;show aa (wpAny_loadPart (k _ _ h1) (by rw[h2];show af q))
 it:=λM h X _=>λA Q E s k q=>by obtain⟨tl,N,nm,I,bs,hdct,sn,sub,ab,col,dd,k0,k1,k2,k3,k5,mN,B,_⟩:='Ɩ'.obj;unfold isType loadHead;show aa (wpAny_loadPart (k _ _ B) (af q))
 ne:=λh O dd its n U X F=>by obtain⟨tl,N,nm,I,bs,hdct,sn,sub,ab,col,dd,k0,k1,k2,k3,k5,mN,B,_⟩:='Ɩ'.obj;show Bool.eq_false_iff.mpr λq=>?_;rw[Value.ref.inj (iG.mp q),F] at B;show absurd (congrArg Obj.cls (bK B)) (by unfold excClassObj;intro z;injection z with z;revert z;decide)
 ca:=λX ⟨o,h1,h2⟩ J=>zlD c X h1 h2 J
end
section
variable {X:Cx}{A6:AB}{G:St}{H:Hp}{s:AZ}
def Inv.other(I:')')(hn:n∉X.N):∃m,s.heap.Ns X.env.locals m/\∀ (h':Heap) (v:AJ) (t':Nat),h'.Ns X.env.locals (λx=>if x=n then v else m x)->Heap.SameBut X.env.locals s.heap h'->Inv X A6 G H 'Ģ':=by
 obtain⟨m,hN,hl⟩:=I.loc;have J:=I.cne;show#[m,hN,λh' v t' Y hs=>?_];have B:∀ {b o},X.s₀.heap.get? b=some o->b≠X.env.locals:=λe=>aY 'Ż';show#[I.ok,I.os,I.bare,#[λb o e n Z O=>(hs.2 b (B e)).trans (I.base.keep b o e n Z O),λb o e n Z O=>?_,I.base.free,λb o e O=>?_,I.base.tups,I.base.frzs,I.base.tbls],#[_,Y,λj y v' F e2 e3=>?_],λy c e=>?_,I.free,I.freeC,λp hp=>?_,λb ob e=>?_,I.len];obtain⟨sl,F⟩:=I.base.slot b o e n Z O;show#[sl,(hs.2 b (B e)).trans F];obtain⟨o',F⟩:=I.base.there b o e O;show#[o',(hs.2 b (B e)).trans F];obtain⟨u',r',q⟩:=hl j y v' F e2 e3;show#[u',r',?_];rcases q with ⟨k,e⟩ | ⟨k,c,e,z⟩;show .inl #[k,?_];have:y≠n:=λz=>hn (z ▸ aB F);simp[this,e];show .inr #[k,c,e,z.sameBut hs (J y c e)];obtain⟨w',z⟩:=I.cell y c e;show#[w',z.sameBut hs (J y c e)];obtain⟨e,n,ne,nf,d⟩:=I.pin p hp;show#[(hs.2 p.1 ne).trans e,n,ne,nf,d];show (I.hok b ob e).stay (λc w' U q=>(hs.2 c ?_).trans q) (λ_ q=>q) λ_ _ q=>q;rintro rfl;have:=I.free;rcases U with rfl | U;rw[this] at e;cases e;rw[this] at U;cases U
def Inv.track(I:')')(O:H e=none)(U:X.s₀.heap.get? e=none)(Y:e≠X.env.locals)(Z:∀x c,X.env.cells.lookup x=some c->c≠e)(hp:∀p∈X.pn++A6,p.1≠e)(F:zJ X.prog X.w (upd H e o) s.heap e o) :
  Inv X A6 G (upd H e o) s:=by
 have B:∀ {b u},H b=some u->b≠e:=λq z=>by rw[z,O] at q;cases q
 show#[I.ok,I.os,I.bare,#[I.base.keep,I.base.slot,λb u q n hx=>?_,I.base.there,λb xs q=>?_,λb u v q=>?_,λb ps q=>?_],I.loc,I.cell,by rw[zc Y.symm];show I.free,λx c q=>by rw[zc (Z x c q)];show I.freeC x c q,λp q=>?_,λb u q=>?_,I.len];rw[zc λz=>by rw[z,U] at q;cases q];show I.base.free b u q n hx;have:=I.base.tups b xs q;rw[zc (B this)];show this;have:=I.base.frzs b u v q;rw[zc (B this)];show this;obtain⟨more,z⟩:=I.base.tbls b ps q;show#[more,by rw[zc (B z)];show z];obtain⟨e1,n,nl,nf,d⟩:=I.pin p q;show#[e1,by rw[zc (hp p q)];show n,nl,nf,d];by_cases J:b=e;subst J;rw[zg] at q;cases q;show F;rw[zc J] at q;show (I.hok b u q).stay (λc v _ z=>z) (λc z=>by rw[zc (B z)];show z) λc xs z=>by rw[zc (B z)];show z
end
def zgO (e C:Addr):HO:=.ext (EAt e C)
def EAt.ok {P:Aa}{w:Ab}{H:Hp}{h:Heap}{e C:Addr}(x:EAt e C h):zJ P w H h e (zgO e C):=
 #[x,let ⟨o,h1,_⟩:=x;#[o,h1],λ_ _ ⟨o,h1,h2⟩ k=>#[o,k o h1,h2]]
def zqW (P:Aa)(w:Ab)(K:AH)(mg:AI)(base:Heap)(C:Addr)(k:Nat)(l:Addr)(fr0:AY)(q:AZ)(H:Hp)(QH:Hp->Prop):Prop:=
 ∀ (A:Ae) (outer:'[') (s:AZ),Room k A->Env0 P w K mg base A outer s H->(∀b∈frs outer,b∈fr0\/q.heap.objs.size<=b)->(∀b o,q.heap.get? b=some o->H b=none->b∉frs outer->s.heap.get? b=some o)->
  codeAny 'Ò' A (.call (.ref l) #[[],[]]) (λr s'=>∃e H',r = .error (.ref e)/\Fly P w C outer H s e H' s'/\QH H') s
section
variable {X:Cx}{A6:AB}{G:St}{H H':Hp}{s s':AZ}{C e:Addr}
def Fly.here (ab:'Ž')(ac:X.env.frame=some X.env.locals)(J:X.ex=[])(I:')')(f:Fly X.prog X.w C X.stack H s e H' s') :
  Inv X A6 G H' s'/\H' e=none/\X.s₀.heap.get? e=none/\(∀p∈X.pn++A6,p.1≠e)/\(∀b∈frs X.stack,b≠e)/\∀x c,X.env.cells.lookup x=some c->c≠e:=by
 have I':Inv X A6 G H' s':=I.call' (ch:=[]) f.os f.un f.hok f.bare λb z=>by cases z
 obtain⟨B,a0,fw,Z,c2⟩:=f.fly;obtain⟨_,O,_,oe,vs,_,_,_,he,_,hd,_⟩:=id fw;have F:∀ {o},B.get? e≠some o:=λz=>by rw[O] at z;cases z
 have U:e∉frs X.stack:=λz=>by obtain⟨_,o,ho,Y⟩:=I'.stack.mem z;rw[he] at ho;cases ho;show Y _ hd
 show#[I',?_,?_,λp hp z=>?_,λb hb z=>U (z ▸ hb),λx c hc z=>?_]
 cases q:H' e with
 | none=>rfl
 | some u=>obtain⟨o',h⟩:=c2 e u q;show absurd h F
 cases q:X.s₀.heap.get? e with
 | none=>rfl
 | some u=>
  obtain⟨o',h1⟩:=I.base.there e u q (by rw[J];show λz=>by cases z);obtain⟨o2,h2⟩:=Z e o' h1 U;show absurd h2 F
 obtain⟨h1,_⟩:=I.pin p hp;rw[z] at h1;obtain⟨o2,h2⟩:=Z e _ h1 U;show absurd h2 F;obtain⟨v,o,h1,h2⟩:=I'.cell x c hc;rw[z,he] at h1;cases h1;rw[hd] at h2;cases h2
variable {M:Model}{A:Ae}{E:AA}{K:AH}{BB:Addr}{oe:Obj}{hp:Heap}{gs:Array GenState}{dr:Drawn}{tk:Nat}{oS:OsState}
def zi4(c:ExcI K C)(d:ExcI K BB)(X:K.In hp)(sub:PySem.W.subIn K '¡' (.ref BB)=some true)(F:hp.get? e=some oe)(I:oe.cls = .ref C)(J:Q true '²') :
  wpAny M A (excMatches (.ref e) (.ref BB)) Q E '²':=by
 obtain⟨tl,N,nm,q,bs,hdct,sn,Y,ab,col,dd,k0,k1,k2,k3,k5,mN,B,Z,O,T⟩:=(ExcC.own (mg:=λ_=>some (.ref BB)) (x := "x") #[A5,d.exc] X).obj;have U:(Value.ref BB::tl).contains (.type "BaseException")=true:=by rw[eY,T.hasType (b:=true) 'S'];rfl
 have L:=PySem.W.looks_subIn (M:=M) X sub;have f:=tc_notTuple;unfold excMatches
 repeat (first | (with_reducible show cY F ?_;rw[I]) | with_reducible show cY B ?_ | (with_reducible show gI B ?_;rw[U]) | with_reducible show fZ L ?_ | wp_step)
 show J
variable {W l:Addr}{a c n wx:Str}{ia ic k:Nat}{ap cp ep wp p1 p2 p3 hp pos:Pos}{QH:Hp->Prop}
def zsM(F:'Ž')(O:X.env.frame=some X.env.locals)(Y:X.ex=[])(hr:Room k X.A)(bs:X.N[ia]?=some a)(bt:Vis X.env.scope a)(bx:X.N[ic]?=some c)(b0:Loc X.env.scope c)(nd:'«')(b1:X.fn c=true\/X.env.scope.names.lookup c=some .local)(hn:n∉X.N)(al:X.env.kindOf n=some .local)(ci:ExcI X.K C)(wi:ExcI X.K W)(hW:X.mg wx=some (.ref W))(hg:Gl X wx)(sub:PySem.W.subIn X.K '¡' (.ref W)=some true)(hl:X.s₀.heap.get? l=some ol)(b3:X.H₀ l=none)(b4:l∉frs X.stack)(b5:ol.data = .func fl)(a1:∀b∈frs X.stack,b∈fr0\/X.s₀.heap.objs.size<=b)(hA:zqW X.prog X.w X.K X.mg X.base C k l fr0 X.s₀ X.H₀ QH)(b6:Ah a:=by ext)(b7:(a=='ŀ')=false:=by ext)(b8:Ah wx:=by ext)(ca:Ah n:=by ext)(cd:swapsWith (.Name n p2) (some (.Name c p1)) p3.line X.env=pure false:=by rfl) :
  PS X (.Try 'Ƭ' [.ExceptHandler (some (.Name wx wp)) (some n) [.Assign [.Name c p1] (.Name n p2) p3] hp] [] [] pos)
   (λBB G H=>H=X.H₀/\G[ia]?=some (some (.ref l))/\∀e H',QH H'->H' e=none->BB.nx (G.set ic (some (.ref e))) (upd H' e (zgO e C))):=by
 intro A6 s G H BB I h;obtain⟨eH,ha,hD⟩:=h;subst eH
 have ab:∀ {s1:AZ},Inv X A6 G X.H₀ s1->∀b o,X.s₀.heap.get? b=some o->X.H₀ b=none->b∉frs X.stack->s1.heap.get? b=some o:=λJ b o q n hb=>
  J.base.keep b o q n (λz=>hb (by rw[F];unfold frs;rw[bu,O];show ak _ z)) (by rw[Y];show λz=>by cases z)
 show wpAny_Try_except (fV (wpAny_Expr_any (dS (aE (zke (X:=X.nox) bs bt b6 b7 A6 s G X.H₀ (λv H1=>v = .ref l/\H1=X.H₀) (I.wish _) #[_,ha,A5,A5]) ?_ λ_ _ z=>False.elim z)) I.quiet A5));rintro v s1 ⟨x,H1,I1,r1,rfl,rfl⟩;cases r1;have I1:=I1.unwish;show callWith_meth0 b5 (ab I1 l ol hl b3 b4) (wpAny_call (dW (hA X.A X.stack s1 hr I1.env0 a1 (ab I1)) λr Z hq=>?_));obtain⟨e,H',rfl,a2,hQ⟩:=hq;obtain⟨I2,a3,ch,cn,co,cu⟩:=a2.here F O Y I1;obtain⟨B,a0,fw,c1,c2⟩:=a2.fly;have c0:X.A.frames=some (X.env::X.outer):=by rw[I1.ok.frames,F]
 have c3:Heap.FlyingW B (X.env::X.outer) e '¡' a0 Z.heap:=by rw[<- F];show fw
 have ac:∀ {U:Heap} {t:Nat},B.StaysIn U->Z.heap.UpToSlots U->Inv X A6 G H' { Z with heap:=U,toks:=t }:=λ{U t} b2 sm=>by
  have a4:∀b o,X.s₀.heap.get? b=some o->b∉X.fs->∃o',B.get? b=some o':=λb o q hb=>by
   obtain⟨o',h1⟩:=I1.base.there b o q (by rw[Y];show λz=>by cases z);show c1 b o' h1 λz=>?_;rw[F] at z;unfold frs at z;rw[bu,O] at z;rcases au.mp z with y | y;have:=av q;rw[y] at this;show absurd (aU this I1.ok.above) (cJ _);show hb y
  have a5:∀ {b o o1},s1.heap.get? b=some o1->b∉frs X.stack->Z.heap.get? b=some o->U.get? b=some o:=λ{b o o1} q1 hb q2=>by obtain⟨o',h1⟩:=c1 b o1 q1 hb;have:=fw.1 b o' h1;rw[q2] at this;cases this;show b2 b o h1
  obtain⟨u,k⟩:=zbW I2 Y a4 c2 fw.1 b2 sm;obtain⟨m,hN,c4⟩:=I2.loc
  have ad:∀ {c v},Z.heap.IsCell c v->U.IsCell c v:=λ{c v} ⟨o,h1,h2⟩=>by
   obtain⟨sl,h3⟩:=sm c o h1 λvs z=>by rw[h2] at z;cases z
   show#[_,h3,h2]
  show#[I2.ok,I2.os,I2.bare,by rw[Y];show u,#[m,sm.ns hN,λi x v e1 e2 e3=>?_],λx c q=>?_,I2.free,I2.freeC,λp hp=>?_,k,I2.len];obtain⟨u',r',q⟩:=c4 i x v e1 e2 e3;show#[u',r',?_];rcases q with q | ⟨k,c,q,z⟩;show .inl q;show .inr #[k,c,q,ad z];obtain⟨v,z⟩:=I2.cell x c q;show#[v,ad z];obtain⟨q1,q2,q3,q4,q5⟩:=I2.pin p hp;obtain⟨g1,_⟩:=I1.pin p hp;show#[a5 g1 (λz=>?_) q1,q2,q3,q4,q5];rw[F] at z;unfold frs at z;rw[bu,O] at z;rcases au.mp z with y | y;show q3 y;show q4 y
 show wpAny_looks_onW c0 O c3 λh4 an c5=>wpAny_landsW an λh5 as c6=>?_;have sm:=c5.trans c6;have I5:Inv X A6 G H' { Z with heap:=h5 }:=ac (t:=Z.toks) as.1 sm;obtain⟨oe,he,da⟩:=as.there;show wpAny_handleBy_cons (codeAny_handlers_test (eE I5.ok.kind hg (Calls.loadGlobal_global (by rw[I5.ok.glob];show I5.mod.glob.keeps I5.bk) hW ?_) b8)) (by intro q;cases q);show zi4 ci wi I5.kIn sub he da ?_;show codeAny_handlers_suite_as (lands_againW as λh6 a7 db=>?_);have I6:Inv X A6 G H' { Z with heap:=h6 }:=ac (t:=Z.toks) a7.1 (sm.trans db);obtain⟨m,hN,dd⟩:=I6.other hn;have ag:'ȫ'=false:=by rw[I6.ok.kind];rfl
 show wpAny_storeName_local al hN (λh7 bb bc=>?_) ag;have bd:X.env.locals≠e:=co _ (by rw[F];unfold frs;rw[bu,O];show aq);have I7:=dd h7 (some (.ref e)) (Z.toks+1) bb bc;obtain⟨o6,g6,k6⟩:=a7.there;have I8:=I7.track (o:=zgO e C) a3 ch bd.symm cu cn (EAt.ok #[o6,(bc.2 e bd.symm).trans g6,k6]);show fV (wpAny_Assign_Name (wpAny_Name (wpAny_loadName_local I8.ok.kind al bb (show (if n=n then some (Value.ref e) else m n)=some (.ref e) from if_pos A5) ?_) ca) cd);show zd5 I8 nd bx b0 (v:=.ref e) A5 (λs9 I9=>gu ?_) b1;obtain⟨m9,de,bl⟩:=I9.other hn;show wpAny_nameGoes_keeps al de ag λdf dk bm bo=>?_;show#[_,_,bl df dk _ bm bo,hD e H' hQ a3]
end
def zgs (B:Obj)(q:Str):Prop:=∃vs F,B.data = .fields vs/\vs[1]?=some (.str q F)
def zeo (q:Obj):HO:=.frz q (.own 0)
def zhC (P:Aa)(w:Ab)(K:AH)(mg:AI)(base:Heap)(N:AM)(qual:Str)(scope:Scope)(l:Addr)(cv:Value)(cl:List 'ï')(A:Ae)(outer:'[')(s:AZ)(H:Hp)(C:Addr)(E:XK):Cx where
 prog:=P
 w:=w
 K:=K
 mg:=mg
 base:=base
 A:=A.deeper 'Ǯ'
 N:=N
 s₀:=s
 H₀:=H
 env:=PySem.W.envX qual scope s.heap.objs.size l cv cl
 outer:=outer
 stack:=PySem.W.envX qual scope s.heap.objs.size l cv cl::outer
 ex:=[]
 fn:=λ_=>false
 calm:=true
 pn:=[]
 xe:=λe s'=>wpAny 'Ò' (A.deeper 'Ǯ') (leaving 'Ǯ' e) (λ_ q=>CX1 P w C outer H s E e q) (λB q=>CX1 P w C outer H s E B q) s'
section
variable {P:Aa}{w:Ab}{K:AH}{mg:AI}{base:Heap}{N:AM}{qual:Str}{scope:Scope}{l:Addr}{cv:Value}{cl:List (Str×Addr)}{A:Ae}{outer:List Env}{s:AZ}{H:Hp}{C:Addr}{E:XK}
def zoI:FrX C E 'Ǩ':='ğ'
def zoU{G:St}{h1:Heap}(B:Env0 P w K mg base A outer s H)(hd:'ë')(hk:scope.kind = .function)(U:∀x y c,cl.lookup x=some c->cl.lookup y=some c->x=y)(Y:'Ȧ')(J:∀x c,cl.lookup x=some c->(∃v,s.heap.IsCell c v)/\H c=none)(O:∀ (i:Nat) (x:Str) (v:V),N[i]?=some x->G[i]?=some '¬'->Vis scope x->scope.names.lookup x=some .free/\∃u c,ye v u/\cl.lookup x=some c/\s.heap.IsCell c (some u))(Z:G.length=N.length)(hN:h1.Ns s.heap.objs.size (λx=>([]:List (Str×Value)).reverse.lookup x))(hs:Heap.SameBut s.heap.objs.size (s.heap.push o1) h1):Inv 'Ǩ' [] G H { s with heap:=h1,toks:=t1 }:=by
 have kp:∀b o,s.heap.get? b=some o->h1.get? b=some o:=λb o q=>(hs.2 b (aY (av q))).trans (ah _ q);have F:∀ {c v},s.heap.IsCell c v->h1.IsCell c v:=λ⟨o,g1,g2⟩=>#[o,kp _ _ g1,g2];have I:∀b:Addr,b∉'Ǩ'.ex:=λb z=>absurd (show b∈([]:AY) from z) '$'
 show#[#[B.mod,hk,A5,A5,aj _,U,Y,λ_ _ z=>(by cases z),λ_=>hd,Around.frames_deeper B.frames,.inr #[A5,A5],λb z=>absurd z (I b),B.bs,B.bsz,λb _ _=>I b,λb z=>absurd z (I b),B.funs,B.frf],
  rfl,B.bare,Un.kept kp,#[_,hN,λi x v q1 q2 q3=>?_],λx c q=>?_,B.hok.fresh '/',λx c q=>(J x c q).2,λp hp=>absurd (show p∈([]:AB) from hp) '$',B.hok.kept kp,Z]
 obtain⟨g1,u,c,r,g2,g3⟩:=O i x v q1 q2 q3;show#[u,r,.inr #[.inr g1,c,g2,F g3]];obtain⟨v,z⟩:=(J x c q).1;show#[v,F z]
def zlm(hp:bindArgs (PySem.W.kla_fn name qual params body scope cl pm (.ref J) U) #[[],[]]=pure [])(hk:scope.kind = .function)(ad:scope.isCoroutine=false)(Y:scope.isGenerator=false)(ag:∀x∈scope.names,x.2≠.cell)(hl:B.heap.get? l=some (PySem.W.kla_obj name qual params body scope cl pm J U))(al:H l=none)(an:l∉fr0)(as:H J=some (zeo oc))(a0:zgs oc qual)(a1:∀x y c,cl.lookup x=some c->cl.lookup y=some c->x=y)(a2:'Ȧ')(Z:∀x c,cl.lookup x=some c->(∃v,B.heap.IsCell c v)/\H c=none/\c∉fr0)(ab:∀ (i:Nat) (x:Str) (v:V),N[i]?=some x->G[i]?=some '¬'->Vis scope x->scope.names.lookup x=some .free/\∃u c,ye v u/\cl.lookup x=some c/\B.heap.IsCell c (some u))(a3:G.length=N.length)(O:∀ (A:Ae) (outer:'[') (s:AZ),Room k (A.deeper (PySem.W.envX qual scope s.heap.objs.size l (.ref J) cl))->∃t:TE,PE (zhC P w K mg base N qual scope l (.ref J) cl A outer s H C (λ_ _ H'=>QH H')) body t/\t G H λ_ _=>False) :
  zqW P w K mg base C (k+1) l fr0 B H QH:=by
 intro A outer s hr e0 a4 kp;have nf:∀ {b o},B.heap.get? b=some o->b∉fr0->b∉frs outer:=λq n z=>(a4 _ z).elim n λy=>absurd (av q) (gq.mpr y);have F:∀ {c v},H c=none->c∉fr0->B.heap.IsCell c v->s.heap.IsCell c v:=λn f ⟨o,g1,g2⟩=>#[o,kp _ _ g1 n (nf g1 f),g2];have ac:s.heap.CodeRec (.ref J) qual:=by obtain⟨vs,tq,g2,g3⟩:=a0;show#[J,oc,vs,tq,A5,(e0.hok J _ as).1,g2,g3]
 show PySem.W.kla_callFunE hr.depth (kp _ _ hl al (nf hl an)) A5 ad Y A5 ac ?_;rw[hp];show af (wpAny_newFunctionEnv ag (λx hx=>absurd hx '$') (λh1 hN hs=>#[?_,?_]) hk);have:=e0.mod.nolimit.keeps λb o e=>(e0.bs b o e).1;show this.fresh _ hs;have I:=zoU (E:=λ_ _ H'=>QH H') (C:=C) (qual:=qual) (l:=l) (cv:=.ref J) (N:=N) (G:=G) (t1:=s.toks+0) e0 hr.hd hk a1 a2 (λx c q=>let ⟨⟨v,z⟩,n,f⟩:=Z x c q;#[#[v,F n f z],n]) (λi x v q1 q2 q3=>by obtain⟨g1,u,c,r,g2,g3⟩:=ab i x v q1 q2 q3;obtain⟨_,n,f⟩:=Z x c g2;show#[g1,u,c,r,g2,F n f g3]) a3 hN hs;obtain⟨t,hb,ht⟩:=O A outer s (hr.deeper _);show PySem.W.kla_codeExpr (aE (hb [] _ G H _ I ht) (λv s' z=>?_) λe s' z=>?_);obtain⟨_,_,_,_,q⟩:=z;show q.elim;show aE z (λ_ a5 y=>?_) λe' a5 y=>?_;obtain⟨ea,H',rfl,f,q⟩:=y;show#[ea,H',A5,f,q];obtain⟨ea,H',rfl,f,q⟩:=y;show#[ea,H',A5,f,q]
end
def zii (P:Addr)(q:Str)(H:Hp):Prop:=∃ps:AK,H P=some (kO P 'â')/\TriplesOk ps.toList/\∀pos cv,codeAmong pos ps.toList=some cv->∃B F,cv = .ref B/\H B=some (zeo F)/\zgs F q
structure LamT (K:AH)(mg:AI)(c P:Addr):Prop where
 hd:∀h,K.In h->PySem.W.CodeHd h c P
 gp:mainGlobals≠P
theorem zcR {pos pos':Pos}{c:Value}:∀ {l:AN},TriplesOk l->∀ {cv},codeAmong pos' (l++[rawInt pos.line,rawInt pos.col,c])=some cv->codeAmong pos' l=some cv\/cv=c
 | [],_,cv,h=>by
  show Or.inr ?_;simp only[fq,rawInt,codeAmong] at h;split at h
  show (bK h).symm;cases h
 | .int a t::.int b u::d::r,B,cv,h=>by
  simp only[cR,codeAmong] at h ⊢;split at h
  ·rename_i q;rw[if_pos q];show .inl h
  ·rename_i q;rw[if_neg q];show zcR (l:=r) B h
section
variable {X:Cx}{A6:AB}{G:St}{H:Hp}{s:AZ}{E:AA}{params:Arguments}{body:Expr}{scope:Scope}{pos:Pos}{c P:Addr}{cl:List (Str×Addr)}
def zl6(I:')')(ac:defaultsOf params X.env=([],[]))(ad:closureFor scope X.env=pure cl)(U:X.env.code = .ref c)(T:LamT X.K X.mg c P)(hB:X.base.BuiltinsAt X.mg P)(as:zii P '£' H)(hQ:∀l B Y J H1 s',Inv X A6 G H1 s'->s'.heap.get? l=some 'Ǜ'->H1 l=none->s.heap.objs.size<=l->H1 B=some (zeo Y)->zgs Y '£'->
   zii P '£' H1->(∀b o,b≠P->H b=some o->H1 b=some o)->(∀b,H b=none->b<s.heap.objs.size->H1 b=none)->(∀b o,s.heap.get? b=some o->H b=none->s'.heap.get? b=some o)->Q (.ref l) s') :
  Af X (eval (.Lambda params body scope pos) X.env) Q E s:=by
 obtain⟨ps,hP,tr,O⟩:=as;obtain⟨gP,⟨oP,_⟩,_⟩:=I.hok P _ hP;have gP:s.heap.get? P=some 'â':=gP;have hg:s.heap.Ns mainGlobals X.mg:=I.mod.glob.keeps I.bk;have C:=T.hd _ I.kIn;have bt:=hB.keeps I.bk;show PySem.W.kla_eval ac ?_
 cases hf:codeAmong pos ps.toList with
 | some cv=>
  obtain⟨B,Y,rfl,a0,a1⟩:=O pos cv hf;show PySem.W.kla_makeFunctionHit (mg:=X.mg) ad I.ok.glob hg U C gP tr hf bt λJ h' tk kp sz=>?_;have I1:Inv X A6 G H { s with heap:=h'.push { cls:=.type "function",data:=.func (PySem.W.kla_fn "<lambda>" '£' params body scope cl ((X.mg "__name__").getD .none) (.ref B) J) },toks:=tk }:=I.kept λb o q=>ah _ (kp b o q);show hQ h'.objs.size B Y J H _ I1 (ar _ A5) (I.hok.fresh sz) sz a0 a1 #[ps,hP,tr,O] (λ_ _ _ q=>q) (λ_ q _=>q) λb o q _=>ah _ (kp b o q)
 | none=>
  show PySem.W.kla_makeFunction (mg:=X.mg) ad I.ok.glob hg U C gP tr hf T.gp bt λB J h' tk hx F ag al Z=>?_;obtain⟨c2,Y,vs,tq,ec,g1,g2,g3⟩:=al;cases ec;have ab:P<s.heap.objs.size:=av gP;have an:B≠P:=λz=>by rw[z] at F;show absurd ab (gq.mpr F)
  have hsz:s.heap.objs.size<=h'.objs.size:=aw F (dq ag);have kp:∀b o,b≠P->s.heap.get? b=some o->(h'.push 'Ǜ').get? b=some o:=λb o hb q=>ah _ (hx b o hb q)
  have I2:Inv X A6 G (upd H P 'ǜ') { s with heap:=h'.push 'Ǜ',toks:=tk }:=
   I.write (x:=P) (e:=P) (by rw[hP];trivial) 'h' kp #[_,ah _ Z] #[ah _ Z,#[_,ah _ Z],λh1 h2 q k=>k _ q]
  have nw:∀ {b:Addr},s.heap.objs.size<=b->H b=none:=λq=>I.hok.fresh q;have a2:upd H P 'ǜ' B=none:=by rw[zc an];show nw F
  have lt:∀ {b o},s.heap.get? b=some o->b≠B:=λq z=>by rw[z] at q;show absurd (av q) (gq.mpr F)
  have I3:=I2.track (e:=B) (o:=zeo Y) a2 (Heap.get?_none_of_le (aw I.sz F)) (λz=>by have:=I.lt;rw[<- z] at this;show absurd this (gq.mpr F)) (λx c q=>by obtain⟨v,o,h1,_⟩:=I.cell x c q;show lt h1) (λp hp=>lt (I.pin p hp).1)
   #[ah _ g1,#[Y,ah _ g1]]
  have a3:h'.objs.size≠B:=eQ ag;have a4:h'.objs.size≠P:=λz=>by rw[<- z] at ab;show absurd ab (gq.mpr hsz)
  have up:∀b o,b≠P->H b=some o->upd (upd H P 'ǜ') B (zeo Y) b=some o:=λb o hb q=>by rw[zc (λz=>by rw[z,nw F] at q;cases q),zc hb];show q
  show hQ h'.objs.size B Y J _ _ I3 (ar _ A5) (by rw[zc a3,zc a4];show nw hsz) hsz zg #[vs,tq,g2,g3] #[_,by rw[zc an.symm];show zg,?_,λpos' cv q=>?_] up (λb q hb=>by rw[zc (aY (aU hb F)),zc (λz=>by rw[z,hP] at q;cases q)];show q) λb o q n=>kp b o (λz=>by rw[z,hP] at n;cases n) q;rw[a6];show TriplesOk_snoc _ _ _ _ tr;rw[a6] at q;rcases zcR tr q with q | q;obtain⟨c3,a5,e3,h3,h4⟩:=O pos' cv q;show#[c3,a5,e3,up c3 _ (λz=>by rw[z,hP] at h3;cases h3) h3,h4];show#[B,Y,q,zg,#[vs,tq,g2,g3]]
end
section
variable {X:Cx}
def zgG:CallQ X 'ŏ' (λxs H Q=>∃e C d BB b,xs=[.ref e,d]/\(∀u,ye d u->u=BB)/\H e=some (zgO e C)/\ExcI X.K C/\PySem.W.kitOne X.K '¡' BB=some b/\Q (.bl b) H):=#[by
 intro A6 s G H xs us Q I r h;obtain⟨e,C,d,BB,b,rfl,B,F,J,O,q⟩:=h;obtain⟨u,c,rfl,U,Y⟩:=zk9 r;cases U;cases B c Y;show bS (zi3 J) I.kIn (I.hok e _ F).1 O 'À' λtk=>#[.bl b,H,I.tok tk,A5,q]]
theorem zkB:∀ {cs:AY} {us:AN},yi (cs.map V.ref) us->us=cs.map Value.ref
 | [],_,.nil=>rfl
 | c::cs,_,.cons q B=>by cases q;rw[zkB B];rfl
def ziB:CallQ X 'ŏ' (λxs H Q=>∃ (e C p:Addr) (cs:AY) (b:Bool),xs=[.ref e,.ref p]/\H p=some (.tup (cs.map V.ref))/\H e=some (zgO e C)/\ExcI X.K C/\PySem.W.kitAny X.K '¡' (cs.map Value.ref)=some b/\Q (.bl b) H):=#[by
 intro A6 s G H xs us Q I r h;obtain⟨e,C,p,cs,b,rfl,hp,B,F,J,q⟩:=h;obtain⟨u,c,rfl,O,U⟩:=zk9 r;cases O;cases U;obtain⟨its,Y,p1,_⟩:=I.tuple (.of hp);cases zkB Y;obtain⟨⟨cls,dd,data,sl⟩,Z,hc,n,hd⟩:=id p1;cases hc;cases hd;show PySem.W.kia_tup (zi3 F) I.kIn (I.hok e _ B).1 Z J 'À' λtk=>#[.bl b,H,I.tok tk,A5,q]]
end
def zry{CX:CXT}{P:Aa}{w:Ab}{K:AH}{mg:AI}{base:Heap}{f:Addr}{name qual:Str}{params:Arguments}{body:List Stmt}{scope:Scope}{dV kV Y pm B ct oc:Value}{an od:Option Addr}{N ps:AM}{A:Ae}{outer:List Env}{s:AZ}{H:Hp}{args:Args}{vs:AT}{Q:VK}{E:XK}(lk:K.lookup f=some #[oc,od,.func 'ƕ',ab])(ac:PySem.W.codeIn K B qual=true)(S:FnScope N ps scope)(hl:vs.length=ps.length)(hr:Room (k+1) A)(Z:Env0 P w K mg base A outer s H)(hb:BindsTo s 'ƕ' args (ps.zip us))(r:yi vs us)(O:Room k (A.deeper 'Ŧ')->∃t,PSs 'Ń' body t/\t { nx:=λ_ H'=>Q .non H',rt:=Q } (yT N vs) H) :
  codeAny 'Ò' A (.call '½' args) (CR CX outer P w H s Q E) s:=by
 have KX:K.In s.heap:=Z.mod.kin.keeps λb o e=>(Z.bs b o e).1;have lim:s.heap.NoLimit:=Z.mod.nolimit.keeps λb o e=>(Z.bs b o e).1
 have U:∀y∈ps.zip us,scope.names.lookup y.1=some .local\/'Ȩ':=by
  rintro⟨n,v⟩ hy;rcases S.par n (gy hy).1 with q | q;show .inl q;show .inr #[q,fE _ _ _ (.inl q)]
 show codeAny_call_function hr.depth (KX _ _ lk) A5 S.co S.gen A5 (PySem.W.codeRec_of KX ac) (hb _ _ _ _ ?_);show wpAny_newFunctionEnv_cells S.kind U λenv he s1 x=>?_;subst he;show#[lim.keeps x.toInCall.keep,codeAny_func ?_];obtain⟨t,ht,hq⟩:=O (hr.deeper _);have I:Inv 'Ń' [] (yT N vs) H s1:=zeB S hr.hd Z hl r x;show aE (ht [] s1 (yT N vs) H _ I hq) (λfl s' hs=>?_) λe s' hs=>hs
 have fin:∀ {F:St} {H':Hp} {v:V} {u:Value},Inv 'Ń' [] F H' s'->ye v u->Q v H'->CE outer P w H s Q u s':=
  λ{F H' v u} J rv q=>#[v,H',J.os,J.bare,J.base,J.hok,rv,q]
 cases fl with
 | ret u=>
  obtain⟨v,F,H',J,rv,q⟩:=hs;show fin J rv q
 | next=>
  obtain⟨F,H',J,q⟩:=hs;show fin (v:=V.non) (u:=Value.none) J A5 q
 | brk=>
  obtain⟨_,_,_,q⟩:=hs;show False.elim q
 | cont=>
  obtain⟨_,_,_,q⟩:=hs;show False.elim q
structure Errs (K:AH)(mg:AI)(cx wx:Str)(C W:Addr)(cs:AY):Prop where
 ci:ExcI K C
 wi:ExcI K W
 mc:mg cx=some (.ref C)
 mw:mg wx=some (.ref W)
 sub:PySem.W.subIn K (.ref C) (.ref W)=some true
 own:PySem.W.kitOne K (.ref C) (.ref C)=some true
 ve:PySem.W.kitOne K (.ref C) (.type "ValueError")=some true
 no:PySem.W.kitAny K (.ref C) (cs.map Value.ref)=some false
section
variable {X:Cx}{C W l:Addr}{cs:AY}{a c n cx wx:Str}{k k1 k2 k3:Nat}{es:AO}{ts:TA}{QH:Hp->Prop}
 {p1 p2 p3 ap cp ep wp q1 q2 q3 hp tp i1 i2 i3 i4 i5 i6 i7 i8 i9 j1 j2 j3 j4 j5 j6 j7 r1 r2 r3 r4 tq:Pos}
def ze2(O:'Ž')(U:X.env.frame=some X.env.locals)(Y:X.ex=[])(hr:Room k X.A)(Z:X.N=[a,c])(ab:a≠c)(ac:X.env.scope.names.lookup a=some .local)(q:X.env.scope.names.lookup c=some .local)(hn:n∉X.N)(ad:X.env.kindOf n=some .local)(B:Errs X.K X.mg cx wx C W cs)(gc:Gl X cx)(gw:Gl X wx)(gv:Gl X "ValueError")(gi:'Ĵ')(mv:X.mg "ValueError" = none)(mi:'ĥ')(hT:QA X es ts)(ag:∀ G H Q,Q (cs.map V.ref) H->ts G H Q)(al:cs.length<=100){ol:Obj}(hl:X.s₀.heap.get? l=some ol)(an:X.H₀ l=none)(as:l∉frs X.stack)(a0:ol.data = .func fl){fr0:AY}(I:∀b∈frs X.stack,b∈fr0\/X.s₀.heap.objs.size<=b)(hA:zqW X.prog X.w X.K X.mg X.base C k l fr0 X.s₀ X.H₀ QH){BB:Ends}(hD:∀e p H',QH H'->H' e=none->e≠p->H' p=none->BB.rt 'Ý' 'Ţ'){G:St}(a1:G=[some (.ref l),none])(a2:Ah a:=by ext)(a3:(a=='ŀ')=false:=by ext)(a4:Ah c:=by ext)(a5:(c=='ŀ')=false:=by ext)(a7:Ah wx:=by ext)(bb:Ah cx:=by ext)(bc:Ah n:=by ext) :
  ∃t,PSs X [.Assign [.Name c p1] (.Constant .none k1 p2) p3,
   .Try 'Ƭ' 'ǘ' [] [] tq,
   .If 'Ȕ' [.Return (some (.Constant (.bool false) k2 j3)) j4] [] j5,
   .Return (some (.UnaryOp .Not 'ȼ' r3)) r4] t/\t BB G X.H₀:=by
 have hi:X.N[0]?=some a:=by rw[Z];rfl
 have hj:X.N[1]?=some c:=by rw[Z];rfl
 have nd:X.N.Nodup:=by rw[Z];simp[ab]
 have vc:∀ {p:Pos},QE X (.Name c p) (zlh 1):=qv 1 hj (.inl q) a4 a5;have gC:QE X (.Name cx i3) (tC '¡'):=zdS (v:=.ref C) gc #[_,A5,B.mc] bb;have gV:QE X (.Name "ValueError" i8) (tC (.ty "ValueError")):=zdR (v:=.ty "ValueError") gv mv 'S' A5;have c1:QE X (.Call (.Name "isinstance" i1) [.Name c i2,.Name cx i3] [] i4) _:=yr zgG gi mi cr (zB vc (zB gC yu));have c2:QE X 'ȷ' _:=yr zgG gi mi cr (zB vc (zB gV yu));have c3:QE X 'ȼ' _:=yr ziB gi mi cr (zB vc (zB (znT hT) yu));have s1:QS X (.Assign [.Name c p1] (.Constant .none k1 p2) p3) _:=xH (i:=1) nd hj (.inl q) znR (hf:=.inr q);have s2:QS X (.Try 'Ƭ' 'ǘ' [] [] tq) _:=#[zsM (ia:=0) (ic:=1) O U Y hr hi (.inl ac) hj (.inl q) nd (.inr q) hn ad B.ci B.wi B.mw gw B.sub hl an as a0 I hA a2 a3 a7 bc];show#[_,(zD s1 (zD s2 (zD (zhW (zs5 (zkr (zks c1)) (znW (zkr (zks c2)))).pt (yQ (u8 zsV)) zch) (yQ (u8 (znS c3)))))).run,?_];subst a1;change X.H₀=X.H₀/\_/\_;show#[A5,A5,λe H' hQ he=>?_];have e1:([some (V.ref l),none].set 1 (some V.non)).set 1 (some (V.ref e))=[some (V.ref l),some (V.ref e)]:=rfl;rw[e1];have J:upd H' e (zgO e C) e=some (zgO e C):=zg;show#[.ref e,A5,e,C,.ref C,.ref C,true,A5,λu z=>z,J,B.ci,B.own,true,A5,?_];show#[.ref e,A5,e,C,.ty "ValueError",.type "ValueError",true,A5,λu z=>z,J,B.ci,B.ve,true,A5,?_];show#[.ref e,A5,ag _ _ _ #[by rw[ae];show aw al '#',λp hp=>?_]];have F:e≠p:=λz=>by rw[<- z,J] at hp;cases hp
 have bd:H' p=none:=by rw[zc F.symm] at hp;show hp
 show#[e,C,p,cs,false,A5,zg,by rw[zc F];show J,B.ci,B.no,false,A5,hD e p H' hQ he F bd]
end
def zll (P:Aa)(w:Ab)(K:AH)(mg:AI)(base:Heap)(C:Addr)(cs:AY)(k:Nat)(f:Addr):Prop:=
 ∀ (A:Ae) (outer:'[') (s:AZ) (H:Hp) (l:Addr) (q:Obj) (fl:Ac) (QH:Hp->Prop) (Q:VK),Room (k+1) A->Env0 P w K mg base A outer s H->s.heap.get? l=some q->q.data = .func fl->H l=none->l∉frs outer->
  zqW P w K mg base C k l (frs outer) s H QH->(∀e p H',QH H'->H' e=none->e≠p->H' p=none->Q 'Ý' 'Ţ')->
  codeAny 'Ò' A (.call '½' #[[.ref l],[]]) (CR CX0 outer P w H s Q E0) s
def nms (xs:List (Str×Pos)):AO:=xs.map λx=>.Name x.1 x.2
theorem zhi:∀ {xs:List (Str×Pos)} {cs:AY},xs.map (λx=>X.mg x.1)=cs.map (λc=>some (Value.ref c))->(∀x∈xs,Gl X x.1/\(x.1==("__debug__" : Str))=false)->QA X (nms xs) (λG H Q=>Q (cs.map V.ref) H)
 | [],[],_,_=>#[λ_ _ _ _ H Q I h=>fK #[[],H,I,.nil,h]]
 | (x,p)::xs,c::cs,h,g=>by rw[az,az,ef] at h;obtain⟨h1,h2⟩:=g (x,p) aq;show#[(zB (zdS (v:=.ref c) h1 #[_,A5,h.1] h2) (zhi (cs:=cs) h.2 λy q=>g y (ak _ q))).run]
section
variable {P:Aa}{w:Ab}{K:AH}{mg:AI}{base:Heap}{C W f:Addr}{cs:AY}{x a c n cx wx:Str}{st:Stmt}{fd:Ac}{k k1 k2 k3:Nat}{xs:List (Str×Pos)}
 {p1 p2 p3 ap cp ep wp q1 q2 q3 hp tp i1 i2 i3 i4 i5 i6 i7 i8 i9 j1 j2 j3 j4 j5 j6 j7 r1 r2 r3 r4 tq:Pos}
def zmU (F:Fun K x x st f fd)(b:zcz K fd [a] [])(S:FnScope [a,c] [a] 'e')(q:a≠c)(B:'e'.names.lookup a=some .local)(I:'e'.names.lookup c=some .local)
  (hn:n∉[a,c]) (J:'e'.names.lookup n=some .local) (er:Errs K mg cx wx C W cs) (g:∀y∈[cx,wx,"ValueError","isinstance"],'e'.names.lookup y=some .globalImplicit) (mv:mg "ValueError" = none) (mi:mg "isinstance" = none)
  (hx:xs.map (λx=>mg x.1)=cs.map (λc=>some (Value.ref c))) (gx:∀x∈xs,'e'.names.lookup x.1=some .globalImplicit/\(x.1==("__debug__" : Str))=false) (O:cs.length<=100)
  (U:zE st=[.Assign [.Name c p1] (.Constant .none k1 p2) p3,
   .Try 'Ƭ' 'ǘ' [] [] tq,
   .If 'Ȕ' [.Return (some (.Constant (.bool false) k2 j3)) j4] [] j5,
   .Return (some (.UnaryOp .Not (.Call (.Name "isinstance" j6) [.Name c j7,.Tuple (nms xs) k3 r1] [] r2) r3)) r4])
  (Y:Ah a:=by ext) (Z:(a=='ŀ')=false:=by ext) (ab:Ah c:=by ext) (ac:(c=='ŀ')=false:=by ext) (ad:Ah wx:=by ext) (ag:Ah cx:=by ext) (al:Ah n:=by ext) :
  zll P w K mg base C cs k f:=by
 intro A outer s H l ol fl QH Q hr e0 hl as a0 a1 hA hQ;obtain⟨oc,od,kV,a5,pm,an,a2,ct,a7,rfl,lk,a3⟩:=F.ex;have KX:K.In s.heap:=e0.mod.kin.keeps λb o e=>(e0.bs b o e).1;show zry (vs:=[.ref l]) (us:=[.ref l]) (E:=E0) (N:=[a,c]) lk a3 S A5 hr e0 (b s [.ref l] KX A5) (.cons A5 .nil) λa4=>?_;rw[U];show ze2 (X:=zbC CX0 P w K mg base [a,c] x 'e' f a2 A outer s H E0) (fr0:=frs outer) A5 A5 A5 a4 A5 q B I hn J er (g _ '$') (g _ '$') (g _ '$') (g _ '$') mv mi (zhi hx gx) (λ_ _ _ z=>z) O hl a0 ?_ as ?_ hA (λe p H' z1 z2 z3 z4=>hQ e p H' z1 z2 z3 z4) A5 Y Z ab ac ad ag al;intro z;rcases au.mp (show l∈s.heap.objs.size::frs outer from z) with z | z;show absurd (av hl) (by rw[z];show cJ _);show a1 z;intro b z;rcases au.mp (show b∈s.heap.objs.size::frs outer from z) with z | z;show .inr (Nat.le_of_eq z.symm);show .inl z
end
def zq2 (P:Addr)(q:Str)(H H1:Hp):Prop:=zii P q H1/\(∀b o,b≠P->H b=some o->H1 b=some o)/\∀ps,H1 P=some (kO P 'â')->∃h:Heap,h.get? P=some 'â'
section
variable {X:Cx}{C P cc f:Addr}{cs:AY}{x:Str}{k:Nat}{p pos lpos:Pos}{params:Arguments}{body:Expr}{scope:Scope}{N:AM}{A8:List (Option Nat)}
def zhS (bm:'Ž')(a1:∀y,X.fn y=true)(R:zll X.prog X.w X.K X.mg X.base C cs (k+1) f)(hr:Room (k+2) X.A)(hg:Gl X x)(hm:X.mg x=some '½')(hk:PySem.W.keepIn X.K '½'=true)
  (c:'k') (a2:scope.isCoroutine=false) (Z:scope.isGenerator=false) (T:LamT X.K X.mg cc P) (hB:X.base.BuiltinsAt X.mg P) (O:X.env.code = .ref cc) (ab:defaultsOf params X.env=([],[]))
  (hp:∀cl pm Y ac,bindArgs (PySem.W.kla_fn "<lambda>" '£' params body scope cl pm (.ref Y) ac) #[[],[]]=pure [])
  (a3:Ah x:=by ext) :
  PE X (.Call (.Name x p) [.Lambda params body scope lpos] [] pos) (λG H Q=>zii P '£' H/\∀H1,zq2 P '£' H H1->∃QH:Hp->Prop,(∀ (l Y:Addr) (cl:List 'ï') (A:Ae) (outer:'[') (s:AZ),Room k (A.deeper (PySem.W.envX '£' scope s.heap.objs.size l (.ref Y) cl))->
    ∃t:TE,PE (zhC X.prog X.w X.K X.mg X.base N '£' scope l (.ref Y) cl A outer s H1 C (λ_ _ H'=>QH H')) body t/\t '<' H1 λ_ _=>False)/\
   ∀e p H',QH H'->H' e=none->e≠p->H' p=none->Q 'Ý' 'Ţ'):=by
 intro A6 s G H Q I h;obtain⟨a4,h⟩:=h;show dS (zdz I hg hm ?_ a3);show PySem.W.callWith_K (h₀:=X.base) I.ok.mod.kin hk ?_ A5 A5;change wpAny _ _ (spliced ((false,eval (.Lambda params body scope lpos) X.env)::backTo pos 'Ī')) _ _ s;have ad:=c.cells I.ok
 have B:∀x a,(zgC X.env scope.names []).lookup x=some a->X.env.cells.lookup x=some a:=λx a e=>by
  rcases zak ad e with z | z;show z;simp at z
 show gM (zl6 I ab (zcU ad) O T hB a4 λl Y oc ac H1 s' I1 hl F a5 a7 bb ag U bc kp=>?_);obtain⟨QH,ht,hQ⟩:=h H1 #[ag,U,λps e=>#[s'.heap,(I1.hok P _ e).1]];show fK #[I1.kIn,?_];have al:l∉frs X.stack:=λz=>by obtain⟨_,o,ho,_⟩:=I.stack.mem z;show absurd (av ho) (gq.mpr a5)
 have bd:∀y a,X.env.cells.lookup y=some a->a∉frs X.stack:=λy a e z=>by
  rcases au.mp (I1.stkSub a z) with q | q;show I1.cne y a e q;obtain⟨_,o,ho,_⟩:=I1.ok.funs.mem q;show absurd (av ho) (gq.mpr (I1.ok.cab y a (a1 y) e))
 have an:zqW X.prog X.w X.K X.mg X.base C (k+1) l (frs X.stack) s' H1 QH:=by
  show zlm (N:=N) (G:=xy G A8) (QH:=QH) (hp _ _ _ _) c.kind a2 Z c.cell hl F al a7 bb (λy z a e1 e2=>I1.ok.inj y z a (B y a e1) (B z a e2)) (λy hy=>?_) (λy a e=>#[I1.cell y a (B y a e),I1.freeC y a (B y a e),bd y a (B y a e)]) (λj y v h1 h2 h3=>?_) ?_ (λA outer s2 bk=>ht l Y _ A outer s2 bk);rcases hy with hy | hy;show absurd A5 (c.cell _ (c7 hy));show uQ hy;unfold xy at h2;rw[aF] at h2
  cases e:A8[j]? with
  | none=>rw[e] at h2;cases h2
  | some o=>
   rw[e] at h2
   cases o with
   | none=>cases h2
   | some i=>
    have J:(G[i]?).join=some v:=bK h2
    have as:G[i]?=some '¬':=by
     cases q:G[i]? with
     | none=>rw[q] at J;cases J
     | some z=>rw[q] at J;have:z=some v:=J;rw[this]
    obtain⟨q1,q2,q3⟩:=c.cap h1 e;obtain⟨m0,bo,F⟩:=I1.loc;obtain⟨u,ru,hu⟩:=F i y v q1 as (q3.elim (λz=>.inr (.inl z)) λz=>.inr (.inr z));show#[q2,u,?_];rcases hu with ⟨z,_⟩ | ⟨_,a,ha,hcell⟩;have z':X.env.scope.names.lookup y=some .local:=z;right;obtain⟨a',a0⟩:=uQ (env:=X.env) (cs:=[]) q2;have:a'=a:=by have:=(B y a' a0).symm.trans ha;show bK this
    subst this;show#[a',ru,a0,hcell]
  unfold xy;rw[ae,c.len]
 show wpAny_call (dW (R X.A X.stack s' H1 l _ _ QH Q hr I1.env0 hl A5 F al an hQ) λr s2 hq=>?_)
 cases r with
 | error e=>show False.elim hq
 | ok fl=>
  cases fl with
  | ret u=>show I1.after hq
  | next=>show False.elim hq
  | brk=>show False.elim hq
  | cont=>show False.elim hq
end
end L2
namespace L3
open L2
def spX (k:Nat)(F:AU->Prop):Sp:=λvs H _ E=>∃Pn A q n,Al A H/\zaR A H q vs/\q.length=k/\y8 Pn A n H/\F q/\∀v H',Go Pn A H n H'->E v none H'
structure JX (X:Cx)(E:XK)(Pn:PN)(M:AR)(A9:List Stmt)(f:Ev->Nat->Prop):Prop where
 ex:∃t,QSs X A9 t/\∀A G H D n BB,EnvR A M G H D->y8 Pn A n H->f D n->(∀v H',Go Pn A H n H'->E v none H')->t BB G H
section
variable {X:Cx}{E:XK}{Pn:PN}{M:AR}{C:Addr}{e c:Expr}{es:AO}{b zu:List Stmt}{p pos p1 p2 np cpos:Pos}{x m:Str}{j:Nat}
def zu3(F:FrX C E X)(I:X.A.handled=none)(J:ExcC X.K X.mg x C)(O:JT X Pn M c f)(U:Gl X x:=by rfl)(B:Ah x:=by ext) :
  JX X E Pn M (.If c [.Raise (some (.Call 'n' [.Constant (.str m) j p1] [] cpos)) none pos] b p2::zu) (λD n=>f D n λb m=>b=true/\m=n):=by
 obtain⟨tc,q,r⟩:=O.ex;show#[_,zD (zhW q (yQ #[zmF F I J U B]) #[zaF]) #[zaF],λA G H D n BB E P hf k=>r.run A G H D n _ _ E P hf ?_];rintro b m H' ⟨rfl,rfl⟩ g;show iteT (λe=>k _ _ g)
def zo8(F:FrX C E X)(BB:Dfn X.K X.mg x st ps fA fd)(BA:'ȹ')(O:Room kk X.A)(U:JA X Pn M '=' fs)(B:j<=kk:=by ext)(Y:Gl X x:=by rfl)(I:Ah x:=by ext)(Z:'g':=by rfl)(J:'¯':=by rfl)(hs:swapsWith '¢' none p2.line X.env=pure false:=by rfl) :
  JX X E Pn M (.Expr '¢' p2::zu) (λD n=>fs D n λq m=>m=n/\q.length=k/\Fp q):=by
 obtain⟨ta,qa,ra⟩:=U.ex;show#[_,zD #[zkk (zcd BA (O.mono B) Y BB.m BB.F.kp BB.b .nil F.pass qa.run I Z J) hs] #[zaF],λA G H D n BB E P hf k=>?_];show ra.run A G H D n _ _ E P hf ?_;rintro q m vs H1 ⟨rfl,hk,hF⟩ b g;rw[bT];show#[Pn,A,q,m,'¦'.al,b,hk,g.pn,hF,λv H' g2=>k v H' (g.trans g2)]
end
def okX(Fu:'Ř')(S:'Ķ')(hm:m=ps.length)(I:∀ (B:Value) (A:Ae) (outer:'[') (s:AZ) (H:Hp) (E:XK) (Pn:PN),Room k 'ł'->
   ∃fs,JX (zbC (CX1 P w C) P w K mg base N qual 'e' f B A outer s H E) E Pn [] 'y' fs/\∀J n,J.length=m->F J->fs (uP N J) n):FnOk P w K mg base (CX1 P w C) (k+1) f fd ps (spX m F):=by
 obtain⟨oc,od,kV,ab,pm,an,B,ct,ac,rfl,lk,O⟩:=Fu.ex;show zlG lk O S 'Ĭ' (λA outer s H vs Q E hr h=>?_);obtain⟨Pn,A,J,n,_,U,Y,_⟩:=h;rw[U.len,Y,hm];obtain⟨Pn,A3,J,n,al,U,Y,hp,hF,q⟩:=h;obtain⟨fs,⟨t,qs,rs⟩,Z⟩:=I B A outer s H E Pn hr;show#[t,qs.run,rs A3 (L2.yT N vs) H (uP N J) n _ (zet al U (λi hi=>by cases hi)) hp (Z J n Y hF) q]
def zj7(h:∃h:Heap,h.get? P=some ob):¬ NP (kO P ob):=λn=>by have:=n [(Sum.inr "at",.non)] (by unfold kO pnK;dsimp only;rw[if_pos #[P,ob,h,A5]]);cases this
def zic (P:Addr)(q:Str)(A:AL)(H:Hp):Prop:=¬ A P/\∃ps:AK,H P=some (kO P 'â')/\(∃h:Heap,h.get? P=some 'â')/\TriplesOk ps.toList/\
 ∀pos cv,codeAmong pos ps.toList=some cv->∃B F,cv = .ref B/\H B=some (zeo F)/\zgs F q/\¬ A B
def zf1:¬ Mt (zeo q):=λz=>by cases z
def zic.ch(h:zic P q A H)(h1:¬ A P->(∃ob,H P=some (kO P ob)/\∃h:Heap,h.get? P=some ob)->¬ A' P/\H' P=H P)(h2:∀c B,¬ A c->H c=some (zeo B)->¬ A' c/\H' c=H c):zic P q A' H':=by obtain⟨n,ps,g1,g2,g3,J⟩:=h;obtain⟨O,e⟩:=h1 n #[_,g1,g2];show#[O,ps,by rw[e];show g1,g2,g3,λpos cv z=>?_];obtain⟨F,B,U,I,Y,Z⟩:=J pos cv z;obtain⟨y1,y2⟩:=h2 F B Z I;show#[F,B,U,by rw[y2];show I,Y,y1]
def zh5 (P:Addr)(q:Str):Jv where
 K:=zic P q
 same:=λh s=>h.ch (λn ⟨ob,e,_⟩=>#[n,by rw[s _ _ e,e]]) λc I n e=>#[n,by rw[s _ _ e,e]]
 grow:=λh g=>h.ch (λn ⟨ob,e,w⟩=>#[λz=>(g _ z).elim n λ⟨o,B,F,_⟩=>by rw[e] at B;cases B;show zj7 w F,A5]) λc I n e=>#[λz=>(g _ z).elim n λ⟨o,B,_,F⟩=>by rw[e] at B;cases B;show zf1 F,A5]
 upd:=λh a=>h.ch (λn _=>#[n,zc λz=>n (z ▸ a)]) λc I n e=>#[n,zc λz=>n (z ▸ a)]
 frz:=λh B F J=>h.ch (λn ⟨ob,e,w⟩=>#[n,zc λz=>by subst z;rw[e] at B;cases B;show zj7 w F]) λc I n e=>#[n,zc λz=>by subst z;rw[e] at B;cases B;show zf1 J]
def zic.tab(h:zic P q A H):zii P q H:=by obtain⟨n,ps,g1,g2,g3,B⟩:=h;show#[ps,g1,g3,λpos cv z=>let ⟨c',oc,z1,z2,z3,_⟩:=B pos cv z;#[c',oc,z1,z2,z3]]
def zic.grown(h:zic P q A H)(I:Al A H)(g:zq2 P q H H1):zic P q A H1/\zq H H1:=by
 obtain⟨n,J,k1,k2,_⟩:=h;obtain⟨⟨ps,g1,g3,O⟩,kp,U⟩:=g;show#[#[n,ps,g1,U ps g1,g3,λpos cv z=>?_],λb o e np=>kp b o (λz=>?_) e];obtain⟨B,Y,Z,F,z3⟩:=O pos cv z;show#[B,Y,Z,F,z3,λy=>?_];obtain⟨o,e1,_,e3⟩:=I B y;have:=kp B o (λz=>n (z ▸ y)) e1;rw[F] at this;cases this;show zf1 e3;subst z;rw[k1] at e;cases e;show zj7 k2 np
section
variable {X:Cx}{Pn:PN}{M:AR}{C P cc f:Addr}{cs:AY}{x y:Str}{k kk m:Nat}{p pos lpos p1 p2:Pos}{params:Arguments}{e:Expr}{es:AO}{scope:Scope}{N:AM}{A8:List (Option Nat)}
 {st:Stmt} {ps:AM} {fA:Addr} {fd:Ac} {Fp:AU->Prop} {fs:AC} {j:Nat}
def mRef (Pn:PN)(P:Addr)(q:Str)(m:Nat)(Fp:AU->Prop)(A8:List '0')(fs:AC):AD:=λD n Q=>Pn.J=zh5 P q/\(fs 'E' n λB F=>F=n/\B.length=m/\Fp B)/\Q (.d 'Ý') n
def zjs (Y:'Ž')(Z:∀y,X.fn y=true)(R:zll X.prog X.w X.K X.mg X.base C cs (k+1) f)(hr:Room kk X.A)(ab:k+2<=kk)(hm:X.mg x=some '½')(hk:PySem.W.keepIn X.K '½'=true)
  (c:'k') (ac:'É') (ad:scope.isCoroutine=false) (I:scope.isGenerator=false) (T:LamT X.K X.mg cc P) (hB:X.base.BuiltinsAt X.mg P) (q:X.env.code = .ref cc) (J:defaultsOf params X.env=([],[]))
  (hp:∀cl pm B ag,bindArgs (PySem.W.kla_fn "<lambda>" '£' params (.Call (.Name y p1) '=' [] p2) scope cl pm (.ref B) ag) #[[],[]]=pure [])
  (BB:Dfn X.K X.mg y st ps fA fd) (BA:FnOk X.prog X.w X.K X.mg X.base (CX1 X.prog X.w C) j fA fd ps (spX m Fp)) (an:j<=k) (as:scope.names.lookup y=some .globalImplicit)
  (ha:∀ (l B:Addr) (cl:List 'ï') (QH:Hp->Prop) (A:Ae) (outer:'[') (s:AZ) (H:Hp),Room k (A.deeper (PySem.W.envX '£' scope s.heap.objs.size l (.ref B) cl))->
   JA (zhC X.prog X.w X.K X.mg X.base N '£' scope l (.ref B) cl A outer s H C (λ_ _ H'=>QH H')) Pn '*' '=' fs)
  (hg:Gl X x:=by rfl) (a0:Ah x:=by ext) (a1:Ah y:=by ext)
  (he:∀env,starEach '=' env=(false,eval e env)::starEach es env:=by intro _;rfl) (a2:∀env,(backTo p2 (starEach es env)).any '%'=false:=by intro _;rfl) :
  JE X Pn M false (.Call (.Name x p) [.Lambda params (.Call (.Name y p1) '=' [] p2) scope lpos] [] pos) (mRef Pn P '£' m Fp A8 fs):=by
 show#[_,#[zhS (k:=k) (cs:=cs) (N:=N) (A8:=A8) (P:=P) Y Z R (hr.mono ab) hg hm hk c ad I T hB q J hp a0],#[λA G H D n Q R E Pp hf kq=>?_]];obtain⟨hJ,hf,hR⟩:=hf;have tj:zic P '£' A H:=by have:=Pp.2;rw[hJ] at this;show this
 show#[tj.tab,λH1 g=>?_];obtain⟨a3,O⟩:=tj.grown E.al g;have E1:=E.stay O
 have P1:y8 Pn A n H1:=by
  show#[?_,by rw[hJ];show a3];have:=Pp.1;split at this;trivial;obtain⟨_,a5,k1,_⟩:=tj;obtain⟨⟨⟨a,l,h1,h2,h3,h4⟩,⟨ob,h5⟩,h6⟩,h7⟩:=this;show#[#[#[a,l,g.2.1 _ _ (λz=>by rw[z,k1] at h1;cases h1) h1,h2,h3,h4],#[ob,g.2.1 _ _ (λz=>by rw[z,k1] at h5;cases h5) h5],h6],h7]
 show#[λH'=>Go Pn A H1 n H',λl B cl A' outer s U=>?_,λe p H' g2 z1 z2 z3=>?_];obtain⟨ta,qa,ra⟩:=(ha l B cl (λH'=>Go Pn A H1 n H') A' outer s H1 U).ex;show#[_,zcd (E:=λ_ _ H'=>Go Pn A H1 n H') BA (U.mono an) as BB.m BB.F.kp BB.b .nil zoI.pass qa.run a1 (he _) (a2 _),?_];show ra.run A _ H1 _ n _ _ (E1.cap ac) P1 hf ?_;rintro ws m' vs H2 ⟨rfl,a4,hF⟩ b g3;rw[bT];show#[Pn,A,ws,m',((E1.stay g3.st)).al,b,a4,g3.pn,hF,λv H' g4=>g3.trans g4];have s1:yL H' (upd H' e (zgO e C)):=yL.upd z1;have s2:yL (upd H' e (zgO e C)) 'Ţ':=yL.upd (by rw[zc z2.symm];show z3);have g5:Go Pn A H1 n 'Ţ':=(g2.trans (Go.same g2.pn s1)).trans (Go.same ((Go.same g2.pn s1).pn) s2);show kq _ n _ _ hR '¹' #[O.trans g5.st,g5.pn] λz=>by cases z
end
end L3
namespace L2
open PyProof.Rows
def zlk (T:Addr)(H:Hp):Prop:=(∀b,b≠T->H b=none\/∃o xs,H b=some (.frz o '+'))/\H T=some (kO T 'ù')/\∃h:Heap,h.get? T=some 'ù'
def zjE{P:Aa}{w:Ab}{K:AH}{mg mb:AI}{CX:CXT}{fa a T:Addr}{fd:Ac}{sp:Sp}{B:AZ}{vs:AN}{ns:AG}(KX:K.In B.heap)(hT:B.heap.get? T=some 'ù')(a1:K.lookup T=none)(a2:isCodeTable B.heap T)(ad:B.heap.Ns mainGlobals mg)(I:B.heap.Ns builtinsNs mb)(a3:∀x:Str,x ≠ "__name__" -> mb x=bootBuiltins x)(ag:B.heap.NoLimit)(hg:B.gens = #v[])(ha:B.heap.get? a=some 'Ť')(hi:IntsAre vs ns)(hl:ns.length<=sizeLine)(hr:Room k callerA)(a4:B.heap.BuiltinsAt mg T)(F:∀base:Heap,K.In base->base.Ns mainGlobals mg->base.BuiltinsAt mg T->FnOk P w K mg base CX k fa fd [x] sp)(ac:∀ (s:AZ) (u:Value),BindsTo s fd #[[u],[]] [(x,u)])(a5:∀H:Hp,zlk T H->SqL K H a 'K'->sp 'r' H (λv H'=>v = .bl true/\∃ps,H' T=some (kO T 'â')) λ_ _ _=>False)(a7:∀H e s',CX [] H B (λ_ _ _=>False) e s'->False) :
  codeAny 'Ò' callerA (.call (.ref fa) #['r',[]]) 'Ǚ' B:=by
 have rv:=zfg hi;have bd:=hi.length;have al:a≠T:=λz=>by rw[z,hT] at ha;cases ha
 have Y:∀H:Hp,zlk T H->SqL K H a 'K'->HOk P w H B.heap->(∀b,H b≠none->b=a\/b=T)->(H a≠none->K.lookup a=none)->
   codeAny 'Ò' callerA (.call (.ref fa) #['r',[]]) 'Ǚ' B:=by
  intro H hO hS an hA hK;have J:∀ {b:Addr} {o:Obj},B.heap.get? b=some o->H b=none->(zle B.heap H).get? b=some o:=λe n=>zlL e n
  have bb:∀ {b:Addr} {o:Obj} {es:Array DictEntry} {ep:Nat},B.heap.get? b=some o->o.data = .dict es ep->H b=none:=λ{b o es ep} e d=>by
   cases q:H b with
   | none=>rfl
   | some u=>
    rcases hA b (by rw[q];simp) with z | z;rw[z,ha] at e;cases e;cases d;rw[z,hT] at e;cases e;cases d
  have U:∀ {b:Addr} {m:AI},B.heap.Ns b m->(zle B.heap H).Ns b m:=λ{b m} ⟨o,es,ep,e,d,r⟩=>#[o,es,ep,J e (bb e d),d,r]
  have as:K.In (zle B.heap H):=λb o e=>J (KX b o e) (by
   cases q:H b with
   | none=>rfl
   | some u=>
    rcases hA b (by rw[q];simp) with z | z;have:=hK (by rw[<- z,q];simp);rw[z,this] at e;cases e;rw[z,a1] at e;cases e)
  have hM:Mod K mg (zle B.heap H):=#[as,U ad,#[mb,U I,a3],let ⟨mc,h1,h2⟩:=ag;#[mc,U h1,h2]];have e0:Env0 P w K mg (zle B.heap H) callerA [] B H:=#[A5,hM,λb o e=>zpt e,Nat.le_of_eq (zje _ _),trivial,λb I=>absurd (show b∈([]:AY) from I) '$',an,.of_eq hg]
  have hB:(zle B.heap H).BuiltinsAt mg T:=by
   obtain⟨bm,o,b1,b2,b3,b4,b5,b6,b7,b8⟩:=a4;show#[bm,o,b1,b2,b3,b4,J b5 ?_,b6,b7,b8]
   cases q:H bm with
   | none=>rfl
   | some u=>
    rcases hA bm (by rw[q];simp) with z | z;rw[z,ha] at b5;cases b5;cases b8;show absurd z b4
  show dW ((F _ as (U ad) hB).run callerA [] B H #['r',[]] 'r' 'r' _ _ hr e0 (ac B 'J') (.cons A5 .nil) (a5 H hO hS)) λr s' h=>?_
  cases r with
  | error e=>show (a7 H e s' h).elim
  | ok fl=>
   cases fl with
   | next=>show False.elim h
   | brk=>show False.elim h
   | cont=>show False.elim h
   | ret u=>
    obtain⟨v,H',os,a0,un,Z,r',q⟩:=h;obtain⟨q',ps,bc⟩:v = .bl true/\∃ps,H' T=some (kO T (PySem.W.tabObj ps)):=q;subst q';obtain rfl:u=Value.bool true:=r';have gT:s'.heap.get? T=some 'â':=(Z T _ bc).1
    have ab:∀b o,b≠T->B.heap.get? b=some o->s'.heap.get? b=some o:=λb o I e=>by
     cases q:H b with
     | none=>show un.keep b o e q (by intro z;show absurd (show b∈([]:AY) from z) '$') '$'
     | some u=>
      rcases hO.1 b I with z | ⟨ob,xs,z⟩;rw[z] at q;cases q;have z2:=un.frzs b ob _ z;obtain⟨e1,_⟩:=an b _ z;obtain⟨e2,_⟩:=Z b _ z2;grind
    show#[A5,#[λb o e=>?_,λb o e=>?_],os,a0];by_cases I:b=T;subst I;rw[hT] at e;cases e;show .inr (.inl #[a2,A5,#v[],ps,A5,by rw[gT,Array.empty_append]]);show .inl (ab b o I e);by_cases I:b=T;show#[_,by rw[I];show gT];show#[_,ab b o I e]
 have okT:∀H:Hp,zJ P w H B.heap T (kO T 'ù'):=λH=>#[hT,#[_,hT],λh1 h2 p k=>k _ p]
 cases hk:K.lookup a with
 | some o=>
  have e:=KX a o hk;rw[ha] at e;cases e;show Y (λb=>if b=T then some (kO T 'ù') else none) #[λb I=>.inl (if_neg I),if_pos A5,_,hT] (.inr #[_,vs.toArray,_,hk,A5,A5,A5,'9',by simpa using rv]) (λb u z=>?_) (λb z=>?_) λz=>absurd (if_neg al) z;by_cases I:b=T;have z':=(if_pos I).symm.trans z;cases z';subst I;show okT _;right;by_cases I:b=T;show .inr I;show absurd (if_neg I) z
 | none=>
  show Y (λb=>if b=a then some (.frz 'Ť' (.lst 'K')) else if b=T then some (kO T 'ù') else none) #[λb I=>?_,?_,_,hT] (.inl (.inr #['Ť',if_pos A5])) (λb u z=>?_) (λb z=>?_) λ_=>hk;by_cases O:b=a;show .inr #[_,_,if_pos O];show .inl (by change (if b=a then _ else _)=none;rw[if_neg O,if_neg I]);change (if T=a then _ else _)=some _;rw[if_neg al.symm,if_pos rfl];by_cases I:b=a;have z':=(if_pos I).symm.trans z;cases z';subst I;show#[ha,'9',vs,_,rv,ha];have z':(if b=T then some (kO T 'ù') else none)=some u:=(if_neg I).symm.trans z;by_cases O:b=T;rw[if_pos O] at z';cases z';subst O;show okT _;rw[if_neg O] at z';cases z';by_cases I:b=a;show .inl I;by_cases O:b=T;show .inr O;show absurd (show (if b=a then _ else _)=none by rw[if_neg I,if_neg O]) z
def zng{l:PySem.W.OpenLaw}{q:Aa}{J:AM}{XP:(AI)->Heap->Prop}{YP:Ab->Heap->Prop}{d:DefRec}{K:Params->AH}{CX:Ab->CXT}{sp:Ab->Sp}{T:Addr}(hn:l.most=some n)(ab:n<=sizeLine)(ac:d.params.defaults=[])(hr:Room k callerA)(hY:∀ (w:Ab) (h:Heap),YP w h->'¨'.In h/\h.get? T=some 'ù')(ad:∀w:Ab,'¨'.lookup T=none)(F:∀ (w:Ab) (mg:AI) (fa:Addr) (h:Heap),'¨'.In h->h.Ns mainGlobals mg->mg d.name=some (.ref fa)->
   ∃fd:Ac,(∀ (s:AZ) (u:Value),BindsTo s fd #[[u],[]] [(x,u)])/\(∀h:Heap,'¨'.In h->∃c,PySem.W.CodeHd h c T)/\
    ∀base:Heap,'¨'.In base->base.Ns mainGlobals mg->base.BuiltinsAt mg T->FnOk l.prog w '¨' mg base (CX w) k fa fd [x] (sp w))(ag:∀ (w:Ab) (H:Hp) (a:Addr) (ns:AG),ns.length<=n->zlk T H->SqL '¨' H a 'K'->sp w 'r' H (λv H'=>v = .bl true/\∃ps,H' T=some (kO T 'â')) λ_ _ _=>False)(al:∀ (w:Ab) (H:Hp) (s:AZ) (e:Value) (s':AZ),CX w [] H s (λ_ _ _=>False) e s'->False) :
  PySem.W.WalkO q J XP YP l.row.toRowW d [] (λf vs=>PySem.call f vs):=by
 show Att.attach_call hn ac λw a0 B mg mb fa o pm cd a1 a vs ns BA Y ho hd a2 an U O I hg=>?_;obtain⟨KX,hT⟩:=hY w _ Y;obtain⟨fd,hb,hC,hF⟩:=F w mg fa _ KX BA.T.g an;obtain⟨c,hC⟩:=hC _ KX
 have as:B.heap.BuiltinsAt mg T:=by
  obtain⟨bm,ob,b1,b2,Z,b4,b5,b6⟩:=BA.T.bmain;show#[bm,ob,b1,b2,λz=>?_,λz=>?_,Z,b4,b5,b6];obtain⟨o,es,ep,e,hd,_⟩:=BA.T.g;rw[<- z,Z] at e;cases e;rw[b6] at hd;cases hd;rw[z,hT] at Z;cases Z;cases b4
 show zjE KX hT (ad w) (hC.tab hT).isCodeTable BA.T.g BA.T.b BA.T.builtins BA.T.nolimit hg U O (aw I ab) hr as hF hb (λH hO hS=>ag w H a ns I hO hS) λH e s'=>al w H B e s'
def zfa (K:AH)(T:Addr):Sp:=λvs H Q _=>∃ (a:Addr) (ns:AG),vs='r'/\SqL K H a 'K'/\ns.length<=63/\zlk T H/\∀H',(∃ps,H' T=some (kO T 'â'))->Q 'Ý' H'
end L2
namespace L3
open L2
def zr7 {P:Aa}{w:Ab}{K:AH}{mg:AI}{base:Heap}{x qual:Str}{st:Stmt}{f T:Addr}{fd:Ac}{N ps:AM}{k r:Nat}{S:AR}{lq:Str}(M:AR)(Fu:'Ř')(Sc:'Ķ')(ab:ps.length=1)(hN:N.length=r+2)(hM:∀i∈M,2<=i)
  (O:∀ (B:Value) (A:Ae) (outer:'[') (s:AZ) (H:Hp) (E:XK) (Pn:PN),Room k 'ł'->fd.code=B->
   ∃J zu fs,zE st=J::zu/\QS 'Ó'.nox J (zie (zgn (zm6 K) [] E0 (zfd (zlh 0) zqF)) (zbD 1))/\
    JSs 'Ó'.nox Pn S M false zu fs/\∀p c ns,Pn=#['·',zh5 T lq]->fs (none::some (.pen p)::List.replicate r none) 0 { nx:=λ_ _=>False,rt:=λw _=>w = .d 'Ý' }):FnOk P w K mg base CX0 (k+1) f fd ps (zfa K T):=by
 obtain⟨oc,od,kV,ag,pm,an,B,ct,al,rfl,lk,ac⟩:=Fu.ex;show zlG lk ac Sc 'Ĭ' (λA outer s H vs Q E hr h=>?_);obtain⟨a,ns,rfl,_⟩:=h;show ab.symm;obtain⟨a,ns,rfl,hS,hl,hO,q⟩:=h
 suffices hh:∃t,QSs 'Ó'.nox 'y' t/\t { nx:=λ_ H'=>Q .non H',rt:=Q } (L2.yT N 'r') H by obtain⟨t,h1,h2⟩:=hh;show#[t,h1.run.nox,h2]
 have U:=λ(Pn:PN)=>O B A outer s H E Pn hr A5;have Z:L2.yT N 'r'=some 'J'::none::List.replicate r none:=by unfold L2.yT;rw[hN];rfl
 have hd:∃J zu,zE st=J::zu:=let ⟨J,zu,_,e,_⟩:=U #[none,zh5 T lq];#[J,zu,e];obtain⟨J,zu,e0⟩:=hd;rw[e0];have c2:∀Pn,∃fs,JSs 'Ó'.nox Pn S M false zu fs/\∀p c ns,Pn=#['·',zh5 T lq]->fs (none::some (.pen p)::List.replicate r none) 0 { nx:=λ_ _=>False,rt:=λw _=>w = .d 'Ý' }:=λPn=>by obtain⟨ad,Y,fs,e,_,h1,h2⟩:=U Pn;rw[e0] at e;cases e;show#[fs,h1,h2]
 have q1:QS 'Ó'.nox J (zie (zgn (zm6 K) [] E0 (zfd (zlh 0) zqF)) (zbD 1)):=by
  obtain⟨ad,Y,fs,e,h0,_⟩:=U #[none,zh5 T lq];right
 show#[_,zD q1 (u:=λBB G H=>∃Pn,(c2 Pn).choose_spec.1.ex.choose BB G H) #[λA6 s' G H BB I ⟨Pn,z⟩=>(c2 Pn).choose_spec.1.ex.choose_spec.1.run A6 s' G H BB I z],?_];show#[.ref a,by rw[Z];rfl,a,ns,A5,hS,hl,λp c H1 P1 S1=>#[#['·',zh5 T lq],?_]];have hs:=(c2 #['·',zh5 T lq]).choose_spec.2 p c ns A5;have e1:(L2.yT N 'r').set 1 (some 'p')=some 'J'::some 'p'::List.replicate r none:=by rw[Z];rfl
 rw[e1]
 have F:∀i (u:W),(none::some (.pen p)::List.replicate r none:Ev)[i]?=some (some u)->i=1/\u = .pen p:=λi u e=>by
  match i,e with
  | 0,e=>simp at e
  | 1,e=>show#[A5,by simpa using e.symm]
  | i+2,e=>
   simp only[cT] at e;obtain⟨_,q⟩:=ai.mp e;right
 have tj:zic T lq (λ_=>False) H1:=#[λz=>z,#v[],S1 _ _ hO.2.1,hO.2.2,trivial,λpos cv z=>by cases z];show (c2 #['·',zh5 T lq]).choose_spec.1.ex.choose_spec.2.run { A0:=λ_=>False,H0:=λ_=>none,G0:=λ_=>none,σ0:=some 'J'::some 'p'::List.replicate r none } (λ_=>False) _ H1 _ 0 _ _ #[#[?_,?_,?_,λ_ z=>z.elim],#[λ_ z=>z,λ_ z=>z.elim,(λb o (z:(none:Option HO)=some o)=>nomatch z),λ_ z=>z.elim,λ_ z=>z.elim,λ_ z=>z.elim],#[#[P1,λz=>z,λz=>z],tj],(λb o (z:(none:Option HO)=some o)=>nomatch z),#[λi hi=>rfl,λ_=>#[λb xs (z:(none:Option HO)=some (.lst xs))=>(nomatch z),λb xs (z:(none:Option HO)=some (.lst xs))=>(nomatch z)]],?_] #[?_,?_,?_,λ_ z=>z,?_] hs;simp;intro i u e;obtain⟨rfl,rfl⟩:=F i u e;show#[.ref p,A5,λ_=>rfl,λz=>absurd (hM 1 z) '!'];intro i j u u' b hi hj as e1;obtain⟨rfl,rfl⟩:=F i u e1;show absurd (hM 1 hi) '!';intro i u b hi e;obtain⟨rfl,rfl⟩:=F i u e;show absurd (hM 1 hi) '!';intro _ _ _ _ _ _ z;show z.elim;intro _ _ _ _ _ _ z;show z.elim;intro _ _ _ _ _ _ z;show z.elim;intro w n' v H' hv st pn _ r;have r':w = .d 'Ý':=r;subst r';have:v = .bl true:=hv;subst this;obtain⟨_,ps,h1,_⟩:=pn.2;show q H' #[ps,h1]
end L3
namespace L2
open PyProof.Rows
def zn5:Sp:=λvs H Q _=>∃ (p c:Addr) (ns:AG) (n:Nat) (zy:Int),vs=[.ref p,.int zy]/\Pen H p c ns n/\n<=1000000/\1<=zy/\zy<1073741824/\
 ∀ (r:Int) (H':Hp),0<=r->r<zy->Pen H' p c ns (n+1)->(∀b o,b≠p->H b=some o->H' b=some o)->Q (.int r) H'
def zfq:∀b u,b≠p->H b=some u->upd H p o b=some u:=λb u q e=>by rw[zc q];show e
section
variable {X:Cx}
end
end L2
namespace L3
open L2
def PenJ (J:Jv):Prop:=∀A H H' p c a l,J.K A H->H p=some (.dK 'İ')->(∀b o,b≠p->H b=some o->H' b=some o)->J.K A H'
def zmz:PenJ (zh5 P q):=λA H H' p c a l h hp k=>zic.ch h (λn ⟨ob,e,_⟩=>#[n,by rw[k _ _ (λz=>by rw[z,hp] at e;cases e) e,e]]) λc B n e=>#[n,by rw[k _ _ (λz=>by rw[z,hp] at e;cases e) e,e]]
def IsQ (Pn:PN)(p:Addr):Prop:=(∃c ns,Pn.pn=some (p,c,ns))/\PenJ Pn.J
def zig:FV:=λPn q n R=>∃p zy,IsQ Pn p/\q=[.pen p,.d (.int zy)]/\n<=1000000/\1<=zy/\zy<1073741824/\∀r,0<=r->r<zy->R (.d (.int r)) (n+1)
def zjL:ztQ 2 false zig zn5:=by
 rintro vs H Q E ⟨Pn,A,ws,n,R,al,J,hl,hp,⟨p,zy,⟨⟨c,ns,B⟩,O⟩,rfl,h1,h2,U,Y⟩,q⟩;obtain⟨v,y,rfl,Z,b2⟩:=zwi J;have e1:v = .ref p:=Z;have e2:y = .int zy:=b2;subst e1 e2;obtain⟨F,I⟩:=hp;rw[B] at F;obtain⟨P1,nc,np⟩:=F;obtain⟨a,l,g1,_⟩:=P1.ob;show#[p,c,ns,n,zy,A5,P1,h1,h2,U,λr H' r0 r1 P' S'=>q _ (n+1) _ H' (Y r r0 r1) '¹' #[λb o e n'=>S' b o (λz=>?_) e,#[?_,O _ _ _ _ _ _ _ I g1 S']] λz=>by cases z];subst z;rw[g1] at e;cases e;have:=n' _ A5;rw[zpM] at this;cases this;rw[B];show#[P',nc,np]
def tk{zy:Int}(q:IsQ Pn p)(h:∀r,0<=r->r<zy->Q (.d (.int r)) (n+1))(B:n<=1000000:=by lia)(h1:1<=zy:=by lia)(h2:zy<1073741824:=by lia):zig Pn [.pen p,.d (.int zy)] n Q:=#[p,zy,q,A5,B,h1,h2,h]
abbrev dAny:AU->Mo W:=λq n Q=>on1 q λx=>onL x λl=>∃bs:List Bool,l=bs.map .bl/\Q (.d (.bl (bs.any id))) n
end L3
namespace L2
open PyProof.Rows
def ztD {X:Cx}{A6:AB}{G:St}{H:Hp}{s:AZ}{x:V}{u t:Value}(I:')')(B:ye x u)(ty:TyOf X.K H x t)(J:∃T,t = .type T):∃Hh,PySem.W.KitX X.K u t Hh/\Hh s.heap/\u≠.builtin "__main__.__loader__#opaque" := by
 cases ty with
 | non=>cases (show u=Value.none from B);show#[_,PySem.W.kitx_none,True.intro,'é']
 | bl y=>cases (show u=Value.bool y from B);show#[_,PySem.W.kitx_bool,True.intro,'é']
 | int i=>obtain⟨t,q⟩:=(show ∃t,u=Value.int i t from B);cases q;show#[_,PySem.W.kitx_int,True.intro,'é']
 | str y=>obtain⟨t,q⟩:=(show ∃t,u=Value.str y t from B);cases q;show#[_,PySem.W.kitx_str,True.intro,'é']
 | flt y=>obtain⟨t,q⟩:=(show ∃t,u=Value.float y t from B);cases q;show#[_,PySem.W.kitx_float,True.intro,'é']
 | @lst a xs F=>
  cases 'Ô';obtain⟨_,_,n,_,h1⟩:=(show zJ X.prog X.w H s.heap a '+' from I.hok a _ F);show#[_,fH,#[_,h1,A5],'é']
 | @frz a ob xs F=>
  cases 'Ô';obtain⟨_,_,_,n,_,h1⟩:=(show zJ X.prog X.w H s.heap a (.frz ob '+') from I.hok a _ F);show#[_,fH,#[_,h1,A5],'é']
 | @tup a xs F=>
  cases 'Ô';obtain⟨_,_,_,p⟩:=(show zJ X.prog X.w H s.heap a 'R' from I.hok a _ F);obtain⟨o,h1,h2,_⟩:=p;show#[_,PySem.W.kitx_tuple,#[o,h1,h2],'é']
 | @dK a A7 F=>
  cases 'Ô';obtain⟨_,_,vs,_,p⟩:=(show zJ X.prog X.w H s.heap a (.dK A7) from I.hok a _ F);obtain⟨o,es,ep,h1,h2,_⟩:=p;show#[_,fJ,#[o,h1,h2.1],'é']
 | @dT a A7 F=>
  cases 'Ô';obtain⟨_,_,xs,_,o,es,ep,h1,h2,_⟩:=(show zJ X.prog X.w H s.heap a (.dT A7) from I.hok a _ F);show#[_,fJ,#[o,h1,h2.1],'é']
 | @ins a C dx fs F cl U Y O Z=>obtain⟨T,z⟩:=J;cases z
def zos:CallQ X 'ŏ' (λxs H Q=>∃x p T1 T2 T b,xs=[x,.ref p]/\H p=some (.tup [.ty T1,.ty T2])/\TyOf X.K H x '¼'/\PySem.W.kitAny X.K '¼' [.type T1,.type T2]=some b/\Q (.bl b) H):=#[by
 intro A6 s G H xs us Q I r h;obtain⟨x,p,T1,T2,T,b,rfl,hp,ty,B,q⟩:=h;obtain⟨u,c,rfl,F,J⟩:=zk9 r;cases J;obtain⟨its,O,p1,_⟩:=I.tuple (.of hp);obtain⟨c1,c2,rfl,U,Y⟩:=zk9 O;cases U;cases Y;obtain⟨⟨cls,dd,data,sl⟩,Z,hc,n,hd⟩:=id p1;cases hc;cases hd;obtain⟨Hh,kx,hh,ne⟩:=ztD I F ty #[T,A5];show PySem.W.kia_tup kx I.kIn hh Z B ne λtk=>#[.bl b,H,I.tok tk,A5,q]]
end L2
namespace L3
open L2
section
variable {X:Cx}{Pn:PN}{M:AR}{e:Expr}{f:AD}{pos p p1 p2 p3:Pos}
abbrev znG:Dt->Bool
 | .tup _=>true
 | .lst _=>true
 | _=>false
def zl2 (K:AH)(d:Dt):PySem.W.kitAny K (.type d.ty) [.type "tuple",.type "list"]=some (znG d):=by cases d <;> rfl
def zeE {k:Nat}(h:'Ð')(Z:'ĥ')(F:X.mg "tuple" = none)(I:X.mg "list" = none)(hg:'Ĵ' := by rfl)(J:Gl X "tuple" := by rfl)(O:Gl X "list" := by rfl)
  (B:starEach (e::['ơ']) X.env='à'::starEach ['ơ'] X.env:=by rfl) (U:(backTo pos (starEach ['ơ'] X.env)).any '%'=false:=by rfl) :
  JE X Pn M false (.Call 'Œ' [e,'ơ'] [] pos) (zma znG f):=by
 obtain⟨te,q,r⟩:=h.ex;show#[_,yr zos hg Z cr (zB q (zB (znT (zB (zdR (v:=.ty "tuple") J F bC A5) (zB (zdR (v:=.ty "list") O I PyProof.Rows.boot_list A5) yu))) yu) B) '#' '#' B U,'b'];show r.run A G H D n _ _ E P hf ?_;rintro w m v H' ⟨d,e,rr⟩ bb g;subst e;show#[by change 2<=sizeLine;decide,λa ha=>?_];have Y:yL H' (upd H' a (.tup [.ty "tuple",.ty "list"])):=yL.upd ha;show#[v,a,"tuple","list",_,_,A5,zg,(bb.is.stay (zq.same Y)).ty,zl2 _ d,k _ m _ _ rr '¹' (g.trans (Go.same g.pn Y)) λz=>by cases z]
variable {ow:Bool}{tg it a b:Expr}{f1 f2:AC}
end
def ztL{P:Aa}{w:Ab}{K:AH}{mg:AI}{base:Heap}{CX:CXT}{f:Addr}{fd:Ac}{ps:AM}{F:FV}(h:∀Pn q n R,¬ F Pn q n R):FnOk P w K mg base CX k f fd ps (spV m fr F):=
 #[λ_ _ _ _ ⟨_,_,_,_,_,_,_,_,_,z,_⟩=>absurd z (h _ _ _ _),λ_ _ _ _ _ _ _ _ _ _ _ _ _ ⟨_,_,_,_,_,_,_,_,_,z,_⟩=>absurd z (h _ _ _ _)]
end L3
namespace L2
open PyProof.Rows PySem.W PySem.Calls
def zk8(r:'ĸ')(k:Dt):(zqV ks k).isSome=(atKey xs k).isSome:=by have:=(znf r k).isSome_eq;rwa[en] at this
def zmV(r:'ĸ')(k:Dt)(I:ye v u):Paired PrN (ks.map λq=>if q.1=k then (q.1,q.2.1,v) else q) (xs.map (putAt k u)):=by
 induction r with
 | nil=>show .nil
 | @cons p q ps O h _ J=>
  obtain⟨B,F,h⟩:=h;show .cons ?_ J;change PrN (if p.1=k then (p.1,p.2.1,v) else p) _;unfold putAt;rw[B];split;show#[A5,F,I];show#[B,F,h]
def zkD(r:'ĸ')(h:PrN p q):Paired PrN (ks++[p]) (xs++[q]):=by
 induction r with
 | nil=>show .cons h .nil
 | cons h _ B=>show .cons h B
def zkC(r:'ĸ'):xs.map (λq=>Value.ref q.2.1)=ks.map (λq=>Value.ref q.2.1)/\xs.map '%'=ks.map '%':=by
 induction r with
 | nil=>show#[A5,A5]
 | cons a _ B=>obtain⟨F,I,_⟩:=a;show#[by rw[az,az,B.1,I],by rw[az,az,B.2,F]]
def zmI(r:'ĸ')(k:Dt)(b:Addr)(q:ye v u):Paired PrN (zlg ks k b v) (storedH xs k b u):=by
 unfold zlg storedH;rw[zk8 r k];split;show zmV r k q;show zkD r #[A5,A5,q]
def zmH (ks:'Ê')(k:Dt)(b:Addr)(v:V):(zlg ks k b v).length<=ks.length+1:=by
 unfold zlg;split;rw[ae];show Nat.le_succ _;rw[ay];show aj _
def zkl(h:uu H ks)(h1:k.hk=true)(h2:k.eqOk)(I:Is H k 'q'):uu H (zlg ks k b v):=by
 intro q B;unfold zlg at B;split at B
 ·obtain⟨J,F,rfl⟩:=aJ.mp B;have:=h J F;split
  all_goals show this
 rcases aC.mp B with z | z;show h q z;rw[ao.mp z];show#[h1,h2,I]
section
variable {X:Cx}{A6:AB}{G:St}{H:Hp}{s:AZ}{a b:Addr}{ks:List (Dt×Addr×V)}{k:Dt}{A:Ae}{E:AA}
def zob (H:Hp)(k:Dt)(b:Addr):Prop:=k.hk=true/\k.eqOk/\Is H k 'q'
def NdAt (H:Hp)(a:Addr)(ks:'Ê'):Prop:=Rd H a 'o'/\uu H ks
def zr5 (q:A.units+64<cLine):(zly X.prog X.w).room A.in1:=by change A.units+1+9<cLine;lia
def zj0(O:A.units+64<cLine)(I:')')(e:H a=some 'o')(g:uu H ks)(B:zob H k b)(l:ks.length<sizeLine)(U:ye v u)(h:∀s',Inv X A6 G (upd H a (ddO a (zlg ks k b v))) s'->Q () s') :
  wpAny 'N' A (setItem 'J' 'q' u) Q E s:=by
 obtain⟨lo,z,xs,r,dd⟩:=zuD I (.inl e) g;have Y:xs.length<=sizeLine:=by rw[<- gg r];show z
 show wpAny_setItem_heap (hsz:=Y) (zr5 O) (zdw I B.1 B.2.1 B.2.2) dd λh' F hs=>h _ ?_;obtain⟨q,es,ep,J,h2,Z,h4,_,h5⟩:=F;show zaX I 'Ŋ' hs #[q,J] (ziN #[aw (zmH ks k b v) l,lo,_,zmI r k b U,q,es,ep,J,h2,Z,h4,h5])
end
section
variable {X:Cx}
variable {o i value:Expr}{pos pos':Pos}{td ty tv:TE}
def zvQ (td ty tv:TE):TS:=λBB G H=>tv G H λv H1=>td G H1 λx H2=>ty G H2 λy H3=>∃a b k ks,x = .ref a/\y = .ref b/\H3 a=some 'o'/\uu H3 ks/\zob H3 k b/\ks.length<sizeLine/\BB.nx G (upd H3 a (ddO a (zlg ks k b v)))
def zqh (q:'ĕ')(B:QE X o td)(hi:QE X i ty)(F:QE X value tv)(hs:'Ȼ') :
  QS X (.Assign [.Subscript o i pos'] value pos) (zvQ td ty tv):=#[by
 intro A6 s G H BB I h;show wpAny_Assign_Subscript (thn (F.run A6 s G H _ I h) λr J ⟨v,H1,I1,O,U⟩=>thn (B.run A6 J G H1 _ I1 U) λu Y ⟨x,H2,I2,Z,q2⟩=>thn (hi.run A6 Y G H2 _ I2 q2) λiv s3 ⟨y,H3,I3,ry,a,b,k,ks,ex,ey,e,g,gk,l,q3⟩=>?_) hs;subst ex ey;obtain rfl:u=Value.ref a:=Z;obtain rfl:iv=Value.ref b:=ry;show zj0 q I3 e g gk l O λs4 I4=>#[G,_,I4,q3]]
def ziM(h:Heap)(q:sysModules<h.objs.size):zJ P w H (h.push 'Ņ') h.objs.size (ddO h.objs.size []):=
 ziN #[aP _,gA.mpr (Ne.symm (aY q)),[],.nil,_,#v[],0,']',#[A5,A5,A5],A5,A5,fN]
def zvZ:TE:=λ_ H Q=>∀p,H p=none->Q 'p' (upd H p (ddO p []))
def zp9:QE X (.Dict [] [] pos) (zvZ):=#[λA6 s G H Q I h=>
 wpAny_Dict_empty #['ú',_,I.laid (a:='ķ') (o:=ddO s.heap.objs.size []) (t':=s.toks) (λ_ _ q=>ah _ q) '/' (ziM s.heap I.big),A5,h _ 'Ş']]
variable {A6:AB}{G:St}{H:Hp}{s:AZ}{a:Addr}{ks:List (Dt×Addr×V)}
def Inv.frzN (I:')')(h:H a=some 'o'):∃ob,Inv X A6 G (upd H a (.frz ob 'o')) s:=by have k:=(show zJ X.prog X.w H s.heap a 'o' from I.hok a _ h);obtain⟨⟨z,lo,xs,r,o,es,ep,h1,q⟩,_⟩:=id k;show#[o,I.write (x:=a) (e:=a) (h':=s.heap) (t':=s.toks) (by rw[h];trivial) 'h' (λ_ _ _ e=>e) #[o,h1] #[h1,ziN #[z,lo,xs,r,o,es,ep,h1,q]]]
def zvX (te:TE):TE:=λG H Q=>te G H λx H1=>∃a ks,x = .ref a/\H1 a=some 'o'/\∀ob,Q x (upd H1 a (.frz ob 'o'))
def zp8(h:'|'):QE X e (zvX te):=#[by
 intro A6 s G H Q I q;show thn (h.run A6 s G H _ I q) ?_;rintro v O ⟨x,H1,I1,B,a,ks,rfl,F,J⟩;obtain⟨ob,I2⟩:=I1.frzN F;show#[_,_,I2,B,J ob]]
def zps (I:')')(h:NdAt H a ks) :
  (a==sysModules)=false/\∃ (es:Array DictEntry) (ep:Nat) (ob:Obj),s.heap.get? a=some ob/\ob.ExactDict/\ob.data = .dict es ep/\es.toList.map (·.key)=ks.map (λq=>Value.ref q.2.1)/\(ks.map '%').Nodup/\ks.length<=sizeLine:=by
 obtain⟨⟨z,lo,xs,r,o,es,ep,h1,h2,F,J,O⟩,_⟩:=(show zJ X.prog X.w H s.heap a 'o' from h.1.ok I.hok);have B:=zkC r;show#[lo,es,ep,o,h1,h2,F,?_,by rw[<- B.2];show O,z];rw[J,aK,<- B.1];rfl
end
def Itn (d:Addr)(ob:Obj)(u:HO)(ys:AY):It:=
 #[λi H=>H d=some (.frz ob u)/\i<ys.length,λi H x H'=>H'=H/\∃q,ys[i]?=some q/\x = .ref q,λi H=>H d=some (.frz ob u)/\i=ys.length]
def zqK {P:Aa}{w:Ab}{K:AH}{tg:Expr}{ob:Obj}{u:HO}{ys:AY}{es:Array DictEntry}{ep:Nat}(d it:Addr)(hx:ob.ExactDict)(hd:ob.data = .dict es ep)(F:es.toList.map (·.key)=ys.map Value.ref) :
  Turn P w K tg (Itn d ob u ys) [it] it (λi h=>h.IsKeyIter it d i es.size ep) where
 mem:=by simp
 obj:=λi h st b q=>by
  have e:b=it:=by simpa using q
  subst e;obtain⟨o,e,c,d⟩:=st;right
 keep:=λi h h' ⟨o,e,r⟩ k=>#[o,k it '$' o e,r]
 item:=by
  rintro X J O U hc i A6 s G H E I hf st ⟨Y,hi⟩;subst J O U;obtain⟨Z,f1,f2,f3,f4,f5⟩:=hf it '$';have hm:zdf s.heap d es ep:=#[ob,(I.hok d _ Y).1,hx,hd];have hl:es.toList.length=ys.length:=by have:=congrArg List.length F;rwa[ae,ae] at this
  have e1:es[i]?=some es.toList[i]:=by rw[zcB,am]
  have e2:es.toList[i].key=Value.ref ys[i]:=by
   have:(es.toList.map (·.key))[i]?=(ys.map Value.ref)[i]?:=by rw[F]
   rw[aF,aF,am '!',am hi] at this;right
  show zhM st hm e1 λh' B sb=>?_;have I1:Inv X A6 G H '5':=I.turned (t':=s.toks) (λb o q e=>(sb.2 b q).trans e) Z f1 f3 f4 f5;obtain⟨o,e,c,d⟩:=id B;show#[_,A5,zlK (s:='5') e c d '#' #[.ref ys[i],H,I1,e2,#[A5,_,am hi,A5],B,λb q=>(hf b q).1]]
 done:=by
  rintro X J O U hc i A6 s G H E I hf st ⟨Y,hi⟩;subst J O U;obtain⟨Z,f1,f2,f3,f4,f5⟩:=hf it '$';have hm:zdf s.heap d es ep:=#[ob,(I.hok d _ Y).1,hx,hd];have hl:es.size=ys.length:=by have:=congrArg List.length F;rwa[ae,ae,aM] at this
  subst hi;rw[<- hl] at st;show zj3 (I.ok.hd hc) st hm λh' eb=>#[A5,I.turned (t':=s.toks) (λb o q e=>eb b o q e) Z f1 f3 f4 f5]
 self:=λ_ _ _ _ _ st h=>wpAny_pyIter_keyiter st h
def zrA (te:TE):TI:=λG H R=>te G H λx H1=>∃a ob ks,x = .ref a/\H1 a=some (.frz ob 'o')/\uu H1 ks/\((ks.map '%').Nodup->R (Itn a ob 'o' (ks.map (·.2.1))) H1)
def zmM(h:'|'):QI X tg e (zrA te):=#[by
 intro A6 s G H R I q;show thn (h.run A6 s G H _ I q) ?_;rintro v B ⟨x,H1,I1,Y,a,ob,ks,rfl,F,Z,q1⟩;cases Y;obtain⟨lo,es,ep,o,J,O,U,e1,nd,_⟩:=zps I1 #[.inr #[ob,F],Z];have e:o=ob:=by have:=(I1.hok a _ F).1;rw[J] at this;show bK this
 subst e;show zjn lo #[o,J,O,U] ?_;show#['Ę',['Ę'],_,_,H1,A5,'ȑ',zqK (ys:=ks.map (·.2.1)) a _ O U (by rw[aK];show e1),#[_,']',A5,A5],λb hb=>?_,q1 nd];have e:b=B.heap.objs.size:=by simpa using hb
 subst e;show I1.fpOk '/' 'ī']
end L2
namespace L3
open L2
abbrev onM (w:W) (P:List (Dt×Dt)->Prop):Prop:=match w with | .dn _ i=>P i | _=>False
abbrev zqS (w:W) (P:List (Dt×Dt)->Prop):Prop:=match w with | .dn false i=>P i | _=>False
def zf4:zqS w P = ∃i,w = .dn false i/\P i:=propext #[λh=>by
 cases w with
 | dn b i=>cases b <;> first | show False.elim h | show#[_,A5,h]
 | _=>show False.elim h,by rintro⟨i,rfl,h⟩;show h]
abbrev onMz (w:W) (P:List (Dt×Dt)->Prop):Prop:=match w with | .dn true i=>P i | _=>False
def zpx:onMz w P = ∃i,w = .dn true i/\P i:=propext #[λh=>by
 cases w with
 | dn b i=>cases b <;> first | show False.elim h | show#[_,A5,h]
 | _=>show False.elim h,by rintro⟨i,rfl,h⟩;show h]
def zp2 (ks:'Ê')(k:Dt)(b:Addr)(v:V):kvN (zlg ks k b v)=u7 (kvN ks) k v:=by
 have e:(zqV ks k).isSome=(kvN ks).any λkv=>decide (kv.1=k):=by
  unfold zqV kvN;rw[en,iE]
  induction ks with
  | nil=>rfl
  | cons q r B=>
   rw[bU,dC];change _=(decide (q.1=k) || _)
   cases decide (q.1=k) with
   | true=>rfl
   | false=>rw[Bool.false_or];show B
 unfold zlg u7;rw[<- e];split
 ·unfold kvN;rw[aK,aK];show eO λq _=>?_;change ((if q.1=k then (q.1,q.2.1,v) else q).1,(if q.1=k then (q.1,q.2.1,v) else q).2.2)=if q.1=k then (q.1,v) else (q.1,q.2.2);split <;> rfl
 unfold kvN;rw[aO];rfl
def zrO(h1:k.hk=true)(h2:k.eqOk)(h:Bor A H (.d k) v)(q:k.isTup=true):∃b,v = .ref b/\zob H k b/\Is '7' k 'q':=by
 cases k with
 | tup l=>
  have h':Is '7' 'x' v:=h;obtain⟨b,xs,rfl,g1,g2⟩:=id h';show#[b,A5,#[h1,h2,Bor.is h],h']
 | _=>cases q
def _root_.L2.Dt.ky (k:Dt):Prop:=k.hk=true/\k.eqOk/\k.isTup=true
section
variable {X:Cx}{Pn:PN}{M S:AR}{fr fr':Bool}{pos p:Pos}{e a b c:Expr}{f fa fb fc:AD}
abbrev dInN (q:Bool):W->W->Mo W:=λx y n Q=>onD x λk=>onM y λA7=>k.ky/\Q (.d (.bl (xr q (yI A7 k).isSome))) n
abbrev dNGet (fd fk:AD):AD:=λD n Q=>fd D n λx n1=>fk D n1 λy n2=>onM x λA7=>onD y λk=>k.ky/\onO (yI A7 k) λd=>Q (.d d) n2
def zrI:JE X Pn M true (.Dict [] [] pos) (mC (.dn false [])):=#[_,zp9,#[λA G H D n Q R E P hf k=>λp np=>by have S:=yL.upd (o:=ddO p []) np;have B:∀ {T:Hp},T p=some (ddO p [])->zia false T p []:=λh=>h;show k _ n _ _ hf #[p,[],A5,B (zv (E.new np) zg),(λq z=>by cases z),A5] (Go.same P S) λ_=>#[p,A5,.of np,#[_,zg,A5],p,[],A5,B zg,(λq z=>by cases z),A5]]]
abbrev zrj (i:Nat) (fk f:AD):Ms:=λD n k=>onV D i λv=>zqS v λ_=>f D n λw m=>fk D m λy F=>onD w λd=>onD y λB=>onV D i λI=>zqS I λA7=>B.ky/\A7.length<lim/\onP D i (.dn false (ze1 A7 B d)) λq=>k.nx q F
def zo5 (i:Nat){x:Str}{np sp:Pos}(hu:'ĕ')(hk:JB X Pn M c fc)(he:'ĳ')(hi:i∈M:=by ext)(hN:'_':=by rfl)(hv:'Ì':=by fail"v")(hd:Ah x:=by ext)
  (Z:'Å':=by ext) (hs:swapsWith e (some (.Subscript 'n' c p)) sp.line X.env=pure false:=by rfl) :
  JS X Pn S M fr (.Assign [.Subscript 'n' c p] e sp) (zrj i fc f):=by
 obtain⟨te,q,r⟩:=he.ex;obtain⟨tk,qk,rk⟩:=hk.ex;show#[_,zqh hu (qv i hN hv hd Z) qk q hs,#[ ?_]];rintro B A G H D n k BB a kk hf;unfold zrj at hf;rw[zbm] at hf;obtain⟨w0,e0,hf⟩:=hf;rw[zf4] at hf;obtain⟨l0,rfl,hf⟩:=hf;obtain⟨v0,s0,_,o3⟩:=a.env.val i _ e0;obtain⟨J,rfl,hA,ac,_⟩:=o3 hi;show r.run A G H D n _ _ a.env a.pn hf λw m v H1 r1 ab g1 _=>#[.ref J,s0,?_];have a1:=a.step g1;show rk.run A G H1 D m _ _ a1.env a1.pn r1 λy m2 v2 H2 F b2 g2=>?_;rw[xF] at F;obtain⟨d,rfl,F⟩:=F;rw[xF] at F;obtain⟨kd,rfl,F⟩:=F;rw[zbm] at F;obtain⟨w3,e,F⟩:=F;rw[zf4] at F;obtain⟨A7,rfl,⟨k1,k2,k3⟩,hz,F⟩:=F;rw[zbk] at F;have a2:=a1.step g2;obtain⟨v3,s3,_,o4⟩:=a2.env.val i _ e;rw[s0] at s3;cases s3;obtain⟨ag,e4,_,hb,_⟩:=o4 hi;cases e4;obtain⟨a5,ks,e5,I,O,U⟩:=hb;cases e5;have I:H2 J=some (ddO J ks):=I;obtain⟨bd,rfl,gk,bk⟩:=zrO k1 k2 b2 k3;have Y:ks.length=A7.length:=by have:=U.len;rw[show (kvN ks).length=ks.length from ae ..] at this;show this
 show#[J,bd,kd,ks,A5,A5,I,O.stay (zq.same zw),gk,zb3 (by rw[Y];show dq hz),kk.nx A G _ _ m2 (a2.wrX (w':=.dn false (ze1 A7 kd d)) hi e s0 #[J,_,A5,zg,zkl O k1 k2 bk,?_] A5 zmj A5) F];rw[zp2];show U.put (ab.stay g2.st).is
def zkg{A:AL}{H:Hp}{p:Addr}(h:y8 Pn A n H)(hp:H p=some (ddO p ks)):y8 Pn A n (L2.upd H p o):=by
 show#[?_,Pn.J.frz h.2 hp zmj A5];have h:=h.1;split at h;trivial;show#[?_,h.2];obtain⟨h1,_⟩:=h;obtain⟨a,l,g1,g2⟩:=h1.ob;show 'ȗ'
abbrev zuq (f:AD):AD:=λD n Q=>f D n λx m=>zqS x λA7=>Q (.dn true A7) m
def zrq{BA G':Hp}{a:Addr}{ob:Obj}{A7:List (Dt×Dt)}(h:G' a=some (.frz ob 'o'))(s:zq BA G')(h2:uu BA ks)(q:xO BA A7 (kvN ks)):WAt G' G' (.dn true A7) 'J':=
 #[a,ks,A5,(if_pos A5).mpr #[ob,h],h2.stay s,q.stay s]
def zrH (h:JE X Pn M true e f):JE X Pn M false e (zuq f):=by
 obtain⟨te,q,r⟩:=h.ex;show#[_,zp8 q,'b'];show r.run A G H D n _ _ E P hf λw m v H' F hv g Y=>?_;rw[zf4] at F;obtain⟨A7,rfl,F⟩:=F;obtain⟨J,Z,B,_,ab,ks,e2,h1,h2,h3⟩:=Y A5;subst Z;cases e2;have h1:H' J=some (ddO J ks):=h1;have nA:=E.newF B;show#[J,ks,A5,h1,λob=>k _ m _ _ F (zrq (zv nA zg) (λb o I O=>?_) h2 h3) #[λb o I O=>?_,?_] λz=>by cases z];obtain⟨U,z2⟩:=zY.mp I;show zv (λy=>U (.inl y)) (by rw[zc λy=>U (.inr y)];show z2);rw[zc λy=>by subst y;show B o I O];show g.st b o I O;show zkg g.pn h1
abbrev mFrzO (j:Nat) (fs:Ms):Ms:=λD n k=>onV D j λw=>zqS w λA7=>onP D j (.dn true A7) λq=>fs q n { rt:=k.rt,nx:=λ_ _=>False }
def zrF {A:AL}{H:Hp}{B:Addr}{ob:Obj}{ks:List (Dt×Addr×V)}{A7:List (Dt×Dt)}(h:zF A H B=some (.frz ob (ddO B ks)))(J:uu '7' ks)(F:A7.map '%'=ks.map '%'):ItV false A H (Itn B ob (ddO B ks) (ks.map (·.2.1))) (A7.map λq=>W.d q.1) where
 one:=λi w A2 H2 e s _ _=>by
  have I:(ks.map λq=>W.d q.1)[i]?=some w:=by rw[<- e];have:=congrArg (List.map W.d) F;rw[aK,aK] at this;show congrArg (·[i]?) this.symm
  rw[aF] at I;obtain⟨q,h1,rfl⟩:=aI.mp I;show#[#[zw _ _ (s _ _ h λk z=>by cases z),by rw[ae];show (ai.mp h1).1],?_];rintro y H3 ⟨rfl,O,h2,rfl⟩;rw[aF,h1] at h2;cases h2;show#[λ_ _ z=>z,Val.of ((J q (aB h1)).2.2.stay s)]
 stop:=λA2 H2 s _=>by have:=congrArg List.length F;rw[ae,ae] at this;show#[zw _ _ (s _ _ h λk z=>by cases z),by rw[ae,ae];show this]
theorem xO.keys' {κ:Type}{BA:Hp}:∀ {A7:List (κ×Dt)} {ks:List (κ×V)},xO BA A7 ks->ks.map '%'=A7.map '%'
 | [],_,h=>by cases h;rfl
 | q::r,ks,⟨v,s,e,h1,h2⟩=>by subst e;rw[az,az,xO.keys' h2]
def zl5 (ks:'Ê'):(kvN ks).map '%'=ks.map '%':=by unfold kvN;rw[aK];rfl
abbrev dItN (fa:AD):AC:=λD n Q=>fa D n λx m=>onMz x λA7=>'Ġ'.Nodup->Q (A7.map λq=>W.d q.1) m
def zu0(h:'ė'):JI X Pn M false tg e (dItN f):=by
 obtain⟨te,q,r⟩:=h.ex;show#[_,zmM q,'b'];show r.run A G H D n _ _ E P hf λw m v H1 F O g _=>?_;rw[zpx] at F;obtain⟨A7,rfl,F⟩:=F;obtain⟨I,ks,rfl,h1,h2,U⟩:=O;obtain⟨ob,B⟩:∃ob,zF A H1 I=some (.frz ob (ddO I ks)):=by simpa [zia] using h1
 have J:A7.map '%'=ks.map '%':=by rw[<- U.keys',zl5]
 show#[I,ob,ks,A5,zw _ _ B,h2.stay (zq.same zw),λY=>k _ m _ H1 (F (by rw[J];show Y)) (zrF B h2 J) g]
end
end L3
namespace L2
open PyProof.Rows PySem.W PySem.Calls
mutual
def enD:Dt->AG
 | .int n=>[n]
 | .tup l=>zaN l
 | _=>[]
def zaN:AS->AG
 | []=>[0]
 | d::l=>1::(enD d++zaN l)
end
mutual
def Dt.cmp:Dt->Dt->Bool
 | .int _,.int _=>true
 | .tup l,.tup m=>Dt.cmps l m
 | _,_=>false
def Dt.cmps:AS->AS->Bool
 | a::l,b::m=>Dt.cmp a b&&Dt.cmps l m
 | _,_=>true
end
mutual
theorem zg3:∀ {x y:Dt} (r s:AG),Dt.cmp x y=true->HT.lexLt (enD x++r) (enD y++s)=if x=y then HT.lexLt r s else HT.lexLt (enD x) (enD y)
 | .int n,.int m,r,s,_=>by
  simp only[enD,cR,fq,HT.lexLt_cons,Dt.int.injEq,HT.lexLt_nil_nil];split;rfl;rfl
 | .tup l,.tup m,r,s,h=>by have:=zjJ r s (show Dt.cmps l m=true from h);simp only[enD,Dt.tup.injEq];show this
 | .int _,.tup _,_,_,h=>by cases h
 | .tup _,.int _,_,_,h=>by cases h
 | .non,_,_,_,h=>by cases h
 | .bl _,_,_,_,h=>by cases h
 | .str _,_,_,_,h=>by cases h
 | .lst _,_,_,_,h=>by cases h
 | .dct,_,_,_,h=>by cases h
 | .int _,.non,_,_,h=>by cases h
 | .int _,.bl _,_,_,h=>by cases h
 | .int _,.str _,_,_,h=>by cases h
 | .int _,.lst _,_,_,h=>by cases h
 | .int _,.dct,_,_,h=>by cases h
 | .tup _,.non,_,_,h=>by cases h
 | .tup _,.bl _,_,_,h=>by cases h
 | .tup _,.str _,_,_,h=>by cases h
 | .tup _,.lst _,_,_,h=>by cases h
 | .tup _,.dct,_,_,h=>by cases h
theorem zjJ:∀ {l m:AS} (r s:AG),Dt.cmps l m=true->HT.lexLt (zaN l++r) (zaN m++s)=if l=m then HT.lexLt r s else HT.lexLt (zaN l) (zaN m)
 | [],[],r,s,_=>by rw[if_pos rfl];rfl
 | [],_::_,r,s,_=>by rw[if_neg (by simp)];rfl
 | _::_,[],r,s,_=>by rw[if_neg (by simp)];rfl
 | a::l,b::m,r,s,h=>by
  simp only[Dt.cmps,aR] at h;have e1:=zg3 (zaN l++r) (zaN m++s) h.1;have e2:=zg3 (zaN l) (zaN m) h.1;have e3:=zjJ r s h.2;change HT.lexLt (1::(enD a++zaN l)++r) (1::(enD b++zaN m)++s)=_;rw[cR,cR,HT.lexLt_cons,if_pos rfl,aD,aD,e1];change _=if a::l=b::m then HT.lexLt r s else HT.lexLt (1::(enD a++zaN l)) (1::(enD b++zaN m));rw[HT.lexLt_cons,if_pos rfl,e2];by_cases hab:a=b;subst hab;rw[if_pos rfl,if_pos rfl,e3];by_cases hlm:l=m;rw[if_pos hlm,if_pos (by rw[hlm])];rw[if_neg hlm,if_neg (λz=>hlm (gn z).2)];rw[if_neg hab,if_neg hab,if_neg (λz=>hab (gn z).1)]
end
def zg2(h:Dt.cmp a b=true):HT.lexLt (zaN (a::l)) (zaN (b::m))=if a=b then HT.lexLt (zaN l) (zaN m) else HT.lexLt (enD a) (enD b):=by change HT.lexLt (1::(enD a++zaN l)) (1::(enD b++zaN m))=_;rw[HT.lexLt_cons,if_pos rfl,zg3 _ _ h]
section
variable {P:Aa}{w:Ab}
def zgN{A:Ae}{E:AA}{s:AZ}{x y:Dt}{u v:Value}{Q:Bool->AZ->Prop}(B:x.eqOk)(F:y.eqOk)(J:Reads s.heap u 'ƅ' as)(O:Reads s.heap v 'Ƅ' bs)(Y:A.units+9<cLine)(q:Q (decide (x=y)) s):wpAny 'Ò' A (eqBool u v) Q E s:=by have I:=dJ 8 _ B;have U:=dJ 8 _ F;show SeqAt.eqBoolOverData _ _ _ _ _ _ _ _ _ _ _ _ J O I.1 U.1 ?_ (by rw[znB B F];show q);have:min 'ƅ'.depth 'Ƅ'.depth<=8:=aw (Nat.min_le_left _ _) I.2;lia
def zeL(h:PySem.W.kqdOk n d=true):∀k,n<=k->PySem.W.kqdOk k d=true:=by
 have q:∀ (n:Nat) (d:PySem.W.Dat),PySem.W.kqdOk n d=true->PySem.W.kqdOk (n+1) d=true:=by
  intro n
  induction n with
  | zero=>intro d h;cases d <;> simp_all [PySem.W.kqdOk]
  | succ n B=>intro d h;cases d <;> simp_all [PySem.W.kqdOk]
 intro k F
 induction k with
 | zero=>
  obtain rfl:n=0:=by lia
  show h
 | succ k B=>
  by_cases e:n=k+1;subst e;show h;show q _ _ (B '!')
def zpf:∀ (n:Nat) {x y:Dt} {A:Around} {s:Shared} {u v:Value} {as bs:List Addr} {Q:Value->Shared->Prop},n<=8->x.hk=true->y.hk=true->Dt.cmp x y=true->PySem.W.kqdOk n x.toW=true->PySem.W.kqdOk n y.toW=true->
  Reads s.heap u 'ƅ' as->Reads s.heap v 'Ƅ' bs->A.units+n+20<cLine->Q (.bool (HT.lexLt (enD x) (enD y))) s->wpAny 'Ò' A (compareOp .Lt u v) Q E s:=by
 intro n
 induction n generalizing E with
 | zero=>
  intro x y A s u v as bs Q hn hx hy hc ox oy rx ry hu q
  cases x with
  | int i=>
   cases y with
   | int j=>
    cases rx;cases ry;refine PyProof.Rows.lt_int ?_
    have e:HT.lexLt (enD 'P') (enD (.int j))=decide (i<j):=by
     change (if i=j then HT.lexLt [] [] else decide (i<j))=decide (i<j);by_cases h:i=j
     ·rw[if_pos h,h];simp[HT.lexLt]
     ·rw[if_neg h]
    rw[<- e];show q
   | _=>cases hc
  | tup l=>simp[Dt.toW,PySem.W.kqdOk] at ox
  | _=>cases hx
 | succ n ih=>
  intro x y A s u v as bs Q hn hx hy hc ox oy rx ry hu q
  cases x with
  | int i=>
   cases y with
   | int j=>
    cases rx;cases ry;refine PyProof.Rows.lt_int ?_
    have e:HT.lexLt (enD 'P') (enD (.int j))=decide (i<j):=by
     change (if i=j then HT.lexLt [] [] else decide (i<j))=decide (i<j);by_cases h:i=j
     ·rw[if_pos h,h];simp[HT.lexLt]
     ·rw[if_neg h]
    rw[<- e];show q
   | _=>cases hc
  | tup l=>
   cases y with
   | tup m=>
    have hi:=xR ox;have hj:=xR oy;have al:=xp.mp (show Dt.hks l=true from hx);have an:=xp.mp (show Dt.hks m=true from hy)
    cases rx with
    | @tuple a o xs k1 xd as g ag hd hl=>
    cases ry with
    | @tuple b o2 ys k2 yd bs g2 ab a0 a1=>
    refine PySem.W.cmp_ofLt ?_;refine wpAny_richCompare_same_room (op:=.Lt) #[o,g,ag] #[o2,g2,ab] F.slot_tuple_lt (aX F.slot_tuple_lt #[o,g,ag] F.entry_tuple_lt ?_ (F.args_tuple_lt_2 _ _)) '!';change wpAny _ _ (isInstance 'q' (.type "tuple") >>= _) _ _ s;refine aa (cP #[o2,g2,ab] isSubtype_tuple_tuple ?_);simp only[dO,aN,if_false];refine aa (gX g hd ?_);refine aa (gX g2 a0 ?_);refine aa ?_
    refine dQ _
     (λzu r s'=>r.1=none/\s'=s/\∃l' J O U ac ad,zu=List.zip O U/\(∀d∈l',d∈l)/\(∀d∈J,d∈m)/\Dt.cmps l' J=true/\ReadsAll s.heap O (PySem.W.kqdPs (Dt.toWs l')) ac/\ReadsAll s.heap U (PySem.W.kqdPs (Dt.toWs J)) ad/\HT.lexLt (zaN l') (zaN J)=HT.lexLt (zaN l) (zaN m)/\O.length+ys.size=U.length+xs.size)
     _ ?_ ?_ _ _ #[A5,A5,l,m,xs.toList,ys.toList,_,_,A5,λ_ z=>z,λ_ z=>z,hc,hl,a1,A5,by simp;lia]
    ·rintro⟨p,q'⟩ zu r s' ⟨hr,rfl,l',J,O,U,ac,ad,Z,hL,hM,Y,ra,rb,B,I⟩
     cases l' with
     | nil=>
      simp only[Dt.toWs,PySem.W.kqdPs] at ra;cases ra;simp at Z
     | cons d l'=>
     cases J with
     | nil=>
      simp only[Dt.toWs,PySem.W.kqdPs] at rb;cases rb;simp at Z
     | cons d2 J=>
     simp only[Dt.toWs,PySem.W.kqdPs] at ra rb
     cases ra with
     | cons r1 ra=>
     cases rb with
     | cons r2 rb=>
     simp only[gS,ef,Prod.mk.injEq] at Z;obtain⟨⟨rfl,rfl⟩,rfl⟩:=Z;simp only[Dt.cmps,aR] at Y;have o1:=hi d (hL d '$');have o2:=hj d2 (hM d2 '$');refine aa (zgN (zeL o1 8 '!') (zeL o2 8 '!') r1 r2 (by show A.units+1+9<cLine;lia) ?_);rw[zg2 Y.1] at B;by_cases hd:d=d2
     ·rw[aA hd];rw[if_pos hd] at B;simp only[dO,aN,if_false];show af #[A5,A5,l',J,_,_,_,_,A5,λz Z=>hL z (ak _ Z),λz Z=>hM z (ak _ Z),Y.2,ra,rb,B,by simp only[aS] at I;lia]
     ·rw[aG hd];rw[if_neg hd] at B;simp only[Bool.not_false,if_true];refine aa (cD ?_);refine aa (show wpAny _ _ (compareOp .Lt p q') _ _ _ from ih '!' (al d (hL d '$')) (an d2 (hM d2 '$')) Y.1 o1 o2 r1 r2 (by show A.units+1+n+20<cLine;lia) ?_);refine aa (af '3');change wpAny _ _ (pure _) _ _ _;refine af #[_,A5,(λe=>nomatch e),?_];rw[B];show q
    ·rintro⟨r1,r2⟩ s' ⟨hr,rfl,l',J,O,U,ac,ad,Z,hL,hM,Y,ra,rb,B,I⟩;simp only at hr;subst hr;change wpAny _ _ (ret (Builtin.Tuple.tupleCompareSizes CmpOp.Lt xs.size ys.size)) _ _ _;refine af #[_,A5,(λe=>nomatch e),?_]
     have e:HT.lexLt (zaN l) (zaN m)=decide (xs.size<ys.size):=by
      rw[<- B]
      cases l' with
      | nil=>
       simp only[Dt.toWs,PySem.W.kqdPs] at ra;cases ra
       cases J with
       | nil=>
        simp only[Dt.toWs,PySem.W.kqdPs] at rb;cases rb;show (aG (by simp at I;lia)).symm
       | cons d2 J=>
        simp only[Dt.toWs,PySem.W.kqdPs] at rb;cases rb;show (aA (by simp at I;lia)).symm
      | cons d l'=>
       simp only[Dt.toWs,PySem.W.kqdPs] at ra;cases ra
       cases J with
       | nil=>
        simp only[Dt.toWs,PySem.W.kqdPs] at rb;cases rb;show (aG (by simp at I;lia)).symm
       | cons d2 J=>
        simp only[Dt.toWs,PySem.W.kqdPs] at rb;cases rb;simp at Z
     change Q (.bool (decide (xs.size<ys.size))) _;rw[<- e];show q
   | _=>cases hc
  | _=>cases hx
def lexI:∀s:AG,HT.lexLt s s=false:=zX
theorem za4:∀ {a b c:AG},HT.lexLt a b=true->HT.lexLt b c=true->HT.lexLt a c=true
 | [],[],_,h,_=>by cases h
 | [],_::_,[],_,h=>by cases h
 | [],_::_,_::_,_,_=>rfl
 | _::_,[],_,h,_=>by cases h
 | _::_,_::_,[],_,h=>by cases h
 | x::a,y::b,z::c,q,B=>by
  rw[HT.lexLt_cons] at q B ⊢;by_cases F:x=y;by_cases I:y=z;rw[if_pos F] at q;rw[if_pos I] at B;rw[if_pos (F.trans I)];show za4 q B;grind;grind
theorem za3:∀ {a b:AG},a=b\/HT.lexLt a b=true\/HT.lexLt b a=true
 | [],[]=>.inl A5
 | [],_::_=>.inr 'h'
 | _::_,[]=>.inr 'F'
 | x::a,y::b=>by
  rw[HT.lexLt_cons,HT.lexLt_cons];by_cases e:x=y
  ·subst e;rw[if_pos rfl,if_pos rfl];rcases za3 (a:=a) (b:=b) with h1 | h1 | h1
   all_goals right
  ·rw[if_neg e,if_neg (Ne.symm e)];rcases Int.lt_or_gt_of_ne e with h1 | h1
   all_goals right
def za2{A9:AF}(hi:i<A9.length)(B:j<A9.length):decide (xD A9 i<xD A9 j)=HT.lexLt (A9.getD i []) (A9.getD j []):=by
 have I:A9.getD i []∈A9:=by rw[bq,am hi];show bj hi
 have J:A9.getD j []∈A9:=by rw[bq,am B];show bj B
 have F:∀ {a b:AG},a∈A9->b∈A9->HT.lexLt a b=true->(A9.countP λc=>HT.lexLt c a)<(A9.countP λc=>HT.lexLt c b):=λ{a b} O U q=>
  zdo (λx Y hp=>za4 hp q) #[a,O,zX a,q]
 unfold xD;generalize A9.getD i []=a at I;generalize A9.getD j []=b at J;rcases za3 (a:=a) (b:=b) with h | h | h;subst h;rw[zX];right
 all_goals grind
def zl7 (e:AG):HT.lexLt e (e++[0])=true:=by
 induction e with
 | nil=>rfl
 | cons x e q=>rw[cR,HT.lexLt_cons,if_pos rfl];show q
def zrs(h:Dt.cmp x y=true)(e:enD x=enD y):x=y:=by
 by_cases q:x=y;show q;have:=zg3 [] [0] h;rw[if_neg q,e,bT,zl7,zX] at this;cases this
structure RowsOk (ft:Bool)(A9:AS):Prop where
 key:∀x∈A9,x.hk=true/\x.eqOk/\x.isTup=true
 cmp:∀x∈A9,∀y∈A9,Dt.cmp x y=true
 first:2<=A9.length->∀x∈A9,∃d l,x = .tup (d::l)/\d.isTup=ft
 nd:A9.Nodup
theorem zgV {A:Ae}{s:AZ}{b:Bool}{Q:Bool->AZ->Prop}(hu:A.units+40<cLine):∀ {l m:AS} {xs ys:AN} {as bs:AY} (i:Nat),(∀d∈l,d.hk=true/\PySem.W.kqdOk 7 d.toW=true)->(∀d∈m,d.hk=true/\PySem.W.kqdOk 7 d.toW=true)->Dt.cmps l m=true->
  ReadsAll s.heap xs (PySem.W.kqdPs (Dt.toWs l)) as->ReadsAll s.heap ys (PySem.W.kqdPs (Dt.toWs m)) bs->(b=true->i=0->∀d l',l=d::l'->d.isTup=false)->Q (HT.lexLt (zaN l) (zaN m)) s->W.KatLex P w A b (decide (xs.length<ys.length)) Q (xs.zip ys) i s
 | [],[],_,_,_,_,i,_,_,_,ra,rb,_,q=>by simp only[Dt.toWs,PySem.W.kqdPs] at ra rb;cases ra;cases rb;show W.kat_nil q
 | [],_::_,_,_,_,_,i,_,_,_,ra,rb,_,q=>by simp only[Dt.toWs,PySem.W.kqdPs] at ra rb;cases ra;cases rb;show W.kat_nil q
 | _::_,[],_,_,_,_,i,_,_,_,ra,rb,_,q=>by simp only[Dt.toWs,PySem.W.kqdPs] at ra rb;cases ra;cases rb;show W.kat_nil q
 | a::l,c::m,_,_,_,_,i,O,U,B,ra,rb,hb,q=>by
  simp only[Dt.toWs,PySem.W.kqdPs] at ra rb
  cases ra with
  | @cons u us _ _ _ _ F ra=>
  cases rb with
  | @cons v vs _ _ _ _ I rb=>
  rw[gS];simp only[Dt.cmps,aR] at B;obtain⟨k1,Y⟩:=O a '$';obtain⟨k2,Z⟩:=U c '$';rw[zg2 B.1] at q;show W.kat_cons (zgN (zeL Y 8 '!') (zeL Z 8 '!') F I '!' ?_);by_cases e:a=c;rw[aA e];rw[if_pos e] at q;have:=zgV hu '(' (λd J=>O d (ak _ J)) (λd J=>U d (ak _ J)) B.2 ra rb (b:=b) (λ_ z=>absurd z '!') q;rw[show decide ((u::us).length<(v::vs).length)=decide (us.length<vs.length) from by simp];show W.kat_yes this;rw[aG e];rw[if_neg e] at q;show W.kat_no ?_;have lt:=λ(Q':AA) (E:AA) (hq:Q' (.bool (HT.lexLt (enD a) (enD c))) s)=>zpf (P:=P) (w:=w) (E:=E) 7 '!' k1 k2 B.1 Y Z F I (A:=A) '!' hq
  cases hbi:(b&&i==0) with
  | false=>show W.kat_one _ _ (lt _ _ q)
  | true=>
   rw[aR,iG] at hbi;have:=hb hbi.1 hbi.2 a l A5
   cases a with
   | int n=>
    cases c with
    | int n2=>
     cases F;cases I;show oneLt_int ?_;have e2:HT.lexLt (enD (.int n)) (enD (.int n2))=decide (n<n2):=by change (if n=n2 then HT.lexLt [] [] else decide (n<n2))=decide (n<n2);rw[if_neg λz=>e (by rw[z])]
     rw[<- e2];show q
    | _=>cases B.1
   | tup _=>cases this
   | _=>cases B.1
def znp (h:Heap)(v:Value)(x:Dt):Prop:=∃a,v = .ref a/\zq3 h x a
def znp.keep(r:znp h v x)(B:h.Ns L m0)(F:h.get? BB=some (seqObj "list" vs n))(kp:∀b o,b≠L->b≠BB->h.get? b=some o->h'.get? b=some o):znp h' v x:=by
 obtain⟨a,e,k1,k2,as,r⟩:=r;show#[a,e,k1,k2,as,ue (λb o us O g I J=>kp b o (λz=>?_) (λz=>?_) g) k1 r];subst z;obtain⟨o',es,ep,g',q,_⟩:=B;rw[g] at g';cases g';rw[J] at q;cases q;subst z;rw[F] at g;cases g;show absurd (Value.type.inj I) '#'
theorem zeI:∀ {vs:AN} {A9:AS},Paired (znp h) vs A9->(∀x∈A9,∃d l,x = .tup (d::l)/\d.isTup=ft)->∃fs,W.KatTups h vs fs/\fs.length=A9.length/\∀f∈fs,(ft=false->∃a t,f=Value.int a t)/\(ft=true->∃a o,f=Value.ref a/\h.get? a=some o/\o.cls = .type "tuple")
 | _,_,.nil,_=>#[[],trivial,A5,λ_ h=>by simp at h]
 | _,_,.cons (b:=x) r U,h1=>by
  obtain⟨a,rfl,k1,k2,as,r⟩:=r;obtain⟨fs,f1,f2,f3⟩:=zeI U λz Y=>h1 z (ak _ Y);obtain⟨d,l,rfl,q⟩:=h1 x aq
  cases r with
  | @tuple a o B m xs as g Z F J=>
  obtain⟨vl⟩:=B;simp only[Dt.toWs,PySem.W.kqdPs] at J
  cases J with
  | @cons u us _ _ _ _ O r2=>
  show#[u::fs,#[#[a,o,_,m,A5,g,Z,F,A5],f1],'9',λf hf=>?_];rcases au.mp hf with rfl | hf;have hk:d.hk=true:=xp.mp (show Dt.hks (d::l)=true from k1) d '$'
  cases d with
  | int i=>cases O;show#[λ_=>'Ä',λz=>by rw[z] at q;cases q]
  | tup l'=>cases O with
   | @tuple a' o' _ _ _ _ g' I _ _=>show#[λz=>(by rw[z] at q;cases q),λ_=>#[a',o',A5,g',I]]
  | _=>cases hk
  show f3 f hf
variable {X:Cx}
theorem zeC(h:IsL H A9 vs):∀ {p:AR},(∀i∈p,i<A9.length)->IsL H (p.map λi=>A9.getD i .non) (p.map λi=>vs.getD i .non)
 | [],_=>rfl
 | i::p,hp=>by
  have hi:=hp i aq;obtain⟨x,h1,h2⟩:=h.getD (i:=i) (d:=A9[i]) (am hi);show#[vs.getD i .non,_,A5,?_,zeC h λj q=>hp j (ak _ q)];change Is H (A9.getD i .non) (vs.getD i .non);have B:A9.getD i .non=A9[i]:=by simp[hi]
  have F:vs.getD i .non=x:=by simp[h1]
  rw[B,F];show h2
end
mutual
theorem znE:∀ {d:Dt},d.hk=true->d.noL=true
 | .int _,_=>rfl
 | .tup l,h=>by simpa [Dt.noL] using zfK (show Dt.hks l=true from h)
 | .non,h=>by cases h
 | .bl _,h=>by cases h
 | .str _,h=>by cases h
 | .lst _,h=>by cases h
 | .dct,h=>by cases h
theorem zfK:∀ {l:AS},Dt.hks l=true->Dt.noLs l=true
 | [],_=>rfl
 | d::l,h=>by simp only[Dt.hks,aR] at h;simp only[Dt.noLs,aR];show#[znE h.1,zfK h.2]
end
def NDo (ob:Obj)(d:Addr)(ks:'Ê'):Prop:=ks.length<=sizeLine/\(d==sysModules)=false/\∃xs:List (Dt×Addr×Value),Paired PrN ks xs/\∃es ep,ob.ExactDict/\ob.data = .dict es ep/\es.toList=xs.map (λx=>#[zap x.1,.ref x.2.1,x.2.2])/\(xs.map '%').Nodup
section
variable {X:Cx}{A6:AB}{G:St}{H:Hp}{s:AZ}{a b d:Addr}{ob:Obj}{ks:List (Dt×Addr×V)}{k:Dt}{A:Ae}{E:AA}
variable {o i value:Expr}{pos pos':Pos}{td ty tv:TE}
end
end L2
namespace L3
open L2
def MeE (Q:Dt->AS->Prop)(BA:Hp)(q:Dt×Addr×V):Prop:=∃B o xs l,q.2.2 = .ref B/\BA B=some (.frz o '+')/\IsL BA l xs/\Dt.noLs l=true/\Q q.1 l
def MeG (d:Addr)(Q:Dt->AS->Prop)(BA:Hp):Prop:=∃ob ks,BA d=some (kO d ob)/\(∃h:Heap,h.get? d=some ob)/\NDo ob d ks/\uu BA ks/\∀q∈ks,MeE Q BA q
def Sk (BA G':Hp):Prop:=∀b o,BA b=some o->(imm o=true\/∃ob,o=kO b ob/\∃h:Heap,h.get? b=some ob)->G' b=some o
def Sk.t(h:Sk BA G'):zeg BA G':=λb xs e=>h b _ e 'h'
def MeE.st(h:MeE Q BA q)(t:zeg BA G')(f:∀b o xs,BA b=some (.frz o '+')->G' b=some (.frz o '+')):MeE Q G' q:=by obtain⟨F,o,xs,l,h1,h2,I,B,J⟩:=h;show#[F,o,xs,l,h1,f _ _ _ h2,I.stayT t B,B,J]
def uu.stT(h:uu BA ks)(s:zeg BA G'):uu G' ks:=λq B=>let ⟨h1,h2,h3⟩:=h q B;#[h1,h2,h3.stayT s (znE h1)]
def MeG.sk(h:MeG d Q BA)(s:Sk BA G'):MeG d Q G':=by obtain⟨ob,ks,h1,h2,B,F,I⟩:=h;show#[ob,ks,s _ _ h1 (.inr #[ob,A5,h2]),h2,B,uu.stT F s.t,λq J=>(I q J).st s.t λb o xs e=>s b _ e 'h']
def zr4{b:Addr}{o o':HO}(e:o=kO b ob)(h:∃h:Heap,h.get? b=some ob)(n:NP o):False:=by subst e;show zvr h n
def zvp (d:Addr)(Q:Dt->AS->Prop):Jv where
 K:=λA H=>MeG d Q '7'
 same:=λh s=>h.sk λb o e _=>zaq s b o e
 grow:=λ{A A' H} h g=>h.sk λb o e n=>by
  obtain⟨F,B⟩:=zY.mp e;show zv (λz=>?_) B;rcases g b z with q | ⟨o',q1,q2,q3⟩;show F q;rw[B] at q1;cases q1;rcases n with n | ⟨ob,n1,n2⟩;rw[show imm o=false from q3] at n;cases n;show zr4 (o':=o) n1 n2 q2
 upd:=λ{A H p o} h hp=>by rw[zH hp];show h
 frz:=λ{A H p o o'} h hp np I=>h.sk λb u e n=>by
  obtain⟨F,B⟩:=zY.mp e
  have J:b≠p:=λz=>by
   subst z;rw[hp] at B;cases B;rcases n with n | ⟨ob,n1,n2⟩;rw[show imm o=false from I] at n;cases n;show zr4 (o':=o) n1 n2 np
  show zv F (by rw[zc J];show B)
def andJ (J J':Jv):Jv where
 K:=λA H=>J.K A H/\J'.K A H
 same:=λh s=>#[J.same h.1 s,J'.same h.2 s]
 grow:=λh g=>#[J.grow h.1 g,J'.grow h.2 g]
 upd:=λh a=>#[J.upd h.1 a,J'.upd h.2 a]
 frz:=λh a b c=>#[J.frz h.1 a b c,J'.frz h.2 a b c]
structure IsMemo (J:Jv)(d:Addr)(Q:Dt->AS->Prop):Prop where
 get:∀A H,J.K A H->MeG d Q (zF A H)
 ch:∀A H H',J.K A H->(∀b o,H b=some o->b≠d->H' b=some o)->MeG d Q (zF A H')->J.K A H'
abbrev PN.mo (Pn:PN) (d:Addr) (Q:Dt->AS->Prop):PN:=#[Pn.pn,andJ (zvp d Q) Pn.J]
section
variable {X:Cx}{Pn:PN}{M M' S:AR}{fr fr':Bool}{pos p p1 p2 p3 p4 p5 p6:Pos}{e a b c:Expr}{f fa fb fc:AD}{fk fm:Ev->W->Prop}{st:Stmt}{A9:List Stmt}{fs gs:Ms}{x:Str}{i:Nat}
abbrev pVar (i:Nat):Ev->W->Prop:=λD w=>D[i]?=some 'Q'
abbrev pWide (i:Nat):Ev->W->Prop:=λD w=>∃d fs q,D[i]?=some (some (.wd d fs q))/\w = .pen d/\yI fs (Sum.inr "wide" : Key)=none
abbrev mPSeq (f g:Ms):Ms:=λD n k=>f D n { nx:=λq B=>blk g q B k,rt:=λ_ _=>False }
abbrev mPFrz (j:Nat) (fs:Ms):Ms:=λD n k=>onV D j λw=>zqS w λA7=>onP D j (.dn true A7) λq=>fs q n k
abbrev mPEnd (f:AD):Ms:=λD n k=>f D n λw m=>k.rt w m/\k.nx D m
abbrev mMemo (Pn:PN) (fk fm:Ev->W->Prop) (fb:Ms):Ms:=λD n k=>∃ (d:Addr) (Q:Dt->AS->Prop) (q:Dt) (F:AS),IsMemo Pn.J d Q/\q.ky/\(∀I l,Q I l->I∈F)/\F.length<=lim/\fk D (.d q)/\fm D (.pen d)/\
 blk fb D n { nx:=λB _=>fk B (.d q)/\fm B (.pen d),rt:=λw m=>∃l,w = .fl l/\m=n/\Dt.noLs l=true/\Q q l }/\∀l,Q q l->k.rt 'ġ' n
abbrev dFlz (f:AD):AD:=λD n Q=>f D n λx m=>onL x λl=>Q (.fl l) m
end
abbrev Fs:=List (Key×Dt)
abbrev Kn:=List (AG×Dt)
abbrev FW:=PN->AU->Nat->(Fs->Kn->Nat->Prop)->Prop
section
variable {X:Cx}{Pn:PN}{M M' S:AR}{fr fr':Bool}{pos p:Pos}{p0 p1 p2 p3 p4 p5 p6 p7:Pos}{j0 j1 j2 j3 j4 j5 j6:Nat}{e a b c:Expr}{es:AO}{f fa fb fc:AD}{st:Stmt}{A9:List Stmt}{fs:Ms}{gs:Ev->Nat->(Fs->Kn->Nat->Prop)->Prop}{x:Str}{i:Nat}
abbrev mWSeq (f:Ms) (g:Ev->Nat->(Fs->Kn->Nat->Prop)->Prop):Ev->Nat->(Fs->Kn->Nat->Prop)->Prop:=λD n R=>f D n { nx:=λq B=>g q B R,rt:=λ_ _=>False }
abbrev mWRet (q i1 i2 i3 B F:Nat):Ev->Nat->(Fs->Kn->Nat->Prop)->Prop:=λD n R=>onV D q λI=>onD I λJ=>onV D i1 λw1=>onD w1 λO=>onV D i2 λw2=>onD w2 λU=>onV D i3 λw3=>onD w3 λY=>onV D B λZ=>onD Z λd4=>onV D F λw5=>onZ w5 λkn=>
 R [(Sum.inr "room",J),(Sum.inr "some",O),(Sum.inr "box",U),(Sum.inr "worse",Y),(Sum.inr "there",d4)] kn n
abbrev mWCons (f:AD) (g:Ev->Nat->(AU->PN->Nat->Prop)->Prop):Ev->Nat->(AU->PN->Nat->Prop)->Prop:=λD n R=>f D n λw m=>g D m λq Pm B=>R (w::q) Pm B
abbrev mWHead (k:Nat) (F:FW) (Pn:PN) (fs:AC) (gs:Addr->(Dt->AS->Prop)->AC):Ev->Nat->(AU->PN->Nat->Prop)->Prop:=λD n R=>fs D n λB m=>B.length=k/\F Pn B m λf I J=>∃Q,∀d,gs d Q D J λq O=>R (.wd d f I::q) (Pn.mo d Q) O
abbrev mFnW (k:Nat) (F:PN->AU->Mo W) (fs:Ev->Nat->(AU->PN->Nat->Prop)->Prop):AD:=λD n R=>fs D n λq Pm m=>q.length=k/\F Pm q m R
abbrev mWorld (k i:Nat) (F:FW) (Pn:PN) (fs:AC) (gs:Addr->(Dt->AS->Prop)->Ms):Ms:=λD n K=>fs D n λB m=>B.length=k/\F Pn B m λf I J=>∃Q,∀d,onP D i (.wd d f I) λq=>blk (gs d Q) q J { rt:=K.rt,nx:=λ_ _=>False }
abbrev onWd (w:W) (P:Fs->Kn->Prop):Prop:=match w with | .wd _ f q=>P f q | _=>False
abbrev dWGet (fb:AD) (k:Key):AD:=λD n Q=>fb D n λx m=>onWd x λf _=>onO (yI f k) λd=>Q (.d d) m
abbrev dWKn (fb:AD):AD:=λD n Q=>fb D n λx m=>onWd x λf q=>yI f (Sum.inr "known" : Key)=none/\Q (.df q) m
abbrev dInZ (q:Bool) (fk fd:AD):AD:=λD n Q=>fk D n λy n1=>fd D n1 λx n2=>onZ x λA7=>∃st,y = .d 'T'/\Q (.d (.bl (xr q (yI A7 st).isSome))) n2
abbrev mRelN (j:Nat) (fs:Ms):Ms:=λD n k=>onN D j λq=>fs q n { rt:=k.rt,nx:=λ_ _=>False }
def ltD (a b:Dt):Prop:=HT.lexLt (enD a) (enD b)=true
def zpe {a:Dt}:¬ ltD a a:=λh=>by unfold ltD at h;rw[lexI] at h;cases h
def zrZ {a b c:Dt}(h:ltD a b)(h':ltD b c):ltD a c:=za4 h h'
theorem zhg {α:Type}{r:α->α->Prop}(q:∀x,¬ r x x)(B:∀x y z,r x y->r y z->r x z):∀ {l l':List α},l.Perm l'->l.Pairwise r->l'.Pairwise r->l=l'
 | [],l',p,_,_=>p.nil_eq
 | a::l,[],p,_,_=>by cases p.eq_nil
 | a::l,b::l',p,h,h'=>by
  have e:a=b:=by
   rcases au.mp (p.mem_iff.mp (aq (a:=a) (l:=l))) with z | z;show z;rcases au.mp (p.mem_iff.mpr (aq (a:=b) (l:=l'))) with y | y;show y.symm;show (q a (B _ _ _ ((aQ.mp h).1 b y) ((aQ.mp h').1 a z))).elim
  subst e;rw[zhg q B (p.cons_inv) (aQ.mp h).2 (aQ.mp h').2]
abbrev dSortD:AU->Mo W:=λB n Q=>on1 B λx=>onS x λA9=>A9.length<64/\(∃ft,RowsOk ft A9)/\∀q:AS,q.Perm A9->q.Pairwise ltD->Q (.d (.lst q)) n
end
def zkc {a c:Int×Int}(h:yq a=yq c):a=c:=by obtain⟨q,B⟩:=a;obtain⟨F,I⟩:=c;simp only[yq,Dt.tup.injEq,ef,Dt.int.injEq,and_true] at h;rw[h.1,h.2]
def zlJ {a c:List 'W'}(h:zbY a=zbY c):a=c:=(dU λ_ _ z=>zkc z).mp (Dt.tup.inj h)
def zoK (g:List 'W'):(zbY g).ky:=#[xp.mpr λd B=>by obtain⟨q,_,rfl⟩:=aJ.mp B;rfl,zcW.1,A5]
def zlr (p q:Int×Int):Dt.cmp (yq p) (yq q)=true:=rfl
theorem zem:∀g h:List 'W',Dt.cmps (g.map yq) (h.map yq)=true
 | [],_=>rfl
 | _::_,[]=>rfl
 | p::g,q::h=>by rw[az,az,Dt.cmps,zlr,zem g h];rfl
end L3
namespace L2
open PyProof.Rows PySem.W PySem.Calls
section
variable {X:Cx}{e:Expr}{te:TE}{p p2 kp pos:Pos}
end
end L2
namespace L3
open L2
section
variable {X:Cx}{Pn:PN}{M:AR}{fr fr':Bool}{e a b:Expr}{f fa:AD}{p p2 kp pos:Pos}
abbrev onLf (w:W) (P:List AS->Prop):Prop:=match w with | .lf i=>P i | _=>False
abbrev dMinL (fs:AC):AD:=λD n Q=>fs D n λB m=>on1 B λx=>onLf x λq=>0<q.length/\∀ (i:Nat) (l:AS),q[i]?=some l->'Ȯ'->Q (.fl l) m
end
end L3
namespace L2
open PyProof.Rows
section
variable {prog:Aa}{w:Ab}{A:Ae}{R:Result->AZ->Prop}{s:AZ}
def zop(I:'Ą')(turn:∀n s,I n s->Ag prog w A (pyNext it) (λr s₁=>match r with
   | none=>R '©' s₁
   | some v=>Ag prog w A (letOwnedTupleGo t3 it v) (λ_ s₂=>Ag prog w A (assign t3 env v) (λ_ s₃=>
     Ag prog w A (forIn f3 true λc r=>if r=true then do let ok <- isTrue c env (eval c env);pure 'Ɔ' else pure 'Ś') (λok s₄=>
      if ok=true then Ag prog w A (eval elt env) (λx s₅=>
       Ag prog w A (call 'Ĥ' [acc,x]) 'ǆ' '&' s₅) '&' s₄
      else ∃m,m<n/\I m s₄) '&' s₃) '&' s₂) '&' s₁) '&' s)(n:Nat)(h:I n s) :
  codeAny '2' A (.compLoop 'Z' 2 it acc env) R s:=by
 show dZ A5 I 'ě' n h;change wpAny _ A ((compTurn 'Z' 2 it acc env).onRaise 'ċ') _ _ s;show eL ?_;unfold compTurn;show aa 'Ĉ'
 cases r with
 | none=>show af h₁
 | some v=>
  show aa 'Ċ';show aa 'ć'
  cases ok with
  | false=>show af #[A5,h₄]
  | true=>
   show aa 'ǔ'
def zoq(hf:∀x,foldedSetIterable i3 env x=pure x)(I:'Ą')(turn:∀n s,I n s->Ag prog w A (pyNext it) (λr s₁=>match r with
   | none=>R '©' s₁
   | some v=>Ag prog w A (letOwnedTupleGo t2 it v) (λ_ s₂=>Ag prog w A (assign t2 env v) (λ_ s₃=>
     Ag prog w A (forIn f2 true λc r=>if r=true then do let ok <- isTrue c env (eval c env);pure 'Ɔ' else pure 'Ś') (λok s₄=>
      if ok=true then Ag prog w A (eval i3 env) (λx s₅=>Ag prog w A (pyIter x) (λiv s₆=>
       codeAny '2' A (.compStart 'Z' 2 iv acc env) (λr s₇=>match r with
        | .ok _=>∃m,m<n/\I m s₇
        | .error _=>False) s₆) '&' s₅) '&' s₄
      else ∃m,m<n/\I m s₄) '&' s₃) '&' s₂) '&' s₁) '&' s)(n:Nat)(h:I n s) :
  codeAny '2' A (.compLoop 'Z' 1 it acc env) R s:=by
 show dZ A5 I 'ě' n h;change wpAny _ A ((compTurn 'Z' 1 it acc env).onRaise 'ċ') _ _ s;show eL ?_;unfold compTurn;show aa 'Ĉ'
 cases r with
 | none=>show af h₁
 | some v=>
  show aa 'Ċ';show aa 'ć'
  cases ok with
  | false=>show af #[A5,h₄]
  | true=>
   show aa 'Ơ';show aa (bv ?_);show wpAny _ _ (foldedSetIterable i3 env x >>= _) _ _ _;rw[hf];show aa '3';show wpAny _ _ (holding [x] (pyIter x) >>= _) _ _ _;show aa 'ǩ';show aa (wpAny_runOwn (h:=none) ?_);show dW 'Ǭ' λr s₇ h₇=>?_
   cases r with
   | ok f=>show af #[A5,h₇]
   | error e=>show h₇.elim
def zor(hf:∀x,foldedSetIterable i2 env x=pure x)(I:'Ą')(turn:∀n s,I n s->Ag prog w A (pyNext it) (λr s₁=>match r with
   | none=>R '©' s₁
   | some v=>Ag prog w A (letOwnedTupleGo t1 it v) (λ_ s₂=>Ag prog w A (assign t1 env v) (λ_ s₃=>
     Ag prog w A (forIn f1 true λc r=>if r=true then do let ok <- isTrue c env (eval c env);pure 'Ɔ' else pure 'Ś') (λok s₄=>
      if ok=true then Ag prog w A (eval i2 env) (λx s₅=>Ag prog w A (pyIter x) (λiv s₆=>
       codeAny '2' A (.compStart 'Z' 1 iv acc env) (λr s₇=>match r with
        | .ok _=>∃m,m<n/\I m s₇
        | .error _=>False) s₆) '&' s₅) '&' s₄
      else ∃m,m<n/\I m s₄) '&' s₃) '&' s₂) '&' s₁) '&' s)(n:Nat)(h:I n s) :
  codeAny '2' A (.compLoop 'Z' 0 it acc env) R s:=by
 show dZ A5 I 'ě' n h;change wpAny _ A ((compTurn 'Z' 0 it acc env).onRaise 'ċ') _ _ s;show eL ?_;unfold compTurn;show aa 'Ĉ'
 cases r with
 | none=>show af h₁
 | some v=>
  show aa 'Ċ';show aa 'ć'
  cases ok with
  | false=>show af #[A5,h₄]
  | true=>
   show aa 'Ơ';show aa (bv ?_);show wpAny _ _ (foldedSetIterable i2 env x >>= _) _ _ _;rw[hf];show aa '3';show wpAny _ _ (holding [x] (pyIter x) >>= _) _ _ _;show aa 'ǩ';show aa (wpAny_runOwn (h:=none) ?_);show dW 'Ǭ' λr s₇ h₇=>?_
   cases r with
   | ok f=>show af #[A5,h₇]
   | error e=>show h₇.elim
def zls(h1:codeAny '2' A (.compLoop 'Z' 1 it acc env) R s)(h2:Ag prog w A (pyIter it) (λit' s'=>codeAny '2' A (.compLoop 'Z' 1 it' acc env) R s') '&' s) :
  codeAny '2' A (.compStart 'Z' 1 it acc env) R s:=by
 show ff ?_;change wpAny _ A ((compStart 'Z' 1 it acc env).onRaise 'ţ') _ _ s;show fg ?_;unfold compStart;rw[if_neg 'Ȍ'];show aa (bA ?_);split;show af #[A5,h1];show aa (cD ?_);show aa (bv ?_);show aa 'ǫ'
def zlt(h1:codeAny '2' A (.compLoop 'Z' 2 it acc env) R s)(h2:Ag prog w A (pyIter it) (λit' s'=>codeAny '2' A (.compLoop 'Z' 2 it' acc env) R s') '&' s) :
  codeAny '2' A (.compStart 'Z' 2 it acc env) R s:=by
 show ff ?_;change wpAny _ A ((compStart 'Z' 2 it acc env).onRaise 'ţ') _ _ s;show fg ?_;unfold compStart;rw[if_neg 'Ȍ'];show aa (bA ?_);split;show af #[A5,h1];show aa (cD ?_);show aa (bv ?_);show aa 'ǫ'
end
def inG (J:It)(g:TG)(ti:TT)(tb:'ľ'->St->Hp->Prop)(N:'Ø')(G:St)(H:Hp):Prop:=∃W:Nat->Nat->St->Hp->Prop,'ę'/\
 ∀i m q H',W i m q H'->(J.stop i H'/\N q H')\/(J.go i H'/\∃N2:St->Hp->Prop,(∀ F H2,N2 F H2->∃I,I<m/\W '(' I F H2)/\∀x H2,J.yld i H' x H2->g x q H2 λB H3=>ti B H3 λO H4=>if O=true then tb N2 B H4 else N2 B H4)
abbrev zq7 (te:TE)(acc:Addr):'ľ'->St->Hp->Prop:=λNx G H=>te G H λv H'=>∃xs,H' acc=some '+'/\xs.length<sizeLine/\Nx G 'Ǉ'
def zn7 (wi:TI)(g:TG)(ti:TT)(wi2:TI)(g2:TG)(ti2:TT)(q:TI)(g3:TG)(B:TT)(te:TE)(A8:List '0'):TE:=λG H Q=>wi G H λJ H1=>∀acc,H1 acc=none->
 inG J g ti (λN G H=>wi2 G H λJ2 H2=>inG J2 g2 ti2 (λN G H=>q G H λJ3 H3=>inG J3 g3 B (zq7 te acc) N G H3) N G H2) (λ_ H=>Q 'H' H) '<' 'Ő'
def zbT{X:Cx}{ifs:AO}{g:TG}{ti:TT}{wi:TI}{tb:'ľ'->St->Hp->Prop}{B:(AZ->Prop)->AZ->Prop}{pl:AB}{G:St}{H:Hp}{s:AZ}{Nx:St->Hp->Prop}{P:AZ->Prop}(L:∀it,zih 'N' X.A e k tg ifs it 'H' X.env B)(yT:∀ {it:Value} {R:Result->AZ->Prop} {s:AZ},codeAny 'N' X.A (.compLoop e k it 'H' X.env) R s->Af X (pyIter it) (λab s'=>codeAny 'N' X.A (.compLoop e k ab 'H' X.env) R s') '&' s->codeAny 'N' X.A (.compStart e k it 'H' X.env) R s)(hc:'D')(xX:X.xe=λ_ _=>False)(hi:'Ļ')(hg:PG X tg g)(ht:PTs X ifs ti)(U:∀pl' s G H (Nx:'Ø') (P:AZ->Prop),Inv X (pl++pl') G H s->tb Nx G H->(∀ F H' s',Inv X (pl++pl') F H' s'->Nx F H'->P s')->B P s)(I:Inv X pl G H s)(q:wi G H λJ H2=>inG J g ti tb Nx G H2)(kk:∀ F H' s',Inv X pl F H' s'->Nx F H'->P s') :
  Af X 'ı' (λx s5=>Af X (pyIter x) (λiv s6=>codeAny 'N' X.A (.compStart e k iv 'H' X.env) 'ƛ' s6) '&' s5) '&' s:=by
 have e9:=hi pl s G H _ I q;rw[xX] at e9;show thn e9 λxv s1 h1=>thn h1 λac s2 h2=>?_;obtain⟨it,fp,tn,J,H2,e,I2,T,Y,f2,W,⟨m0,w0⟩,Z⟩:=h2;subst e;have O:=zb4 (X:=X) (pl:=pl) (R:=λr s7=>match r with | .ok _=>P s7 | .error _=>False) (k:=k) (L _) hc xX T (λhn b U=>#[hn b U,(f2 b U).2]) hg ht U Z (λF H' s' I' q'=>kk F H' s' I' q') I2 Y (λb U=>(f2 b U).1) w0;show yT O (T.self X.A 0 _ _ _ Y O)
section
variable {X:Cx}{Fam:Cx->Prop}{scope:Scope}{A8:List (Option Nat)}{use:Option (Value->Sem Unit)}{Qp:AA}{elt t1 i1 t2 i2 t3 i3:Expr}{f1 f2 f3:AO}{pos ipos spos px:Pos}{w1 w2 w3:TI}{g1 g2 g3:TG}{n1 n2 n3:TT}{te:TE}{A6:AB}{G:St}{H:Hp}{s:AZ}{Q:VK}
def zhB (O:'ŝ')(hc:'D')(h1:PI X t1 i1 w1)(ab:∀X',Fam X'->PG X' t1 g1)(ac:∀X',Fam X'->PTs X' f1 n1)(h2:∀X',Fam X'->PI X' t2 i2 w2)(ad:∀X',Fam X'->PG X' t2 g2)(ag:∀X',Fam X'->PTs X' f2 n2)(h3:∀X',Fam X'->PI X' t3 i3 w3)(al:∀X',Fam X'->PG X' t3 g3)(an:∀X',Fam X'->PTs X' f3 n3)(he:'Ǐ')
  (hs:'Ȉ') (as:∀X',Fam X'->∀x,foldedSetIterable i2 X'.env x=pure x) (a0:∀X',Fam X'->∀x,foldedSetIterable i3 X'.env x=pure x) (I:')') (h:zn7 w1 g1 n1 w2 g2 n2 w3 g3 n3 te A8 G H Q) (Y:ztM X A6 G use Qp Q) :
  Af X (comprehension 'Z' scope X.env ipos (newList []) false (eval i1 X.env) use) Qp X.xe s:=
 uD (ob:='ǥ') (o0:=λ_=>.lst []) (Fin:=λacc H=>Q 'H' H)
  (B:=λX' acc P s=>wpAny 'c' X'.A (eval i2 X'.env) (λx Z=>wpAny 'c' X'.A (pyIter x) (λiv s6=>codeAny 'c' X'.A (.compStart 'Z' 1 iv 'H' X'.env) 'ƛ' s6) '&' Z) '&' s) (tb:=λacc Nx G H=>w2 G H λJ2 H2=>inG J2 g2 n2 (λN G H=>w3 G H λJ3 H3=>inG J3 g3 n3 (zq7 te acc) N G H3) Nx G H2)
  O hc A5 hs (λ_ _ _ _ _ h0 h1=>fG h0 h1) (λX' U _ _ _ _ I F n h=>zor (as X' U) I F n h) (λs Q h=>bg h) (λ_ _=>#[aP _,[],0,.nil,']']) h1 ab ac (λX' U pX wX AX cX xX acc pl s G H Nx P I q k=>
   zbT (k:=1) (B:=λP s=>wpAny 'c' X'.A (eval i3 X'.env) (λx Z=>wpAny 'c' X'.A (pyIter x) (λiv s6=>codeAny 'c' X'.A (.compStart 'Z' 2 iv 'H' X'.env) 'ƛ' s6) '&' Z) '&' s) (tb:=λN G H=>w3 G H λJ3 H3=>inG J3 g3 n3 (zq7 te acc) N G H3)
    (λit _ _ I F n h=>zoq (a0 X' U) I F n h) (λa b=>zls a b) cX xX (h2 X' U) (ad X' U) (ag X' U) (λa1 s G H Nx P I q k=>
     zbT (k:=2) (B:=λP s=>wpAny 'c' X'.A (eval elt X'.env) (λx Z=>wpAny 'c' X'.A (call 'Ĥ' [.ref acc,x]) (λ_ s6=>P s6) '&' Z) '&' s) (tb:=zq7 te acc)
      (λit _ _ I F n h=>zop I F n h) (λa b=>zlt a b) cX xX (h3 X' U) (al X' U) (an X' U) (λ_ _ _ _ _ _ I q k=>zdi (he X' U) xX I q k) I q k) I q k) I h 'Ǎ' Y
def zmO(q:'«')(B:X.N[ix]?=some nx)(F:'Ʈ')(hc:'D')(c:'k')(h1:QI X t1 i1 w1)(J:∀C s H ex,QG '-' t1 g1)(O:∀C s H ex,QTs '-' f1 n1)(h2:∀C s H ex,QI '-' t2 i2 w2)(Y:∀C s H ex,QG '-' t2 g2)(Z:∀C s H ex,QTs '-' f2 n2)(h3:∀C s H ex,QI '-' t3 i3 w3)(ab:∀C s H ex,QG '-' t3 g3)(ac:∀C s H ex,QTs '-' f3 n3)(he:'Ŵ')(ad:swapsWithSole 'ì' 'Z' spos.line X.env=pure true:=by rfl)(hs:'Ȉ':=by intro _;rfl)(ag:∀C s H ex x,foldedSetIterable i2 '-'.env x=pure x:=by intro _ _ _ _ _;rfl)(al:∀C s H ex x,foldedSetIterable i3 '-'.env x=pure x:=by intro _ _ _ _ _;rfl)(an:'Ɛ':=by rfl):QS X (.Assign 'ì' 'Z' spos) (zie (zn7 w1 g1 n1 w2 g2 n2 w3 g3 n3 te A8) (zbD ix)):=#[λA6 s G H BB I h=>zgA q B F ad an (λ_=>rfl) λU Qp hf=>zhB (Q:=λv H=>BB.nx (G.set ix '¬') H) (uL c) hc h1.run 'ƶ' 'Ū' (zaO λC s H ex=>(h2 C s H ex).run) (zaO λC s H ex=>(Y C s H ex).run) (zaO λC s H ex=>(Z C s H ex).run) (zaO λC s H ex=>(h3 C s H ex).run) (zaO λC s H ex=>(ab C s H ex).run) (zaO λC s H ex=>(ac C s H ex).run) (zaO λC s H ex=>(he C s H ex).run) hs (zaO λC s H ex=>ag C s H ex) (zaO λC s H ex=>al C s H ex) I h hf]
end
end L2
namespace L3
open L2
abbrev CB:=Ev->Nat->AS->(Ev->Nat->AS->Prop)->Prop
def clR (mg:'U')(ft:'O')(fb:CB)(B:Ev)(F:AS)(K:Ev->Nat->AS->Prop):AU->Nat->Prop:=λl n1=>∃I:Nat->Ev->Nat->AS->Prop,I 0 B n1 F/\
 (∀i w D n ds,l[i]?=some w->I i D n ds->mg w D λq=>ft q n λb n2=>onC b (fb q n2 ds (I '(')) (I '(' q n2 ds))/\∀ D n ds,I l.length D n ds->K D n ds
abbrev apR (q:AD):CB:=λD n ds K=>q D n λx n3=>onD x λd=>ds.length<=lim/\K D n3 (ds++[d])
abbrev inB (q:AC) (mg:'U') (ft:'O') (fb:CB):CB:=λD n ds K=>q D n (clR mg ft fb D ds K)
section
variable {X:Cx}{Pn:PN}{M S cM:AR}{fr fr':Bool}{e:Expr}{es:AO}{pos:Pos}{A:AL}{acc:Addr}{H1 H H':Hp}{σc G:St}{ρc D:Ev}{n m:Nat}{ds:AS}
structure RBd (Pn:PN)(cM:AR)(tb:Addr->(St->Hp->Prop)->St->Hp->Prop)(fb:CB):Prop where
 run:∀ (A:AL) (acc:Addr) (H1:Hp) (σc:St) (ρc:Ev) (G:St) (H:Hp) (D:Ev) (n:Nat) (ds:AS) (BA:Hp) (K:Ev->Nat->AS->Prop) (Nx:St->Hp->Prop),H1 acc=none->(∀k w,k∈cM->ρc[k]?=some (some w)->σc[k]?≠some (some (.ref acc)))->CS Pn A acc H1 cM σc ρc G H D n ds->zq BA (zF (λb=>A b\/b=acc) H)->fb D n ds K->
  (∀ σ2 H2 ρ2 n2 ds2,CS Pn A acc H1 cM σc ρc σ2 H2 ρ2 n2 ds2->zq BA (zF (λb=>A b\/b=acc) H2)->K ρ2 n2 ds2->Nx σ2 H2)->tb acc Nx G H
def zs6(he:RE Pn cM fr' te Y):RBd Pn cM (λacc=>zq7 te acc) (apR Y):=#[λA acc H1 σc ρc G H D n ds BA K Nx B na c sG r k=>by
 show he.run _ G H D n _ _ c.env c.pn r ?_;intro w5 m5 v5 H5 Z V5 I _;rw[xF] at Z;obtain⟨d,e5,J,r5⟩:=Z;subst e5;have q:=c.go I.st I.pn;have O:=sG.trans (zr I.st);obtain⟨xs,U,F⟩:=q.ac;show#[xs,U,zb3 (by rw[F.length];show J),k _ _ _ _ _ #[q.env.upd 'F' (λk w hk hw z=>?_) NP.lst A5,q.pn.upd 'F',#[_,zg,?_],?_,?_,q.fx] ?_ r5];obtain⟨f1,f2⟩:=q.fx k hk;rw[f1] at z;rw[f2] at hw;show na k w hk hw z;rw[zH 'F'];show F.append (IsL.one V5.is);rw[zH 'F'];show q.st;show λb o e nn=>by rw[zc (ze e B)];show q.s1 b o e nn
 rw[zH 'F'];show O]
def zkx(hg:RG cM cM g mg)(ht:RT Pn cM ti ft)(hb:RBd Pn cM tb fb)(I:H1 acc=none)(na:∀k w,k∈cM->ρc[k]?=some 'Q'->σc[k]?≠some 'Û')(c:CS Pn A acc H1 cM σc ρc G H D n ds)(sG:zq BA (zF 'A' H))(V2:Val 'A' H w x)(r:mg w D λB=>ft B n λb n2=>onC b (fb B n2 ds K) (K B n2 ds))(k:∀ J H2 O n2 U,CS Pn A acc H1 cM σc ρc J H2 O n2 U->zq BA 'Ć'->K O n2 U->Nx J H2):g x G H λq H3=>ti q H3 λok H4=>if ok=true then tb acc Nx q H4 else Nx q H4:=by
 show hg.run _ G H D x w _ _ c.env V2 r λq F r3 E3 f3=>?_;have c3:CS Pn A acc H1 cM σc ρc q H F n ds:=#[E3,c.pn,c.ac,c.st,c.s1,λk Z=>#[(f3 k Z).1.trans (c.fx k Z).1,(f3 k Z).2.trans (c.fx k Z).2]];show ht.run _ q H F n _ _ E3 c.pn r3 λb m3 H4 r4 g4=>?_;have c4:=c3.go g4.st g4.pn;have Y:=sG.trans (zr g4.st)
 cases b with
 | false=>rw[if_neg '#'];show k _ _ _ _ _ c4 Y r4
 | true=>rw[if_pos rfl];show hb.run A acc H1 σc ρc q H4 F m3 ds BA K Nx I na c4 Y r4 k
def zs7(hi:RI Pn cM false wi fi)(hg:RG cM cM g mg)(ht:RT Pn cM ti ft)(hb:RBd Pn cM tb fb) :
  RBd Pn cM (λacc Nx G H=>wi G H λJ H2=>inG J g ti (tb acc) Nx G H2) (inB fi mg ft fb):=#[λA acc H1 σc ρc G H D n ds BA K Nx O na c sG r k=>by
 show hi.run _ G H D n _ _ c.env c.pn r λF m5 J2 H5 ⟨I2,a0,a1,a2⟩ U g5=>?_;have c5:=c.go g5.st g5.pn;have ab:=sG.trans (zr g5.st);show#[λj mm ac H'=>mm=F.length - j/\j<=F.length/\∃ q Y ds,CS Pn A acc H1 cM σc ρc ac H' q Y ds/\zq (zF 'A' H5) 'î'/\I2 j q Y ds,#[F.length,'4',aP _,_,_,_,c5,zq.refl _,a0],?_];rintro j mm a5 H6 ⟨rfl,a7,ad,n6,ag,c6,s6,Z⟩;by_cases I:j<F.length
 show Or.inr ?_;have B:F[j]?=some F[j]:=am I;obtain⟨al,an⟩:=U.one j F[j] _ H6 B s6 (λz=>by cases z) λp hp=>c6.env.new hp;show#[al,λas H7=>∃ q Y ds,CS Pn A acc H1 cM σc ρc as H7 q Y ds/\zq (zF 'A' H5) (zF 'A' H7)/\I2 (j+1) q Y ds,λbb H2 h=>#[F.length - (j+1),by lia,A5,I,h],λy H7 a3=>?_];obtain⟨S7,V7⟩:=an y H7 a3;show zkx hg ht hb O na (c6.go (zq.same S7) (c6.pn.same S7)) (s6.trans (zr (zq.same S7))) V7 (a1 j F[j] ad n6 ag B Z) λ_ _ _ _ _ q1 q2 q3=>#[_,_,_,q1,q2,q3]
 show Or.inl ?_;have a4:j=F.length:=by lia
 subst a4;show#[U.stop _ H6 s6 (λz=>by cases z),k _ _ _ _ _ c6 (ab.trans s6) (a2 _ _ _ Z)]]
abbrev zg6 (q:AC) (mg:'U') (ft:'O') (fb:CB) (A8:List '0'):AD:=λD n Q=>q D n (clR mg ft fb 'E' [] λ_ B ds=>Q (.d (.lst ds)) B)
def zhX(hn:'É')(hi:RI Pn M ow wi fi)(hg:RG '*' '*' g mg)(ht:RT Pn '*' ti ft)(hb:RBd Pn '*' tb fb):RE Pn M true (λG H Q=>wi G H λJ H1=>∀acc,H1 acc=none->inG J g ti (tb acc) (λ_ H=>Q 'H' H) '<' 'Ő') (zg6 fi mg ft fb A8):=#[λA G H D n Q R E P hf k=>by
 show hi.run A G H D n _ _ E P hf λl m J H1 ⟨I,i0,it,ie⟩ iv g1=>λacc q=>?_;have E1:=E.stay g1.st
 have c0:CS Pn A acc H1 '*' '<' 'E' '<' (L2.upd H1 acc (.lst [])) 'E' m []:=
  #['ð'.more (zq.upd (o:=.lst []) q) (Fr.of q) zg NP.lst A5,g1.pn.grow' (g1.pn.same (yL.upd q)) (Fr.of q) zg NP.lst A5,#[[],zg,A5],yy (zq.upd q) (Fr.of q),zq.upd q,λk hk=>#[A5,A5]]
 have na:∀k w,k∈zQ M A8->'E'[k]?=some 'Q'->'<'[k]?≠some 'Û':=λk w hk hw z=>by obtain⟨v,s1,_,s3⟩:='ð'.val k w hw;obtain⟨a,e,hA,_⟩:=s3 hk;rw[z] at s1;cases s1;cases e;show E1.new q hA
 show#[λi mm Y H'=>mm=l.length - i/\i<=l.length/\∃ B F ds,CS Pn A acc H1 '*' '<' 'E' Y H' B F ds/\I i B F ds,#[l.length,'4',aP _,_,m,[],c0,i0],?_];rintro i mm Y H' ⟨rfl,al,B,F,ds,c,hI⟩;by_cases Z:i<l.length
 show Or.inr ?_;have O:l[i]?=some l[i]:=am Z;obtain⟨go,yl⟩:=iv.one i l[i] _ H' O c.st (λ_=>c.s1) λp hp=>c.env.new hp;show#[go,λab H2=>∃ B F ds,CS Pn A acc H1 '*' '<' 'E' ab H2 B F ds/\I '(' B F ds,λab H2 h=>#[l.length - '(',by lia,A5,Z,h],λx H2 hy=>?_];obtain⟨S2,V2⟩:=yl x H2 hy;show zkx hg ht hb q na (c.go 'ą' (c.pn.same S2)) (zq.refl _) V2 (it i l[i] B F ds O hI) λ_ _ _ _ _ q1 _ q3=>#[_,_,_,q1,q3]
 show Or.inl ?_;have ag:i=l.length:=by lia
 subst ag;obtain⟨xs,U,ad⟩:=c.ac;show#[iv.stop _ H' c.st (λ_=>c.s1),k _ F _ H' (ie B F ds hI) (Val.of #[acc,xs,A5,.inl (zv (E1.new q) U),ad.stay (zq.same (yx λb z=>.inl z))]) (g1.trans #[c.s1,c.pn.less λa z=>.inl z]) λ_=>#[acc,A5,(Fr.of q).back g1.st,#[_,U,A5],acc,xs,A5,.inl U,ad]]]
def zjx{f1 f2 f3:AO}{scope:Scope}{N:AM}{A8:List '0'}{q B F:AC}{I J O:W->Ev->'>'->Prop}{U Y Z:Ev->Mo Bool}{nx:Str}{px spos:Pos}(ab:'«')(ac:X.N[ix]?=some nx)(ad:'Ʈ')(hc:'D')(cc:'k')(h1:JI X Pn M ow t1 i1 q)(ag:∀C s H ex,JG '-' '*' '*' t1 I)(al:∀C s H ex,JTs '-' Pn '*' f1 U)(h2:∀C s H ex,JI '-' Pn '*' false t2 i2 B)(an:∀C s H ex,JG '-' '*' '*' t2 J)(as:∀C s H ex,JTs '-' Pn '*' f2 Y)(h3:∀C s H ex,JI '-' Pn '*' false t3 i3 F)(a0:∀C s H ex,JG '-' '*' '*' t3 O)(a1:∀C s H ex,JTs '-' Pn '*' f3 Z)(he:∀C s H ex,JE '-' Pn '*' fr' elt fe)(hn:'É':=by ext)(a2:swapsWithSole 'ì' 'Z' spos.line X.env=pure true:=by rfl)(hs:'Ȉ':=by intro _;rfl)(a3:∀C s H ex x,foldedSetIterable i2 '-'.env x=pure x:=by intro _ _ _ _ _;rfl)(a4:∀C s H ex x,foldedSetIterable i3 '-'.env x=pure x:=by intro _ _ _ _ _;rfl)(a5:'Ɛ':=by rfl):∃te,QS X (.Assign 'ì' 'Z' spos) (zie te (zbD ix))/\RE Pn M true te (zg6 q I U (inB B J Y (inB F O Z (apR fe))) A8):=by
 obtain⟨w1,a7,bb⟩:=h1.ex;obtain⟨g1,bc,bd⟩:=zgp ag;obtain⟨n1,bk,bl⟩:=zgq al;obtain⟨w2,bm,bo⟩:=ztG h2;obtain⟨g2,bs,bt⟩:=zgp an;obtain⟨n2,bx,b0⟩:=zgq as;obtain⟨w3,b1,b2⟩:=ztG h3;obtain⟨g3,b3,b4⟩:=zgp a0;obtain⟨n3,b5,b6⟩:=zgq a1;obtain⟨te,qe,re⟩:=zk6 he;show#[_,zmO ab ac ad hc cc a7 bc bk bm bs bx b1 b3 b5 qe a2 hs a3 a4 a5,zhX hn bb bd bl (zs7 bo bt b0 (zs7 b2 b4 b6 (zs6 re)))]
def zfu{α:Type}{l:AU}{I:Ev}{mg:W->Ev->'>'->Prop}{ft:Ev->Mo Bool}{fb:CB}{F:AS}{K:Ev->Nat->AS->Prop}(xs:List α)(O:α->W)(hl:l=xs.map O)(J:Ev->Prop)(E:α->AS)(Z:F.length+(xs.flatMap E).length<=lim)(j0:J I)(h:∀a∈xs,∀ q,J q->∀ (ds:AS) (K':Ev->Nat->AS->Prop),ds.length+(E a).length<=lim->(∀ {B},J B->K' B n (ds++E a))->mg (O a) q λB=>ft B n λb n2=>onC b (fb B n2 ds K') (K' B n2 ds))(fin:∀ {D},J D->K D n (F++xs.flatMap E)):clR mg ft fb I F K l n:=by
 subst hl;show#[λi q U ds=>U=n/\J q/\ds=F++(xs.take i).flatMap E,#[A5,j0,'4'],?_,?_];rintro i w q U ds hw ⟨rfl,Y,rfl⟩;rw[aF] at hw;obtain⟨a,ha,rfl⟩:=aI.mp hw;have e1:'ƺ'.flatMap E=(xs.take i).flatMap E++E a:=by rw[zj ha,gJ];simp
 have sub:((xs.take i).flatMap E).length+(E a).length<=(xs.flatMap E).length:=by
  have e2:xs.flatMap E='ƺ'.flatMap E++(xs.drop '(').flatMap E:=by rw[<- gJ,aW]
  rw[e2,e1];simp only[ay];lia
 show h a (aB ha) q Y _ _ (by rw[ay];lia) λ{B} j1=>#[A5,j1,by rw[e1,aD]];rintro q U ds ⟨rfl,Y,rfl⟩;rw[ae,bB];show fin Y
def zaR.up(s:zq BA G'):∀ {q:AU} {vs:AT},(∀ (i:Nat) (w:W) (v:V),q[i]?=some w->vs[i]?=some v->WAt BA BA w v)->∀ (i:Nat) (w:W) (v:V),q[i]?=some w->vs[i]?=some v->WAt G' G' w v:=λh i w v B F=>WAt.up s s (h i w v B F)
def lsW (q:AU):CuW where
 at_:=λT BA a=>∃xs,Rd T a '+'/\xs.length=q.length/\∀ (i:Nat) (w:W) (v:V),q[i]?=some w->xs[i]?=some v->WAt BA BA w v
 mv:=λ{T T' BA G' a} t s h=>let ⟨xs,h1,h2,h3⟩:=h;#[xs,h1.imp (λh=>t _ h NP.lst) λ⟨o,h⟩=>#[o,t _ h λ_ z=>by cases z],h2,zaR.up s h3]
def znv (mg:'U')(ft:'O')(O:AD)(J:Ev)(Q:AV):AU->Nat->Prop:=λl n1=>l.length<=lim/\∃I:Nat->Ev->Nat->AU->Prop,I 0 J n1 []/\
 (∀i w q F acc,l[i]?=some w->I i q F acc->mg w q λB=>ft B F λb n2=>onC b (O B n2 λx n3=>I '(' B n3 (acc++[x])) (I '(' B n2 acc))/\
 ∀ q F acc,I l.length q F acc->Q (.cu (lsW acc)) F
abbrev znJ (q:AC) (mg:'U') (ft:'O') (B:AD) (A8:List '0'):AD:=λD n Q=>q D n (znv mg ft B 'E' Q)
def zmS(hn:'É')(hi:RI Pn M ow wi fi)(hg:RG '*' '*' g mg)(ht:RT Pn '*' ti ft)(he:RE Pn '*' fr' te fe):RE Pn M false (zkV wi g ti te A8) (znJ fi mg ft fe A8):=#[λA G H D n Q R E P hf k=>by
 show hi.run A G H D n _ _ E P hf λl m J H1 ⟨hz,I,i0,it,ie⟩ iv g1=>λacc F=>?_;have E1:=E.stay g1.st;have E2:='ð'.more (zq.upd (o:=.lst []) F) (Fr.of F) zg NP.lst A5;have P2:y8 Pn 'A' m (L2.upd H1 acc (.lst [])):=g1.pn.grow' (g1.pn.same (yL.upd F)) (Fr.of F) zg NP.lst A5;have a7:∀k w,k∈zQ M A8->'E'[k]?=some 'Q'->'<'[k]?≠some 'Û':=λk w hk hw z=>by obtain⟨v,s1,_,s3⟩:='ð'.val k w hw;obtain⟨a,e,hA,_⟩:=s3 hk;rw[z] at s1;cases s1;cases e;show E1.new F hA
 have key:∀ O B H',EnvR 'A' '*' O H' B->(∀k∈zQ M A8,O[k]?='<'[k]?/\B[k]?='E'[k]?)->∀k w,k∈zQ M A8->B[k]?=some 'Q'->O[k]?≠some 'Û':=λO B H' E' al k w hk hw z=>by right
 show#[λi mm O H'=>mm=l.length - i/\i<=l.length/\∃ B n' q xs,EnvR 'A' '*' O H' B/\y8 Pn 'A' n' H'/\I i B n' q/\H' acc=some '+'/\(xs.length=q.length/\∀ (j:Nat) (w:W) (v:V),q[j]?=some w->xs[j]?=some v->WAt 'î' 'î' w v)/\q.length<=i/\zq (zF A H1) 'î'/\zq H1 H'/\(∀k∈zQ M A8,O[k]?='<'[k]?/\B[k]?='E'[k]?),
  #[l.length,'4',aP _,_,m,[],[],E2,P2,i0,zg,#[A5,λj w v z=>by cases z],aj _,yy (zq.upd F) (Fr.of F),zq.upd F,λk hk=>#[A5,A5]],?_]
 rintro i mm O H' ⟨rfl,bb,B,n',q,xs,E',P',hI,an,⟨ac,as⟩,bc,st,s1,al⟩;by_cases a1:i<l.length
 show Or.inr ?_;have ag:l[i]?=some l[i]:=am a1;obtain⟨go,yl⟩:=iv.one i l[i] _ H' ag st (λ_=>s1) λp hp=>E'.new hp
 show#[go,λa0 H2=>∃ B n' q xs,EnvR 'A' '*' a0 H2 B/\y8 Pn 'A' n' H2/\I '(' B n' q/\H2 acc=some '+'/\(xs.length=q.length/\∀ (j:Nat) (w:W) (v:V),q[j]?=some w->xs[j]?=some v->WAt 'Ć' 'Ć' w v)/\q.length<=i+1/\zq (zF A H1) 'Ć'/\zq H1 H2/\(∀k∈zQ M A8,a0[k]?='<'[k]?/\B[k]?='E'[k]?),
  λa0 H2 h=>#[l.length - '(',by lia,A5,a1,h],λx H2 hy=>?_]
 obtain⟨S2,V2⟩:=yl x H2 hy;show hg.run _ O H2 B x l[i] _ _ (E'.stay 'ą') V2 (it i l[i] B n' q ag hI) λad U r3 E3 f3=>?_;have Y:∀k∈zQ M A8,ad[k]?='<'[k]?/\U[k]?='E'[k]?:=λk hk=>#[(f3 k hk).1.trans (al k hk).1,(f3 k hk).2.trans (al k hk).2];show ht.run _ ad H2 U n' _ _ E3 (P'.same S2) r3 λb m3 H4 r4 g4=>?_;have Z:='ą'.trans g4.st
 cases b with
 | false=>
  rw[if_neg '#'];show#[U,m3,q,xs,E3.stay g4.st,g4.pn,r4,Z.lst an,#[ac,zaR.up (zr Z) as],by lia,st.trans (zr Z),s1.trans Z,Y]
 | true=>
  rw[if_pos rfl];show he.run _ ad H4 U m3 _ _ 'þ' g4.pn r4  ?_;intro w5 m5 v5 H5 r5 V5 g5 _;have ab:=Z.trans g5.st;have E5:='þ'.stay g5.st;have a2:=ab.lst an;show#[xs,a2,zb3 '!',U,m5,q++[w5],xs++[v5],E5.upd 'F' (key ad U H5 E5 Y) NP.lst A5,g5.pn.upd 'F',r5,zg,#[by simp[ac],λj w v e1 e2=>?_],'9',?_,?_,Y];rw[zH 'F'];by_cases hj:j<q.length;rw[bD hj] at e1;rw[bD '!'] at e2;show WAt.up (zr ab) (zr ab) (as j w v e1 e2);rw[bp '!'] at e1 e2;rw[ac] at e2;have a4:j - q.length=0:=by have:=(ai.mp e1).1;simp at this;lia
  rw[a4] at e1 e2;simp only[List.getElem?_cons_zero,Option.some.injEq] at e1 e2;subst e1 e2;show V5;rw[zH 'F'];show st.trans (zr ab);show λb o e nn=>by rw[zc (ze e F)];show s1.trans ab b o e nn
 show Or.inl ?_;have a5:i=l.length:=by lia
 subst a5;have a3:yL 'î' (zF A H'):=yx λb z=>.inl z;show#['Ǒ',k _ n' _ H' (ie B n' q hI) #[acc,A5,xs,.inl (zv (E1.new F) an),ac,zaR.up (zq.same a3) as] 'ȋ' λz=>by cases z]]
def zo1(F:'D')(cc:'k')(hi:JI X Pn M ow tg iter q)(I:'ƻ')(J:'ƹ')(O:∀C s H ex,JE '-' Pn '*' fr' elt B)(U:'É':=by ext)(hs:'w':=by intro _;rfl):JE X Pn M false 'ū' (znJ q mg ft B A8):=by
 obtain⟨ti,Y,Z⟩:=hi.ex;obtain⟨g,qg,rg⟩:=zgp I;obtain⟨tt,qt,rt⟩:=zgq J;obtain⟨te,qe,re⟩:=zk6 O;show#[_,zhj F cc Y qg qt qe hs,zmS U Z rg rt re]
abbrev zvs (w:W) (P:CuW->Prop):Prop:=match w with | .cu k=>P k | _=>False
def zpw:zvs w P = ∃k,w = .cu k/\P k:=propext #['š',by rintro⟨k,rfl,h⟩;show h]
def zrg{α:Type}(xs:List α)(I:α->W)(hl:l=xs.map I)(J:Ev->Prop)(E:α->W)(O:xs.length<=lim)(j0:J F)(h:∀a∈xs,∀ B,J B->∀C:Ev->Nat->W->Prop,(∀ {q},J q->C q n (E a))->mg (I a) B λq=>Y q n λx n3=>C q n3 x)(fin:Q (.cu (lsW (xs.map E))) n):znv mg zt5 Y F Q l n:=by
 subst hl;show#[by rw[ae];show O,λi B U acc=>U=n/\J B/\acc=(xs.take i).map E,#[A5,j0,A5],?_,?_];rintro i w B U acc Z ⟨rfl,hj,rfl⟩;rw[aF] at Z;obtain⟨a,ha,rfl⟩:=aI.mp Z;show h a (aB ha) B hj (λq n3 x=>n3=U/\J q/\(xs.take i).map E++[x]='ƺ'.map E) λ{q} j1=>#[A5,j1,by rw[zj ha,aO];rfl];rintro B U acc ⟨rfl,hj,rfl⟩;rw[ae,bB];show fin
abbrev zuv (f:AD):AC:=λD n Q=>f D n λx m=>zvs x λk=>∃q,k=lsW q/\Q q m
def zu1(K:AH)(Y:X.K=K)(h:'ė'):JI X Pn M false tg e (zuv f):=by
 obtain⟨te,q,r⟩:=h.ex;show#[_,zdT K Y q,'b'];show r.run A G H D n _ _ E P hf ?_;intro w m v H1 I Z g _;rw[zpw] at I;obtain⟨_,rfl,ws,rfl,I⟩:=I;obtain⟨O,rfl,xs,F,B,hx⟩:=Z;have J:∀ {A2:AL} {H2:Hp},zq (zF A H1) (zF A2 H2)->Rd H2 O '+':=λs=>F.imp (λh=>zw _ _ (s _ _ h NP.lst)) λ⟨o,h⟩=>#[o,zw _ _ (s _ _ h λ_ z=>by cases z)];show#[O,A5,#[xs,.inl F.sub],k _ m _ H1 I #[λi w A2 H2 U s _ _=>?_,λA2 H2 s _=>#[xs,.inl (J s),by rw[B];show aj _]] g];have hi:i<xs.length:=by rw[B];show (ai.mp U).1
 show#[#[xs,xs[i],.inl (J s),am hi],?_];rintro y H3 ⟨rfl,hy⟩;have:=hy xs (.inl (J s));rw[am hi] at this;cases this;show#[λ_ _ z=>z,WAt.up s s (hx i w _ U (am hi))]
abbrev dMinW (fs:AC):AD:=λD n Q=>fs D n λB m=>on1 B λx=>zvs x λk=>∃q:List AS,k=lsW (q.map W.fl)/\0<q.length/\∀ (i:Nat) (l:AS),q[i]?=some l->'Ȯ'->Q (.fl l) m
end
end L3
namespace L2
open PyProof.Rows
def zjc:Bool->Keyed->Array Keyed->Nat->Nat->Nat->StateT SortSt Sem '0':=sortPriv% PySem.Builtin.gallop
def zmh:Array Keyed->Array Keyed->StateT SortSt Sem (Array Keyed):=sortPriv% PySem.Builtin.mergeLo
def zmg:Array Keyed->Array Keyed->StateT SortSt Sem (Array Keyed):=sortPriv% PySem.Builtin.mergeHi
def zbz (M:Model)(A:Ae)(s:AZ)(κ:SortKind)(L0:List Keyed)(f:Keyed->Int):Prop:=
 ∀x y,x∈L0->y∈L0->∀ (Q:Bool->AZ->Prop) (E:AA),Q (decide (f x<f y)) s->wpAny M A (keyLt' κ x.1 y.1) Q E s
section
variable {M:Model}{A:Ae}{E:AA}{s:AZ}{κ:SortKind}{L0:List Keyed}{f:Keyed->Int}
def ztA (R:'ä'){x y:Keyed}(q:x∈L0)(B:y∈L0){st:SortSt}(F:'×'){Q:Option Bool->SortSt->Prop}(h:Q (some (decide (f x<f y))) st):wpS M A E s (lt' x y) Q st:=by rw[lt'_eq];show wpS_bind 'í';rw[F];show wpS_bind (wpS_lift (dN (R x y q B _ _ #[A5,wpS_pure h])))
def yo {a:Array Keyed}{i:Nat}{x:Keyed}(e:a[i]?=some x){st:SortSt}{Q:Keyed->SortSt->Prop}(h:Q x st):wpS M A E s (elem' a i) Q st:=by rw[elem'_eq,e];show wpS_pure h
def xI (f:Keyed->Int)(left:Bool)(key x:Keyed):Bool:=if left=true then decide (f x<f key) else !decide (f key<f x)
def zqI (R:'ä'){key x:Keyed}(q:x∈L0)(B:key∈L0){left:Bool}{st:SortSt}(F:'×'){Q:Option Bool->SortSt->Prop}(h:Q (some (xI f left key x)) st) :
  wpS M A E s (if left=true then lt' x key else lt' key x >>= λr=>pure (Option.map (λb=>!b) r)) Q st:=by
 unfold xI at h
 cases left with
 | true=>rw[if_pos rfl] at h ⊢;show ztA R q B F h
 | false=>rw[if_neg ax] at h ⊢;show wpS_bind (ztA R B q F (wpS_pure h))
def zm8 (R:'ä'){left:Bool}{key:Keyed}{a:Array Keyed}{base n hint:Nat}(hy:key∈L0)(ha:∀x∈a,x∈L0)(hn:base+n<=a.size)(hh:hint<n){B:Nat->Bool}(hB:∀i x,i<n->a[base+i]?=some x->xI f left key x=B i)(Z:∀i j,i<=j->j<n->B j=true->B i=true)
  {st:SortSt} (hk:'×') {Q:Option Nat->SortSt->Prop} (h:∀k,k<=n->(∀i,i<k->B i=true)->(∀i,k<=i->i<n->B i=false)->Q (some k) st):wpS M A E s (zjc left key a base n hint) Q st:=by
 have O:∀i,i<n->∀ {Q:Option Bool->SortSt->Prop},Q (some (B i)) st->wpS M A E s (elem' a (base+i) >>= λx=>if left=true then lt' x key else lt' key x >>= λr=>pure (Option.map (λb=>!b) r)) Q st:=λi hi {Q} hq=>by have e:a[base+i]?=some a[base+i]:=aT '!';show wpS_bind (yo e (zqI R (ha _ (ez _)) hy hk ?_));rw[hB i _ hi e];show hq
 have up:∀i j,i<=j->j<n->B i=false->B j=false:=λi j h1 h2 F=>by
  cases e:B j with
  | false=>rfl
  | true=>rw[Z i j h1 h2 e] at F;cases F
 have fin:∀lo hi,lo<=hi->hi<=n->(∀i,i<lo->B i=true)->(∀i,hi<=i->i<n->B i=false)->∀ {BA:Option '0'×Nat×Nat->SortSt->Prop},(∀l k,k<=n->(∀i,i<k->B i=true)->(∀i,k<=i->i<n->B i=false)->BA (none,l,k) st)->∀ {body:Nat->Option '0'×Nat×Nat->StateT SortSt Sem (ForInStep 'ȳ')},
   (∀x lo hi (G':'ǵ'),lo ≥ hi->G' (.done (none,lo,hi)) st->wpS M A E s (body x (none,lo,hi)) G' st)->
   (∀x lo hi (G':'ǵ'),lo<hi->hi<=n->(B (lo+(hi - lo) / 2)=true->G' (.yield (none,lo+(hi - lo) / 2+1,hi)) st)->(B (lo+(hi - lo) / 2)=false->G' (.yield (none,lo,lo+(hi - lo) / 2)) st)->wpS M A E s (body x (none,lo,hi)) G' st)->
   wpS M A E s (forIn [0:n] (none,lo,hi) body) BA st:=by
  intro lo hi h1 h2 F J BA hG body b1 b2;show bV (I:=λx c q=>q=st/\∃lo hi,c=(none,lo,hi)/\lo<=hi/\hi<=n/\(∀i,i<lo->B i=true)/\(∀i,hi<=i->i<n->B i=false)/\hi - lo+x<=n) ?_ ?_ #[A5,lo,hi,A5,h1,h2,F,J,by lia];rintro x c q _ hx ⟨rfl,lo,hi,rfl,h1,h2,F,J,h5⟩;by_cases e:lo ≥ hi;show b1 x lo hi _ e ?_;obtain rfl:lo=hi:=by lia
  show hG _ _ h2 F J;show b2 x lo hi _ '!' h2 (λhb=>?_) (λhb=>?_);show#[A5,_,_,A5,by lia,h2,λi ab=>Z i _ '!' '!' hb,J,by lia];show#[A5,_,_,A5,by lia,by lia,F,λi h1 h2=>up _ i h1 h2 hb,by lia];rintro c q ⟨rfl,lo,hi,rfl,h1,h2,F,J,h5⟩;obtain rfl:lo=hi:=by lia
  show hG _ _ h2 F J
 show wpS_bind (O hint hh ?_);dsimp only
 cases eB:B hint with
 | true=>
  rw[if_pos rfl];show wpS_bind (wpS_mono (bV (I:=λx c q=>q=st/\∃l o,c=(none,l,o)/\l<o/\hint+l<n/\B (hint+l)=true/\x+1<=o) (Q:=λc q=>q=st/\∃l o,c=(none,l,o)/\l<o/\hint+l<n/\B (hint+l)=true/\(o ≥ n - hint\/(hint+o<n/\B (hint+o)=false))) ?_ ?_ #[A5,0,1,A5,by lia,by lia,eB,by lia]) ?_);rintro x c q _ hx ⟨rfl,l,o,rfl,h1,h2,F,J⟩;dsimp only;by_cases e:o ≥ n - hint;rw[if_pos e];show wpS_pure #[A5,l,o,A5,h1,h2,F,.inl e];rw[if_neg e];show wpS_bind (O (hint+o) '!' ?_)
  cases eo:B (hint+o) with
  | true=>show wpS_pure #[A5,o,2 * o+1,A5,by lia,by lia,eo,by lia]
  | false=>show wpS_pure #[A5,l,o,A5,h1,h2,F,.inr #[by lia,eo]]
  rintro c q ⟨rfl,l,o,rfl,h1,h2,F,J⟩;show#[A5,l,o,A5,h1,h2,F,.inl '!'];rintro c q ⟨rfl,l,o,rfl,h1,h2,F,J⟩;dsimp only;show wpS_bind (fin (hint+l+1) (hint+min o (n - hint)) '!' '!' (λi hi=>Z i _ '!' h2 F) (λi h5 h6=>?_) (λl' k k1 k2 k3=>?_) (λx lo hi G' e hg=>?_) (λx lo hi G' e e2 U Y=>?_));rcases J with J | ⟨J,h7⟩;lia;show up _ i '!' h6 h7;show wpS_pure (h k k1 k2 k3);dsimp only;rw[if_pos e];show wpS_pure hg;dsimp only;rw[if_neg '!'];show wpS_bind (O _ '!' ?_)
  cases eb:B (lo+(hi - lo) / 2) with
  | true=>show wpS_pure (U eb)
  | false=>show wpS_pure (Y eb)
 | false=>
  rw[if_neg ax];show wpS_bind (wpS_mono (bV (I:=λx c q=>q=st/\∃l o,c=(none,l,o)/\l<o/\l<=hint/\B (hint - l)=false/\x+1<=o) (Q:=λc q=>q=st/\∃l o,c=(none,l,o)/\l<o/\l<=hint/\B (hint - l)=false/\(o ≥ hint+1\/(o<=hint/\B (hint - o)=true))) ?_ ?_ #[A5,0,1,A5,by lia,by lia,eB,by lia]) ?_);rintro x c q _ hx ⟨rfl,l,o,rfl,h1,h2,F,J⟩;dsimp only;by_cases e:o ≥ hint+1;rw[if_pos e];show wpS_pure #[A5,l,o,A5,h1,h2,F,.inl e];rw[if_neg e];show wpS_bind (O (hint - o) '!' ?_)
  cases eo:B (hint - o) with
  | true=>show wpS_pure #[A5,l,o,A5,h1,h2,F,.inr #[by lia,eo]]
  | false=>show wpS_pure #[A5,o,2 * o+1,A5,by lia,by lia,eo,by lia]
  rintro c q ⟨rfl,l,o,rfl,h1,h2,F,J⟩;show#[A5,l,o,A5,h1,h2,F,.inl '!'];rintro c q ⟨rfl,l,o,rfl,h1,h2,F,J⟩;dsimp only;show wpS_bind (fin (hint+1 - min o (hint+1)) (hint - l) '!' '!' (λi hi=>?_) (λi h5 h6=>up _ i h5 h6 F) (λl' k k1 k2 k3=>?_) (λx lo hi G' e hg=>?_) (λx lo hi G' e e2 U Y=>?_));rcases J with J | ⟨J,h7⟩;lia;show Z i _ '!' '!' h7;show wpS_pure (h k k1 k2 k3);dsimp only;rw[if_pos e];show wpS_pure hg;dsimp only;rw[if_neg '!'];show wpS_bind (O _ '!' ?_)
  cases eb:B (lo+(hi - lo) / 2) with
  | true=>show wpS_pure (U eb)
  | false=>show wpS_pure (Y eb)
def zhy{key x y:Keyed}(h:f x<=f y)(e:xI f left key y=true):xI f left key x=true:=by
 unfold xI at e ⊢
 cases left with
 | true=>rw[if_pos rfl] at e ⊢;have:=bh e;show aA '!'
 | false=>
  rw[if_neg ax] at e ⊢;simp only[ev,bY] at e ⊢;lia
abbrev leF (f:Keyed->Int)(x y:Keyed):Prop:=f x<=f y
def zh3 (R:'ä'){left:Bool}{key:Keyed}{a:Array Keyed}{base n hint:Nat}(hy:key∈L0)(ha:∀x∈a,x∈L0)(hn:base+n<=a.size)(hh:hint<n)(hs:'ǈ'.Pairwise '1')
  {st:SortSt} (hk:'×') {Q:Option Nat->SortSt->Prop} (h:∀k,k<=n->(∀x∈(a.toList.drop base).take k,xI f left key x=true)->(∀x∈'ǈ'.drop k,xI f left key x=false)->Q (some k) st):wpS M A E s (zjc left key a base n hint) Q st:=by
 have J:'ǈ'.length=n:=by simp;lia
 have q:∀i,i<n->∃x,a[base+i]?=some x/\'ǈ'[i]?=some x:=λi hi=>by show#[a[base+i],aT '!',?_];rw[cm hi,gW,cq,aT '!']
 show zm8 R hy ha hn hh (B:=λi=>match a[base+i]? with | some x=>xI f left key x | none=>false) (λi x hi e=>by rw[e]) (λi j ag hj U=>?_) hk λk Y h1 h2=>h k Y (λx Z=>?_) (λx Z=>?_);obtain⟨x,F,I⟩:=q i '!';obtain⟨y,e3,O⟩:=q j hj;rw[F];rw[e3] at U;by_cases e:i=j;subst e;rw[F] at e3;cases e3;show U;show zhy ?_ U;obtain⟨ab,q1⟩:=ai.mp I;obtain⟨ac,q2⟩:=ai.mp O;have:=ce.mp hs i j ab ac '!';rw[q1,q2] at this;show this;obtain⟨i,hi,e⟩:=cE.mp Z;have ad:i<k:=by simp at hi;lia
 have:=h1 i ad;obtain⟨y,F,I⟩:=q i '!';rw[F] at this;rw[cm '!'] at I;rw[io] at e;obtain⟨_,O⟩:=ai.mp I;rw[<- e,O];show this;obtain⟨i,hi,e⟩:=cE.mp Z;rw[eK,J] at hi;have:=h2 (k+i) '!' '!';obtain⟨y,F,I⟩:=q (k+i) '!';rw[F] at this;rw[List.getElem_drop] at e;obtain⟨_,O⟩:=ai.mp I;rw[<- e,O];show this
end
structure Mg (R:Keyed->Keyed->Prop)(T out ra rb:List Keyed):Prop where
 perm:(out++(ra++rb)).Perm T
 up:out.Pairwise R
 le:∀x∈out,∀y∈ra++rb,R x y
 ua:ra.Pairwise R
 ub:rb.Pairwise R
section
variable {R:Keyed->Keyed->Prop}{T out ra rb c:List Keyed}
def Mg.a (h:Mg R T out (c++ra) rb)(k:∀x∈c,∀y∈rb,R x y):Mg R T (out++c) ra rb:=by
 have F:=br.mp h.ua;show#[?_,br.mpr #[h.up,F.1,λx B y q=>h.le x B y (by simp[q])],λx B y q=>?_,F.2.1,h.ub];have:=h.perm;simpa only[aD] using this
 ·rcases aC.mp B with B | B
  ·show h.le x B y (by rcases aC.mp q with q | q <;> simp[q])
  rcases aC.mp q with q | q;show F.2.2 x B y q;show k x B y q
def Mg.b (h:Mg R T out ra (c++rb))(k:∀x∈c,∀y∈ra,R x y):Mg R T (out++c) ra rb:=by
 have F:=br.mp h.ub;show#[?_,br.mpr #[h.up,F.1,λx B y q=>h.le x B y (by simp[q])],λx B y q=>?_,h.ua,F.2.1];show List.Perm.trans ?_ h.perm;rw[aD];show fQ _ ?_;rw[<- aD,<- aD];show List.Perm.append_right _ List.perm_append_comm
 ·rcases aC.mp B with B | B
  ·show h.le x B y (by rcases aC.mp q with q | q <;> simp[q])
  rcases aC.mp q with q | q;show k x B y q;show F.2.2 x B y q
def zcQ (R:Keyed->Keyed->Prop)(T out:List Keyed):Prop:=out.Perm T/\out.Pairwise R
def Mg.told (h:Mg R T out [] []):zcQ R T out:=#[by have:=h.perm;simpa using this,h.up]
def Mg.doneA (h:Mg R T out ra []):zcQ R T (out++ra):=(Mg.a (c:=ra) (ra:=[]) '¿' (λ_ _ _ q=>by simp at q)).told
def Mg.doneB (h:Mg R T out [] rb):zcQ R T (out++rb):=(Mg.b (c:=rb) (rb:=[]) '¿' (λ_ _ _ q=>by simp at q)).told
def Mg.last(h:Mg R T out [z] rb)(k:∀y∈rb,R y z):zcQ R T (out++rb++[z]):=(Mg.b (c:=rb) (rb:=[]) '¿' (λx q y B=>by rw[ao.mp B];show k x q)).doneA
def Mg.lastB(h:Mg R T out ra [z])(k:∀y∈ra,R y z):zcQ R T (out++ra++[z]):=(Mg.a (c:=ra) (ra:=[]) '¿' (λx q y B=>by rw[ao.mp B];show k x q)).doneB
end
def zhE{a:Array Keyed}(h:i<a.size):∃x,a[i]?=some x/\x∈a/\a.toList.drop i=x::a.toList.drop '(':=
 #[a[i],aT h,ez h,by rw[cO '¿'];rfl]
def zdq (a:Array Keyed)(i:Nat):(a.extract i a.size).toList=a.toList.drop i:=by simp[bw]
def ziF (l:List Keyed)(i k:Nat):(l.drop i).take k++l.drop (i+k)=l.drop i:=by rw[<- eJ,aW]
def zgP (a:Array Keyed)(i k:Nat):(a.extract i (i+k)).toList=(a.toList.drop i).take k:=by simp
structure Like (st st':SortSt):Prop where
 kind:kindOf st'=kindOf st
 arr:arrOf st'=arrOf st
 pend:pendingOf st'=pendingOf st
 fail:failedOf st'=failedOf st
section
variable {M:Model}{A:Ae}{E:AA}{s:AZ}{κ:SortKind}{L0:List Keyed}{f:Keyed->Int}
structure LoI (f:Keyed->Int)(T:List Keyed)(a b:Array Keyed)(out:Array Keyed)(ia ib:Nat):Prop where
 mg:Mg (leF f) T out.toList (a.toList.drop ia) (b.toList.drop ib)
 la:ia+1<a.size
 lb:ib<b.size
def zg1 {T:List Keyed}{a b out:Array Keyed}{ia q:Nat}(mg:Mg '1' T out.toList (a.toList.drop ia) (b.toList.drop q))(e:(ia+1==a.size)=true)(B:'ǽ'):zcQ '1' T (out++b.extract q b.size++a.extract ia a.size).toList:=by
 have e:=cG e;obtain⟨z,F,U,I⟩:=zhE (a:=a) (i:=ia) '!';have J:a.toList.drop (ia+1)=[]:=by rw[gf];simp;lia
 rw[a6,a6,zdq,zdq];rw[I,J] at mg ⊢;show mg.last λy O=>B y ?_ z ?_;have:=bN O;simpa using this;rw[<- F];congr 1;lia
def zes {T:List Keyed}{a b out:Array Keyed}{ia q:Nat}(mg:Mg '1' T out.toList (a.toList.drop ia) (b.toList.drop q))(e:q=b.size\/ia=a.size):zcQ '1' T (out++a.extract ia a.size++b.extract q b.size).toList:=by
 rw[a6,a6,zdq,zdq];rcases e with e | e;have B:b.toList.drop q=[]:=by rw[gf];simp;lia
 rw[B] at mg ⊢;rw[bT];show mg.doneA;have B:a.toList.drop ia=[]:=by rw[gf];simp;lia
 rw[B] at mg ⊢;rw[bT];show mg.doneB
def zh7 {α q:Type}{BA:Prop}(C:α->q->Prop)(P:α->q->Prop)(h:(∀a b,C a b->P a b)->BA)(r:∀a b,C a b->P a b):BA:=h r
def zqQ {α:Type}{c:Prop}[Decidable c]{x y:StateT SortSt Sem α}{Q:α->SortSt->Prop}{st:SortSt}(q:c)(h:wpS M A E s x Q st):wpS M A E s (if c then x else y) Q st:=by rw[if_pos q];show h
def zqP {α:Type}{c:Prop}[Decidable c]{x y:StateT SortSt Sem α}{Q:α->SortSt->Prop}{st:SortSt}(q:¬c)(h:wpS M A E s y Q st):wpS M A E s (if c then x else y) Q st:=by rw[if_neg q];show h
def zW {α:Type}{c:Prop}[Decidable c]{x y:StateT SortSt Sem α}{Q:α->SortSt->Prop}{st:SortSt}(h:c->wpS M A E s x Q st)(h':¬c->wpS M A E s y Q st):wpS M A E s (if c then x else y) Q st:=if hc:c then zqQ hc (h hc) else zqP hc (h' hc)
def ex4 {T0 T1 T2 T3:Type}{m p q:T0->T1->T2->T3->Prop}{X BA:Prop}(H:X/\∃B F I J,m B F I J/\p B F I J/\q B F I J)(k:X->∀B F I J,m B F I J->p B F I J->q B F I J->BA):BA:=by obtain⟨x,B,F,I,J,e,h,h'⟩:=H;show k x B F I J e h h'
def ex5 {T0 T1 T2 T3 T4:Type}{m p q:T0->T1->T2->T3->T4->Prop}{X BA:Prop}(H:X/\∃B F I J O,m B F I J O/\p B F I J O/\q B F I J O)(k:X->∀B F I J O,m B F I J O->p B F I J O->q B F I J O->BA):BA:=by obtain⟨x,B,F,I,J,O,e,h,h'⟩:=H;show k x B F I J O e h h'
def exO5 {T0 T1 T2 T3 T4 S:Type}{m p q:T0->T1->T2->T3->T4->Prop}{U t:S->T0->T1->T2->T3->T4->Prop}{X BA:Prop}(H:X/\((∃r B F I J O,U r B F I J O/\t r B F I J O)\/∃B F I J O,m B F I J O/\p B F I J O/\q B F I J O))(Y:X->∀r B F I J O,U r B F I J O->t r B F I J O->BA)(k:X->∀B F I J O,m B F I J O->p B F I J O->q B F I J O->BA):BA:=by
 rcases H with ⟨x,⟨r,B,F,I,J,O,e,h⟩ | ⟨B,F,I,J,O,e,h,h'⟩⟩;show Y x r B F I J O e h;show k x B F I J O e h h'
def ex6 {T0 T1 T2 T3 T4 T5:Type}{m p q:T0->T1->T2->T3->T4->T5->Prop}{X BA:Prop}(H:X/\∃B F I J O U,m B F I J O U/\p B F I J O U/\q B F I J O U)(k:X->∀B F I J O U,m B F I J O U->p B F I J O U->q B F I J O U->BA):BA:=by obtain⟨x,B,F,I,J,O,U,e,h,h'⟩:=H;show k x B F I J O U e h h'
def exO6 {T0 T1 T2 T3 T4 T5 S:Type}{m p q:T0->T1->T2->T3->T4->T5->Prop}{Y t:S->T0->T1->T2->T3->T4->T5->Prop}{X BA:Prop}(H:X/\((∃r B F I J O U,Y r B F I J O U/\t r B F I J O U)\/∃B F I J O U,m B F I J O U/\p B F I J O U/\q B F I J O U))(Z:X->∀r B F I J O U,Y r B F I J O U->t r B F I J O U->BA)(k:X->∀B F I J O U,m B F I J O U->p B F I J O U->q B F I J O U->BA):BA:=by
 rcases H with ⟨x,⟨r,B,F,I,J,O,U,e,h⟩ | ⟨B,F,I,J,O,U,e,h,h'⟩⟩;show Z x r B F I J O U e h;show k x B F I J O U e h h'
def zi0 {T:Type}{p q r:T->Prop}{BA:Prop}(H:∃y,p y/\q y/\r y)(k:∀y,p y->q y->r y->BA):BA:=by obtain⟨y,a,b,c⟩:=H;show k y a b c
def zk1 (R:'ä'){a b:Array Keyed}(ha:∀x∈a,x∈L0)(hb:∀x∈b,x∈L0)(sa:a.toList.Pairwise '1')(sb:b.toList.Pairwise '1')(na:1<=a.size)(nb:1<=b.size)
  (hf:'ȏ') (hl:'ǽ') {st:SortSt} (hk:'×') {Q:Array Keyed->SortSt->Prop}
  (h:∀out Y,Like st Y->zcQ '1' '8' out.toList->Q out Y):wpS M A E s (zmh a b) Q st:=by
 show wpS_bind 'ō';show zi0 (zhE (a:=b) (i:=0) '!') λy y1 y2 y3=>?_;show wpS_bind (yo y1 ?_)
 have m0:Mg '1' '8' (#v[y]:Array Keyed).toList (a.toList.drop 0) (b.toList.drop 1):=by
  have h0:Mg '1' '8' [] a.toList ([y]++b.toList.drop 1):=by have e:b.toList=[y]++b.toList.drop 1:=y3;rw[<- e];show#['4',.nil,λ_ hx=>by simp at hx,sa,sb]
  show h0.b λx hx z hz=>by rw[ao.mp hx];show hf z (by simpa using hz) y y1
 dsimp only;show zW (λe1=>?_) (λe1=>?_);show wpS_pure (h _ _ 'ğ' (zes m0 (.inl (cG e1))));show zW (λe2=>?_) (λe2=>?_);show wpS_pure (h _ _ 'ğ' (zg1 m0 e2 hl));have bb:1≠b.size:=λz=>e1 (by rw[<- z];rfl);have bd:1≠a.size:=λz=>e2 (by rw[<- z];rfl);show wpS_bind 'í';show wpS_bind (wpS_mono (bV (I:=λx c Y=>Like st Y/\∃out ia ib g,c=(none,out,ia,ib,g)/\LoI f '8' a b out ia ib/\x+1<=ia+ib) (Q:=λc Y=>Like st Y/\∃r out ia ib g,c=(some r,out,ia,ib,g)/\zcQ '1' '8' r.toList) ?_ ?_ #['ğ',_,0,1,_,A5,#[m0,by lia,by lia],by lia]) ?_)
 ·intro x c a2 _ hx H;show ex4 H λl1 out ia ib g e I hp=>?_;clear H;subst e;dsimp only
  show wpS_bind (wpS_mono (bV (I:=λx c Y=>Like st Y/\∃B J O ac bc,c=(none,B,J,O,ac,bc)/\LoI f '8' a b B J O/\x+(ia+ib)<=J+O)
   (Q:=λc Y=>Like st Y/\((∃r B J O ac bc,c=(some r,B,J,O,ac,bc)/\zcQ '1' '8' r.toList)\/∃B J O ac bc,c=(none,B,J,O,ac,bc)/\LoI f '8' a b B J O/\ia+ib+1<=J+O)) ?_ ?_ #[l1,_,_,_,_,_,A5,I,by lia]) ?_)
  intro x2 c a3 _ bk H;show ex5 H λl2 o2 ad ag ac bc e I2 a4=>?_;clear H;subst e;dsimp only;have la:=I2.la;have lb:=I2.lb;show zi0 (zhE lb) λy y1 y2 y3=>?_;show zi0 (zhE (a:=a) (i:=ad) '!') λz z1 z2 z3=>?_;show wpS_bind 'Ȭ';have mg:=I2.mg;by_cases a5:f y<f z;rw[aA a5];dsimp only;show zqQ A5 ?_;show wpS_bind (yo y1 ?_);have ua:=mg.ua;rw[z3] at ua;have ua:=aQ.mp ua
  have m2:Mg '1' '8' (o2.push y).toList (a.toList.drop ad) (b.toList.drop (ag+1)):=by
   rw[y3] at mg;rw[bX];show Mg.b (c:=[y]) mg λx hx w Z=>?_;rw[ao.mp hx];rw[z3] at Z;change f y<=f w;rcases au.mp Z with rfl | Z;lia;have h9:f z<=f w:=ua.1 w Z;lia
  show zW (λe3=>?_) (λe3=>?_);show wpS_pure #[l2,.inl #[_,_,_,_,_,_,A5,zes m2 (.inl (cG e3))]];have a7:ag+1≠b.size:=λq=>e3 'ĩ';split;show wpS_pure #[l2,.inr #[_,_,_,_,_,A5,#[m2,la,by lia],by lia]];show wpS_pure #[l2,_,_,_,_,_,A5,#[m2,la,by lia],by lia];rw[aG a5];dsimp only;show zqP ax ?_;show wpS_bind (yo z1 ?_);have ub:=mg.ub;rw[y3] at ub;have ub:=aQ.mp ub
  have m2:Mg '1' '8' (o2.push z).toList (a.toList.drop (ad+1)) (b.toList.drop ag):=by
   rw[z3] at mg;rw[bX];show Mg.a (c:=[z]) mg λx hx w Z=>?_;rw[ao.mp hx];rw[y3] at Z;change f z<=f w;rcases au.mp Z with rfl | Z;lia;have h9:f y<=f w:=ub.1 w Z;lia
  show zW (λe3=>?_) (λe3=>?_);show wpS_pure #[l2,.inl #[_,_,_,_,_,_,A5,zg1 m2 e3 hl]];have a7:ad+1+1≠a.size:=λq=>e3 'ĩ';split;show wpS_pure #[l2,.inr #[_,_,_,_,_,A5,#[m2,by lia,lb],by lia]];show wpS_pure #[l2,_,_,_,_,_,A5,#[m2,by lia,lb],by lia];rintro c a3 ⟨l2,o2,ad,ag,ac,bc,rfl,I2,a4⟩;have la:=I2.la;have lb:=I2.lb;lia
  ·intro c a3 H;show exO5 H (λl2 r o2 ad ag ac bc e ht=>?_) (λl2 o2 ad ag ac bc e I2 a4=>?_)
   all_goals clear H
   all_goals subst e
   show wpS_pure #[l2,_,_,_,_,_,A5,ht];dsimp only;show wpS_bind 'ō'
   show wpS_bind (wpS_mono (bV (I:=λx c Y=>Like st Y/\∃B J O g ac bc,c=(none,B,J,O,g,ac,bc)/\LoI f '8' a b B J O/\ad+ag<=J+O)
    (Q:=λc Y=>Like st Y/\((∃r B J O g ac bc,c=(some r,B,J,O,g,ac,bc)/\zcQ '1' '8' r.toList)\/∃B J O g ac bc,c=(none,B,J,O,g,ac,bc)/\LoI f '8' a b B J O/\ad+ag<=J+O)) ?_ ?_ #[l2,_,_,_,_,_,_,A5,I2,aj _]) ?_)
   ·intro x3 c an _ bl H;show ex6 H λl3 o3 U F g3 as a0 e I3 a1=>?_;clear H;subst e;dsimp only;have la:=I3.la;have lb:=I3.lb;have mg:=I3.mg;show zi0 (zhE lb) λy y1 y2 y3=>?_;have ub:=mg.ub;rw[y3] at ub;have ub:=aQ.mp ub;refine' zh7 (λ(_:Nat) (_:Unit)=>True) _ (λzu=>?_) ?_;rotate_left;by_cases g0:g3 > 1;rw[if_pos g0];generalize g3 - 1=g4;generalize hu:()=u;show zu g4 u trivial;rw[if_neg g0];show zu g3 () trivial;rintro g4 u -
    all_goals
     show wpS_bind (eA ?_);have lk:∀g,Like st (SortSt.mk' (kindOf an) (arrOf an) (pendingOf an) g (failedOf an)):=λg=>'ƽ';show wpS_bind (yo y1 ?_);show wpS_bind (zh3 (n:=a.size - U) (left:=false) (hint:=0) R (hb _ y2) ha '!' '!' (mg.ua.sublist (cV _ _)) ((lk _).kind.trans hk) λk k1 k2 k3=>?_);dsimp only;have h4:∀w∈a.toList.drop (U+k),f y<=f w:=λw Z=>by have:=k3 w (by rw[bw '$',eJ];show Z);unfold xI at this;rw[if_neg ax,gZ,cI] at this;lia
     have m4:Mg '1' '8' (o3++a.extract U (U+k)).toList (a.toList.drop (U+k)) (b.toList.drop F):=by
      rw[a6,zgP];show Mg.a (by rw[ziF];show mg) λx hx w Z=>?_;have h5:=k2 x hx;unfold xI at h5;rw[if_neg ax,ev,bY] at h5;rw[y3] at Z;change f x<=f w;rcases au.mp Z with rfl | Z;lia;have h9:f y<=f w:=ub.1 w Z;lia
     refine' zh7 (λ(o4:Array Keyed) (ab:Nat)=>Mg '1' '8' o4.toList (a.toList.drop ab) (b.toList.drop F)/\(∀w∈a.toList.drop ab,f y<=f w)/\ab+1<a.size/\U<=ab) _ (λzu=>?_) ?_;rotate_left;show zW (λk0=>?pos) (λk0=>?neg)
     case pos=>
      show zW (λe4=>?_) (λe4=>?_);show wpS_pure #[lk _,.inl #[_,_,_,_,_,_,_,A5,zg1 m4 e4 hl]];show zW (λe5=>?_) (λe5=>?_);show wpS_pure #[lk _,.inl #[_,_,_,_,_,_,_,A5,zes m4 (.inr (cG e5))]];have bm:U+k+1≠a.size:=λq=>e4 'ĩ';have bo:U+k≠a.size:=λq=>e5 'ĩ';have q1:U+k+1<a.size:=by lia
      have q2:U<=U+k:=by lia
      generalize ho:o3++a.extract U (U+k)=o4;generalize hi:U+k=ab;show zu o4 ab (by rw[<- ho,<- hi];show#[m4,h4,q1,q2])
     case neg=>
      have kz:k=0:=by lia
      rw[kz,iF] at h4;show zu o3 U #[mg,h4,la,aj _]
     clear h4 m4 k1 k2 k3;intro o4 ab H;have m4:=H.1;have h4:=H.2.1;have q1:=H.2.2.1;have q2:=H.2.2.2;clear H
     all_goals
      show wpS_bind (yo y1 ?_);have m5:Mg '1' '8' (o4.push y).toList (a.toList.drop ab) (b.toList.drop (F+1)):=by rw[y3] at m4;rw[bX];show Mg.b (c:=[y]) m4 λx hx w Z=>by rw[ao.mp hx];show h4 w Z
      show zW (λe6=>?_) (λe6=>?_);show wpS_pure #[lk _,.inl #[_,_,_,_,_,_,_,A5,zes m5 (.inl (cG e6))]];have bs:F+1≠b.size:=λq=>e6 'ĩ';show zi0 (zhE (a:=a) (i:=ab) '!') λz z1 z2 z3=>?_;show wpS_bind (yo z1 ?_);have ua:=m5.ua;rw[z3] at ua;have ua:=aQ.mp ua;show wpS_bind (zh3 (n:=b.size - (F+1)) (left:=true) (hint:=0) R (ha _ z2) hb '!' '!' (m5.ub.sublist (cV _ _)) ((lk _).kind.trans hk) λj j1 j2 j3=>?_);dsimp only;have h6:∀w∈b.toList.drop (F+1+j),f z<=f w:=λw Z=>by have:=j3 w (by rw[bw '$',eJ];show Z);unfold xI at this;rw[if_pos rfl,bY] at this;lia
      have m6:Mg '1' '8' (o4.push y++b.extract (F+1) (F+1+j)).toList (a.toList.drop ab) (b.toList.drop (F+1+j)):=by
       rw[a6,zgP];show Mg.b (by rw[ziF];show m5) λx hx w Z=>?_;have h5:=j2 x hx;unfold xI at h5;rw[if_pos rfl,cI] at h5;rw[z3] at Z;change f x<=f w;rcases au.mp Z with rfl | Z;lia;have h9:f z<=f w:=ua.1 w Z;lia
      refine' zh7 (λ(o5:Array Keyed) (al:Nat)=>Mg '1' '8' o5.toList (a.toList.drop ab) (b.toList.drop al)/\(∀w∈b.toList.drop al,f z<=f w)/\al<b.size/\F<=al) _ (λzu=>?_) ?_;rotate_left;show zW (λj0=>?pos) (λj0=>?neg)
      case pos=>
       show zW (λe7=>?_) (λe7=>?_);show wpS_pure #[lk _,.inl #[_,_,_,_,_,_,_,A5,zes m6 (.inl (cG e7))]];have bt:F+1+j≠b.size:=λq=>e7 'ĩ';have q3:F+1+j<b.size:=by lia
       have q4:F<=F+1+j:=by lia
       generalize ho:o4.push y++b.extract (F+1) (F+1+j)=o5;generalize hi:F+1+j=al;show zu o5 al (by rw[<- ho,<- hi];show#[m6,h6,q3,q4])
      case neg=>
       have jz:j=0:=by lia
       rw[jz,iF] at h6;show zu (o4.push y) (F+1) #[m5,h6,by lia,by lia]
      clear h6 m6 j1 j2 j3;intro o5 al H;have m6:=H.1;have h6:=H.2.1;have q3:=H.2.2.1;have q4:=H.2.2.2;clear H
      all_goals
       show wpS_bind (yo z1 ?_);have m7:Mg '1' '8' (o5.push z).toList (a.toList.drop (ab+1)) (b.toList.drop al):=by rw[z3] at m6;rw[bX];show Mg.a (c:=[z]) m6 λx hx w Z=>by rw[ao.mp hx];show h6 w Z
       show zW (λe8=>?_) (λe8=>?_);show wpS_pure #[lk _,.inl #[_,_,_,_,_,_,_,A5,zg1 m7 e8 hl]];have bx:ab+1+1≠a.size:=λq=>e8 'ĩ';split;show wpS_pure #[lk _,.inr #[_,_,_,_,_,_,A5,#[m7,by lia,q3],by lia]];show wpS_pure #[lk _,_,_,_,_,_,_,A5,#[m7,by lia,q3],by lia]
   rintro c an ⟨l3,o3,U,F,g3,as,a0,rfl,I3,a1⟩;show#[l3,.inr #[_,_,_,_,_,_,A5,I3,a1]]
   ·intro c an H;show exO6 H (λl3 r o3 U F g3 as a0 e ht=>?_) (λl3 o3 U F g3 as a0 e I3 a1=>?_)
    all_goals clear H
    all_goals subst e
    show wpS_pure #[l3,_,_,_,_,_,A5,ht];dsimp only;show wpS_bind (eA (wpS_pure #['ƽ',_,_,_,_,A5,I3,by lia]))
 rintro c a2 ⟨l1,out,ia,ib,g,rfl,I,hp⟩;have:=I.la;have:=I.lb;lia;rintro c a2 ⟨l1,r,out,ia,ib,g,rfl,ht⟩;show wpS_pure (h _ _ l1 ht)
abbrev geF (f:Keyed->Int)(x y:Keyed):Prop:=f y<=f x
def zd9(h:zcQ (geF f) T l):zcQ '1' T l.reverse:=#[(ip l).trans h.1,fS.mpr h.2]
def zh6{a:Array Keyed}(h1:1<=n)(h:n<=a.size):∃x,a[n - 1]?=some x/\x∈a/\(a.toList.take n).reverse=x::(a.toList.take (n - 1)).reverse:=by obtain⟨i,rfl⟩:∃i,n=i+1:=#[n - 1,by lia];show#[a[i],aT '!',ez _,?_];rw[List.take_succ_eq_append_getElem (by rw[aM];show h),List.reverse_append];rfl
def zbI (a:Array Keyed)(n:Nat):(a.extract 0 n).toList=a.toList.take n:=by simp
def zi6 (a:Array Keyed)(i n:Nat):(a.extract i n).reverse.toList=((a.toList.take n).drop i).reverse:=by simp[List.drop_take]
def ziH(l:List Keyed)(h:i<=n):((l.take n).drop i).reverse++(l.take i).reverse=(l.take n).reverse:=by
 rw[<- List.reverse_append];congr 1;have:l.take i=(l.take n).take i:=by rw[List.take_take,eZ h]
 rw[this,aW]
structure HiI (f:Keyed->Int)(T:List Keyed)(a b:Array Keyed)(out:Array Keyed)(na nb:Nat):Prop where
 mg:Mg (geF f) T out.toList (a.toList.take na).reverse (b.toList.take nb).reverse
 la:1<=na
 ma:na<=a.size
 lb:2<=nb
 mb:nb<=b.size
def zds{T:List Keyed}{a b out:Array Keyed}(mg:'ȶ')(e:(B==1)=true)(I:1<=b.size)(hf:'ȏ'):zcQ '1' T (b.extract 0 B++a.extract 0 q++out.reverse).toList:=by
 have e:=cG e;subst e;show zi0 (zh6 (a:=b) (n:=1) '/' I) λz J Y F=>?_;rw[a6,a6,zbI,zbI,Array.toList_reverse];rw[F] at mg;have mg:Mg (geF f) T out.toList (a.toList.take q).reverse [z]:=mg;have t:=zd9 (mg.lastB λy O=>hf y (by have:=bG (dj.mp O);simpa using this) z J);have U:b.toList.take 1=[z]:=by rw[<- List.reverse_reverse (b.toList.take 1),F];rfl
 rw[U];simpa using t
def zer{T:List Keyed}{a b out:Array Keyed}(mg:'ȶ')(e:q=0\/B=0):zcQ '1' T (a.extract 0 q++b.extract 0 B++out.reverse).toList:=by
 rw[a6,a6,zbI,zbI,Array.toList_reverse];rcases e with rfl | rfl;have t:=zd9 (Mg.doneB (by simpa using mg));simpa using t;have t:=zd9 (Mg.doneA (by simpa using mg));simpa using t
def zk0 (R:'ä'){a b:Array Keyed}(ha:∀x∈a,x∈L0)(hb:∀x∈b,x∈L0)(sa:a.toList.Pairwise '1')(sb:b.toList.Pairwise '1')(na:1<=a.size)(nb:1<=b.size)
  (hf:'ȏ') (hl:'ǽ') {st:SortSt} (hk:'×') {Q:Array Keyed->SortSt->Prop}
  (h:∀out U,Like st U->zcQ '1' '8' out.toList->Q out U):wpS M A E s (zmg a b) Q st:=by
 show wpS_bind 'ō';show zi0 (zh6 na '/') λy y1 y2 y3=>?_;show wpS_bind (yo y1 ?_)
 have m0:Mg (geF f) '8' (#v[y]:Array Keyed).toList (a.toList.take (a.size - 1)).reverse (b.toList.take b.size).reverse:=by
  have ea:a.toList.take a.size=a.toList:=bw '$';have eb:b.toList.take b.size=b.toList:=bw '$'
  have h0:Mg (geF f) '8' [] ([y]++(a.toList.take (a.size - 1)).reverse) (b.toList.take b.size).reverse:=by
   have e:a.toList.reverse=[y]++(a.toList.take (a.size - 1)).reverse:=by rw[ea] at y3;show y3
   rw[<- e,eb];show#[(ip _).append (ip _),.nil,λ_ hx=>by simp at hx,fS.mpr sa,fS.mpr sb]
  show h0.a λx hx z hz=>by rw[ao.mp hx];show hl z (by have:=bG (dj.mp hz);simpa using this) y y1
 dsimp only;show zW (λe1=>?_) (λe1=>?_);show wpS_pure (h _ _ 'ğ' (zer m0 (.inl (cG e1))));show zW (λe2=>?_) (λe2=>?_);show wpS_pure (h _ _ 'ğ' (zds m0 e2 nb hf));have a7:a.size - 1≠0:=λz=>e1 (by rw[z];rfl);have bb:b.size≠1:=λz=>e2 (by rw[z];rfl);show wpS_bind 'í';show wpS_bind (wpS_mono (bV (I:=λx c U=>Like st U/\∃ia ib out g,c=(none,ia,ib,out,g)/\HiI f '8' a b out ia ib/\x+(ia+ib)+1<=a.size+b.size) (Q:=λc U=>Like st U/\∃r ia ib out g,c=(some r,ia,ib,out,g)/\zcQ '1' '8' r.toList) ?_ ?_ #['ğ',_,_,_,_,A5,#[m0,by lia,by lia,by lia,by lia],by lia]) ?_)
 ·intro x c a0 _ hx H;show ex4 H λl1 ia ib out g e I hp=>?_;clear H;subst e;dsimp only
  show wpS_bind (wpS_mono (bV (I:=λx c U=>Like st U/\∃F J B ac bc,c=(none,F,J,B,ac,bc)/\HiI f '8' a b B F J/\x+(F+J)<=ia+ib)
   (Q:=λc U=>Like st U/\((∃r F J B ac bc,c=(some r,F,J,B,ac,bc)/\zcQ '1' '8' r.toList)\/∃F J B ac bc,c=(none,F,J,B,ac,bc)/\HiI f '8' a b B F J/\F+J+1<=ia+ib)) ?_ ?_ #[l1,_,_,_,_,_,A5,I,by lia]) ?_)
  intro x2 c a1 _ bd H;show ex5 H λl2 ab Z o2 ac bc e I2 a2=>?_;clear H;subst e;dsimp only;have la:=I2.la;have lb:=I2.lb;have ma:=I2.ma;have mb:=I2.mb;show zi0 (zh6 (a:=b) (n:=Z) '!' mb) λy y1 y2 y3=>?_;show zi0 (zh6 la ma) λz z1 z2 z3=>?_;show wpS_bind 'Ȭ';have mg:=I2.mg;by_cases a3:f y<f z;rw[aA a3];dsimp only;show zqQ A5 ?_;show wpS_bind (yo z1 ?_);have ub:=mg.ub;rw[y3] at ub;have ub:=aQ.mp ub
  have m2:Mg (geF f) '8' (o2.push z).toList (a.toList.take (ab - 1)).reverse (b.toList.take Z).reverse:=by
   rw[z3] at mg;rw[bX];show Mg.a (c:=[z]) mg λx hx w Y=>?_;rw[ao.mp hx];rw[y3] at Y;change f w<=f z;rcases au.mp Y with rfl | Y;lia;have h9:f w<=f y:=ub.1 w Y;lia
  show zW (λe3=>?_) (λe3=>?_);show wpS_pure #[l2,.inl #[_,_,_,_,_,_,A5,zer m2 (.inl (cG e3))]];have a4:ab - 1≠0:=λq=>e3 'Ā';split;show wpS_pure #[l2,.inr #[_,_,_,_,_,A5,#[m2,by lia,by lia,lb,mb],by lia]];show wpS_pure #[l2,_,_,_,_,_,A5,#[m2,by lia,by lia,lb,mb],by lia];rw[aG a3];dsimp only;show zqP ax ?_;show wpS_bind (yo y1 ?_);have ua:=mg.ua;rw[z3] at ua;have ua:=aQ.mp ua
  have m2:Mg (geF f) '8' (o2.push y).toList (a.toList.take ab).reverse (b.toList.take (Z - 1)).reverse:=by
   rw[y3] at mg;rw[bX];show Mg.b (c:=[y]) mg λx hx w Y=>?_;rw[ao.mp hx];rw[z3] at Y;change f w<=f y;rcases au.mp Y with rfl | Y;lia;have h9:f w<=f z:=ua.1 w Y;lia
  show zW (λe3=>?_) (λe3=>?_);show wpS_pure #[l2,.inl #[_,_,_,_,_,_,A5,zds m2 e3 nb hf]];have a4:Z - 1≠1:=λq=>e3 'Ā';split;show wpS_pure #[l2,.inr #[_,_,_,_,_,A5,#[m2,la,ma,by lia,by lia],by lia]];show wpS_pure #[l2,_,_,_,_,_,A5,#[m2,la,ma,by lia,by lia],by lia];rintro c a1 ⟨l2,ab,Z,o2,ac,bc,rfl,I2,a2⟩;have la:=I2.la;have lb:=I2.lb;lia
  ·intro c a1 H;show exO5 H (λl2 r ab Z o2 ac bc e ht=>?_) (λl2 ab Z o2 ac bc e I2 a2=>?_)
   all_goals clear H
   all_goals subst e
   show wpS_pure #[l2,_,_,_,_,_,A5,ht];dsimp only;show wpS_bind 'ō'
   show wpS_bind (wpS_mono (bV (I:=λx c U=>Like st U/\∃F J B g ac bc,c=(none,F,J,B,g,ac,bc)/\HiI f '8' a b B F J/\F+J<=ab+Z)
    (Q:=λc U=>Like st U/\((∃r F J B g ac bc,c=(some r,F,J,B,g,ac,bc)/\zcQ '1' '8' r.toList)\/∃F J B g ac bc,c=(none,F,J,B,g,ac,bc)/\HiI f '8' a b B F J/\F+J<=ab+Z)) ?_ ?_ #[l2,_,_,_,_,_,_,A5,I2,aj _]) ?_)
   ·intro x3 c ag _ bk H;show ex6 H λl3 ad O o3 g3 al an e I3 as=>?_;clear H;subst e;dsimp only;have la:=I3.la;have lb:=I3.lb;have ma:=I3.ma;have mb:=I3.mb;have mg:=I3.mg;show zi0 (zh6 (a:=b) (n:=O) '!' mb) λy y1 y2 y3=>?_;have ub:=mg.ub;rw[y3] at ub;have ub:=aQ.mp ub;refine' zh7 (λ(_:Nat) (_:Unit)=>True) _ (λzu=>?_) ?_;rotate_left;by_cases g0:g3 > 1;rw[if_pos g0];generalize g3 - 1=g4;generalize hu:()=u;show zu g4 u trivial;rw[if_neg g0];show zu g3 () trivial;rintro g4 u -
    all_goals
     show wpS_bind (eA ?_);have lk:∀g,Like st (SortSt.mk' (kindOf ag) (arrOf ag) (pendingOf ag) g (failedOf ag)):=λg=>'ƽ';show wpS_bind (yo y1 ?_);show wpS_bind (zh3 (left:=false) (base:=0) (n:=ad) (hint:=ad - 1) R (hb _ y2) ha '!' '!' (sa.sublist ((cV _ _).trans (eC _ _))) ((lk _).kind.trans hk) λk k1 k2 k3=>?_);dsimp only;rw[eG] at k2 k3;have h4:∀w∈'Ĳ'.reverse,f w<=f y:=λw Y=>by have h5:=k2 w (dj.mp Y);unfold xI at h5;rw[if_neg ax,ev,bY] at h5;lia
     have m4:Mg (geF f) '8' (o3++(a.extract k ad).reverse).toList 'Ĳ'.reverse (b.toList.take O).reverse:=by
      rw[a6,zi6];show Mg.a (by rw[ziH _ k1];show mg) λx hx w Y=>?_;have h5:=k3 x (dj.mp hx);unfold xI at h5;rw[if_neg ax,gZ,cI] at h5;rw[y3] at Y;change f w<=f x;rcases au.mp Y with rfl | Y;lia;have h9:f w<=f y:=ub.1 w Y;lia
     have q2:k<=a.size:=by lia
     have q5:k+O<=ab+Z:=by lia
     refine' zh7 (λ(o4:Array Keyed) (k:Nat)=>Mg (geF f) '8' o4.toList 'Ĳ'.reverse (b.toList.take O).reverse/\(∀w∈'Ĳ'.reverse,f w<=f y)/\1<=k/\k<=a.size/\k+O<=ab+Z) _ (λzu=>?_) ?_;rotate_left;show zW (λk0=>?pos) (λk0=>?neg)
     case pos=>
      show zW (λe4=>?_) (λe4=>?_);show wpS_pure #[lk _,.inl #[_,_,_,_,_,_,_,A5,zer m4 (.inl (cG e4))]];have bl:k≠0:=λq=>e4 'Ā';have q1:1<=k:=by lia
      generalize ho:o3++(a.extract k ad).reverse=o4;generalize hi:k=k4;show zu o4 k4 (by rw[<- ho,<- hi];show#[m4,h4,q1,q2,q5])
     case neg=>
      have a5:k=ad:=by lia
      rw[a5] at h4 q5 ⊢;show zu o3 ad #[mg,h4,la,ma,q5]
     clear h4 m4 q2 q5 k1 k2 k3;clear k;intro o4 k H;have m4:=H.1;have h4:=H.2.1;have q1:=H.2.2.1;have q2:=H.2.2.2.1;have q5:=H.2.2.2.2;clear H
     all_goals
      show wpS_bind (yo y1 ?_);have m5:Mg (geF f) '8' (o4.push y).toList 'Ĳ'.reverse (b.toList.take (O - 1)).reverse:=by rw[y3] at m4;rw[bX];show Mg.b (c:=[y]) m4 λx hx w Y=>by rw[ao.mp hx];show h4 w Y
      show zW (λe6=>?_) (λe6=>?_);show wpS_pure #[lk _,.inl #[_,_,_,_,_,_,_,A5,zds m5 e6 nb hf]];have bm:O - 1≠1:=λq=>e6 'Ā';show zi0 (zh6 q1 q2) λz z1 z2 z3=>?_;show wpS_bind (yo z1 ?_);have ua:=m5.ua;rw[z3] at ua;have ua:=aQ.mp ua;show wpS_bind (zh3 (left:=true) (base:=0) (n:=O - 1) (hint:=O - 1 - 1) R (ha _ z2) hb '!' '!' (sb.sublist ((cV _ _).trans (eC _ _))) ((lk _).kind.trans hk) λj j1 j2 j3=>?_);dsimp only;rw[eG] at j2 j3;have h6:∀w∈(b.toList.take j).reverse,f w<=f z:=λw Y=>by have h5:=j2 w (dj.mp Y);unfold xI at h5;rw[if_pos rfl,cI] at h5;lia
      have m6:Mg (geF f) '8' (o4.push y++(b.extract j (O - 1)).reverse).toList 'Ĳ'.reverse (b.toList.take j).reverse:=by
       rw[a6,zi6];show Mg.b (by rw[ziH _ j1];show m5) λx hx w Y=>?_;have h5:=j3 x (dj.mp hx);unfold xI at h5;rw[if_pos rfl,bY] at h5;rw[z3] at Y;change f w<=f x;rcases au.mp Y with rfl | Y;lia;have h9:f w<=f z:=ua.1 w Y;lia
      refine' zh7 (λ(o5:Array Keyed) (j:Nat)=>Mg (geF f) '8' o5.toList 'Ĳ'.reverse (b.toList.take j).reverse/\(∀w∈(b.toList.take j).reverse,f w<=f z)/\2<=j/\j<=O - 1) _ (λzu=>?_) ?_;rotate_left;show zW (λj0=>?pos) (λj0=>?neg)
      case pos=>
       show zW (λe7=>?_) (λe7=>?_);show wpS_pure #[lk _,.inl #[_,_,_,_,_,_,_,A5,zds m6 e7 nb hf]];show zW (λe8=>?_) (λe8=>?_);show wpS_pure #[lk _,.inl #[_,_,_,_,_,_,_,A5,zer m6 (.inr (cG e8))]];have bo:j≠1:=λq=>e7 'Ā';have bs:j≠0:=λq=>e8 'Ā';have q3:2<=j:=by lia
       generalize ho:o4.push y++(b.extract j (O - 1)).reverse=o5;generalize hi:j=j4;show zu o5 j4 (by rw[<- ho,<- hi];show#[m6,h6,q3,j1])
      case neg=>
       have hj:j=O - 1:=by lia
       rw[hj] at h6 ⊢;show zu (o4.push y) (O - 1) #[m5,h6,by lia,aj _]
      clear h6 m6 j1 j2 j3;clear j;intro o5 j H;have m6:=H.1;have h6:=H.2.1;have q3:=H.2.2.1;have j1:=H.2.2.2;clear H
      all_goals
       show wpS_bind (yo z1 ?_);have m7:Mg (geF f) '8' (o5.push z).toList (a.toList.take (k - 1)).reverse (b.toList.take j).reverse:=by rw[z3] at m6;rw[bX];show Mg.a (c:=[z]) m6 λx hx w Y=>by rw[ao.mp hx];show h6 w Y
       show zW (λe9=>?_) (λe9=>?_);show wpS_pure #[lk _,.inl #[_,_,_,_,_,_,_,A5,zer m7 (.inl (cG e9))]];have bt:k - 1≠0:=λq=>e9 'Ā';split;show wpS_pure #[lk _,.inr #[_,_,_,_,_,_,A5,#[m7,by lia,by lia,q3,by lia],by lia]];show wpS_pure #[lk _,_,_,_,_,_,_,A5,#[m7,by lia,by lia,q3,by lia],by lia]
   rintro c ag ⟨l3,ad,O,o3,g3,al,an,rfl,I3,as⟩;show#[l3,.inr #[_,_,_,_,_,_,A5,I3,as]]
   ·intro c ag H;show exO6 H (λl3 r ad O o3 g3 al an e ht=>?_) (λl3 ad O o3 g3 al an e I3 as=>?_)
    all_goals clear H
    all_goals subst e
    show wpS_pure #[l3,_,_,_,_,_,A5,ht];dsimp only;show wpS_bind (eA (wpS_pure #['ƽ',_,_,_,_,A5,I3,by lia]))
 rintro c a0 ⟨l1,ia,ib,out,g,rfl,I,hp⟩;have:=I.la;have:=I.lb;lia;rintro c a0 ⟨l1,r,ia,ib,out,g,rfl,ht⟩;show wpS_pure (h _ _ l1 ht)
end
def kA (f:Keyed->Int)(a:Array Keyed)(i:Nat):Int:=match a[i]? with | some x=>f x | none=>0
def Seg (f:Keyed->Int)(a:Array Keyed)(lo hi:Nat):Prop:=∀i j,lo<=i->i<=j->j<hi->kA f a i<=kA f a j
def Gse (f:Keyed->Int)(a:Array Keyed)(lo hi:Nat):Prop:=∀i j,lo<=i->i<=j->j<hi->kA f a j<=kA f a i
structure Lk (lo:Nat)(st st':SortSt):Prop where
 kind:kindOf st'=kindOf st
 pend:pendingOf st'=pendingOf st
 fail:failedOf st'=failedOf st
 perm:(arrOf st').Perm (arrOf st)
 low:∀k,k<lo->(arrOf st')[k]?=(arrOf st)[k]?
section
variable {M:Model}{A:Ae}{E:AA}{s:AZ}{κ:SortKind}{L0:List Keyed}{f:Keyed->Int}
def zau(h:a[i]?=b[j]?):kA f a i=kA f b j:=by unfold kA;rw[h]
def Lk.refl (lo:Nat)(st:SortSt):Lk lo st st:=#[A5,A5,A5,.refl _,λ_ _=>rfl]
def Lk.trans {lo:Nat}{st B q:SortSt}(h:Lk lo st B)(k:Lk lo B q):Lk lo st q:=#[k.kind.trans h.kind,k.pend.trans h.pend,k.fail.trans h.fail,k.perm.trans h.perm,λi hi=>(k.low i hi).trans (h.low i hi)]
def Lk.size {lo:Nat}{st q:SortSt}(h:Lk lo st q):(arrOf q).size=','.size:=h.perm.size_eq
def Lk.mem {lo:Nat}{st q:SortSt}(h:Lk lo st q)(k:'ż'):∀x∈arrOf q,x∈L0:=λx B=>k x (h.perm.mem_iff.mp B)
def zff (R:'ä'){st:SortSt}{i j:Nat}(I:'×')(q:'ż')(hi:i<','.size)(J:j<','.size){Q:Option Bool->SortSt->Prop}(h:Q (some (decide (kA f ',' i<kA f ',' j))) st):wpS M A E s (ltAt' i j) Q st:=by rw[ltAt'_eq];show wpS_bind 'í';have B:','[i]?=some ','[i]:=aT hi;have F:','[j]?=some ','[j]:=aT J;show wpS_bind (yo B (wpS_bind (yo F (ztA R (q _ (ez _)) (q _ (ez _)) I ?_))));unfold kA at h;rw[B,F] at h;show h
def zm9{st:SortSt}{Q:Unit->SortSt->Prop}(h:Q () (setArr st (mirror ',' i j ((j - i) / 2)))):wpS M A E s (reverseSlice' i j) Q st:=by rw[reverseSlice'_eq];show eA h
def Lk.rev {lo:Nat}(st:SortSt){i j:Nat}(h1:lo<=i)(h2:j<=','.size):Lk lo st (setArr st (mirror ',' i j ((j - i) / 2))):=#[A5,A5,A5,mirror_perm _ _ _ _,λk q=>by change (mirror ',' i j ((j - i) / 2))[k]?=_;rw[getElem?_mirror_all h2,if_neg '!']]
def zb2(h2:j<=a.size)(k:Nat):kA f (mirror a i j ((j - i) / 2)) k=if i<=k/\k<j then kA f a (i+j - 1 - k) else kA f a k:=by
 have e:=getElem?_mirror_all (i:=i) h2 k;by_cases h:i<=k/\k<j;rw[if_pos h] at e ⊢;show zau e;rw[if_neg h] at e ⊢;show zau e
def uH {a:Array Keyed}{i j:Nat}(h2:j<=a.size)(h:∀k,i<=k->k<j->kA f a k=kA f a (j - 1))(k:Nat):kA f (mirror a i j ((j - i) / 2)) k=kA f a k:=by
 rw[zb2 h2];split;rw[h _ '!' '!',h k '!' '!'];rfl
def Gse.turn {a:Array Keyed}{i j:Nat}(h2:j<=a.size)(h:Gse f a i j):Seg f (mirror a i j ((j - i) / 2)) i j:=λp q B I F=>by rw[zb2 h2,zb2 h2,if_pos #[B,by lia],if_pos #[by lia,F]];show h _ _ '!' '!' '!'
def zh2 (R:'ä'){st:SortSt}{lo nrem:Nat}(hk:'×')(ha:'ż')(h1:1<=nrem)(hz:lo+nrem<=','.size){Q:Option Nat->SortSt->Prop}
  (h:∀m st',Lk lo st st'->1<=m->m<=nrem->Seg f (arrOf st') lo (lo+m)->Q (some m) st'):wpS M A E s (countRun' lo nrem) Q st:=by
 rw[countRun'_eq]
 have asc:∀ (n:Nat) (st1:SortSt),Lk lo st st1->1<=n->n<=nrem->Seg f 'z' lo (lo+n)->∀ {BA:Option '0'×Nat->SortSt->Prop} {body:Nat->Option '0'×Nat->StateT SortSt Sem (ForInStep (Option '0'×Nat))},
   (∀m,n<=m->m<=nrem->Seg f 'z' lo (lo+m)->(m<nrem->kA f 'z' (lo+m)<kA f 'z' (lo+m - 1))->BA (none,m) st1)->
   (∀x m (G':ForInStep (Option '0'×Nat)->SortSt->Prop),n<=m->m<nrem->(kA f 'z' (lo+m)<kA f 'z' (lo+m - 1)->G' (.done (none,m)) st1)->(¬ kA f 'z' (lo+m)<kA f 'z' (lo+m - 1)->G' (.yield (none,m+1)) st1)->wpS M A E s (body x (none,m)) G' st1)->
   wpS M A E s (forIn [n:nrem] (none,n) body) BA st1:=by
  intro n st1 l1 hn1 hn2 hs BA body hG hb;have hz1:=l1.size;show bV (I:=λx c st2=>st2=st1/\c=(none,x)/\n<=x/\Seg f 'z' lo (lo+x)) ?_ ?_ #[A5,A5,aj _,hs];rintro x c st2 hx1 hx2 ⟨rfl,rfl,_,hs2⟩;show hb x x _ hx1 hx2 (λe=>hG x hx1 '!' hs2 λ_=>e) (λe=>?_);show#[A5,A5,by lia,λi j p q r=>?_];by_cases e1:j<lo+x;show hs2 i j p q e1;obtain rfl:j=lo+x:=by lia
  by_cases e2:i=lo+x;subst e2;show dP _;have:=hs2 i (lo+x - 1) p '!' '!';lia;rintro c st2 ⟨rfl,rfl,_,hs2⟩;have e:max n nrem=nrem:=by lia
  rw[e] at hs2 ⊢;show hG nrem hn2 '/' hs2 λz=>by lia
 have step:∀ (st1:SortSt),Lk lo st st1->∀m,1<=m->m<nrem->∀ (G':ForInStep (Option '0'×Nat)->SortSt->Prop),(kA f 'z' (lo+m)<kA f 'z' (lo+m - 1)->G' (.done (none,m)) st1)->(¬ kA f 'z' (lo+m)<kA f 'z' (lo+m - 1)->G' (.yield (none,m+1)) st1)->
   ∀ {k:Option Bool->StateT SortSt Sem (ForInStep (Option '0'×Nat))},k (some true)=pure (.done (none,m))->k (some false)=pure (.yield (none,m+1))->wpS M A E s (ltAt' (lo+m) (lo+m - 1) >>= k) G' st1:=by
  intro st1 l1 m h2 h3 G' g1 g2 k k1 k2;have hz1:=l1.size;show wpS_bind (zff R (l1.kind.trans hk) (l1.mem ha) '!' '!' ?_);by_cases e:kA f 'z' (lo+m)<kA f 'z' (lo+m - 1);rw[aA e,k1];show wpS_pure (g1 e);rw[aG e,k2];show wpS_pure (g2 e)
 show wpS_bind (asc 1 st (Lk.refl _ _) '/' h1 (λi j p q r=>by rw[show i=j by lia];show dP _) (λm hm1 hm2 hs hd=>?_) (λx m G' q1 q2 g1 g2=>step st (Lk.refl _ _) m '!' q2 G' g1 g2 A5 A5))
 have fall:∀st1,Lk lo st st1->m<nrem->Gse f 'z' lo (lo+(m+1))->∀ {BA:Option '0'×Nat×Nat->SortSt->Prop} {body:Nat->Option '0'×Nat×Nat->StateT SortSt Sem (ForInStep 'ȳ')},
   (∀n q st2,Lk lo st st2->m+1<=n->n<=nrem->q+1<=n->Gse f 'V' lo (lo+n)->(∀k,lo+n - (q+1)<=k->k<lo+n->kA f 'V' k=kA f 'V' (lo+n - 1))->BA (none,n,q) st2)->
   (∀x n q st2 (G':'ǵ'),Lk lo st st2->m+1<=n->n<nrem->q+1<=n->
    (kA f 'V' (lo+n)<kA f 'V' (lo+n - 1)->q > 0->G' (.yield (none,n+1,0)) (setArr st2 'ǟ'))->(kA f 'V' (lo+n)<kA f 'V' (lo+n - 1)->¬ q > 0->G' (.yield (none,n+1,0)) st2)->
    (kA f 'V' (lo+n - 1)<kA f 'V' (lo+n)->G' (.done (none,n,q)) st2)->(kA f 'V' (lo+n)=kA f 'V' (lo+n - 1)->G' (.yield (none,n+1,q+1)) st2)->wpS M A E s (body x (none,n,q)) G' st2)->
   wpS M A E s (forIn [m+1:nrem] (none,m+1,0) body) BA st1:=by
  intro st1 l1 hmn hg BA body hG hb;show bV (I:=λx c st2=>∃q,c=(none,x,q)/\Lk lo st st2/\m+1<=x/\q+1<=x/\Gse f 'V' lo (lo+x)/\∀k,lo+x - (q+1)<=k->k<lo+x->kA f 'V' k=kA f 'V' (lo+x - 1)) ?_ ?_ #[0,A5,l1,aj _,by lia,hg,λk p q=>by congr 1;lia];rintro x c st2 hx1 hx2 ⟨q,rfl,l2,p1,p2,p3,p4⟩;have hz2:=l2.size
  have more:∀st3:SortSt,(∀k,kA f (arrOf st3) k=kA f 'V' k)->kA f 'V' (lo+x)<=kA f 'V' (lo+x - 1)->Gse f (arrOf st3) lo (lo+(x+1)):=λst3 e3 hle i j a1 a2 a3=>by
   rw[e3,e3];by_cases e1:j<lo+x;show p3 i j a1 a2 e1;obtain rfl:j=lo+x:=by lia
   by_cases e2:i=lo+x;subst e2;show dP _;have:=p3 i (lo+x - 1) a1 '!' '!';lia
  show hb x x q st2 _ l2 p1 hx2 p2 (λe hq=>?_) (λe hq=>?_) (λe=>?_) (λe=>?_);have e3:∀k,kA f (mirror 'V' (lo+x - (q+1)) (lo+x) ((lo+x - (lo+x - (q+1))) / 2)) k=kA f 'V' k:=uH '!' p4;show#[0,A5,l2.trans (Lk.rev st2 '!' '!'),by lia,by lia,more _ e3 '!',λk a1 a2=>by congr 1;lia];show#[0,A5,l2,by lia,by lia,more _ (λ_=>rfl) '!',λk a1 a2=>by congr 1;lia];show hG x q st2 l2 p1 '!' p2 p3 p4;show#[q+1,A5,l2,by lia,by lia,more _ (λ_=>rfl) '!',λk a1 a2=>?_];rw[show lo+(x+1) - 1=lo+x by lia];by_cases e1:k=lo+x;rw[e1];rw[p4 k '!' '!',e];rintro c st2 ⟨q,rfl,l2,p1,p2,p3,p4⟩;have e:max (m+1) nrem=nrem:=by lia
  rw[e] at p1 p2 p3 p4 ⊢;show hG nrem q st2 l2 p1 '/' p2 p3 p4
 dsimp only;by_cases e1:(m==nrem)=true;rw[if_pos e1];show wpS_pure (h m st (Lk.refl _ _) hm1 hm2 hs);rw[if_neg e1];have e1':m<nrem:=by have:m≠nrem:=λz=>e1 (by rw[z];show cS _);lia
 have hd:=hd e1';by_cases e2:m > 1
 case' pos=>
  rw[if_pos e2];show wpS_bind (zff R hk ha '!' '!' ?_);by_cases e3:kA f ',' lo<kA f ',' (lo+m - 1);rw[aA e3];show wpS_pure (h m st (Lk.refl _ _) hm1 hm2 hs);rw[aG e3];dsimp only;rw[if_neg ax];show wpS_bind (zm9 ?_);have l1:=Lk.rev (lo:=lo) st (i:=lo) (j:=lo+m) '/' '!';have eq0:∀k,lo<=k->k<lo+m->kA f ',' k=kA f ',' (lo+m - 1):=λk a1 a2=>by have h3:=hs lo k '/' a1 a2;have h4:=hs k (lo+m - 1) a1 '!' '!';lia
  have eq1:=uH (i:=lo) '!' eq0
  have g1:Gse f 'Ȇ' lo (lo+(m+1)):=λi j a1 a2 a3=>by
   rw[eq1,eq1];by_cases ej:j<lo+m;rw[eq0 j '!' ej,eq0 i a1 '!'];show dP _;obtain rfl:j=lo+m:=by lia
   by_cases ei:i=lo+m;rw[ei];show dP _;rw[eq0 i a1 '!'];lia
  have g1:Gse f (arrOf (setArr st 'Ȇ')) lo (lo+(m+1)):=g1;generalize setArr st 'Ȇ'=st1 at l1 g1 ⊢
 case' neg=>
  rw[if_neg e2]
  obtain⟨st1,l1,g1,hst⟩:∃st1,Lk lo st st1/\Gse f (arrOf st1) lo (lo+(m+1))/\st1=st:=#[st,Lk.refl _ _,λi j a1 a2 a3=>by
   by_cases e:i=j;rw[e];show dP _;rw[show i=lo+m - 1 by lia,show j=lo+m by lia];lia,A5]
  rw[<- hst]
 all_goals
  show wpS_bind 'ō';show wpS_bind (fall st1 l1 e1' g1 (λn q st2 l2 n1 n2 q1 g2 g3=>?_) (λx n q st2 G' l2 n1 n2 q1 b1 b2 b3 b4=>?_))
  ·dsimp only;have hz2:=l2.size;by_cases e4:q > 0
   case' pos=>
    rw[if_pos e4];show wpS_bind (zm9 ?_);have l3:=l2.trans (Lk.rev (lo:=lo) st2 (i:=lo+n - (q+1)) (j:=lo+n) '!' '!');have eq3:=uH (i:=lo+n - (q+1)) '!' g3;have g4:Gse f (arrOf (setArr st2 'ǟ')) lo (lo+n):=λi j a1 a2 a3=>by have:=g2 i j a1 a2 a3;rw[<- eq3 i,<- eq3 j] at this;show this
    generalize setArr st2 'ǟ'=st3 at l3 g4 ⊢
   case' neg=>
    rw[if_neg e4];obtain⟨st3,l3,g4,hst3⟩:∃st3,Lk lo st st3/\Gse f (arrOf st3) lo (lo+n)/\st3=st2:=#[st2,l2,g2,A5];rw[<- hst3]
   all_goals
    show wpS_bind (zm9 ?_);have hz3:=l3.size;have l4:=l3.trans (Lk.rev (lo:=lo) st3 (i:=lo) (j:=lo+n) (aj lo) '!');have g5:=Gse.turn '!' g4;show wpS_bind (asc n _ l4 '!' n2 g5 (λm' a1 a2 a3 a4=>?_) (λx m' G' q1 q2 c1 c2=>step _ l4 m' '!' q2 G' c1 c2 A5 A5));show wpS_pure (h m' _ l4 '!' a2 a3)
  dsimp only;have hz2:=l2.size;show wpS_bind (zff R (l2.kind.trans hk) (l2.mem ha) '!' '!' ?_);by_cases e5:kA f 'V' (lo+n)<kA f 'V' (lo+n - 1);rw[aA e5];dsimp only;rw[if_pos rfl];by_cases e6:q > 0;rw[if_pos e6];show wpS_bind (zm9 (wpS_pure (b1 e5 e6)));rw[if_neg e6];show wpS_pure (b2 e5 e6);rw[aG e5];dsimp only;rw[if_neg ax];show wpS_bind (zff R (l2.kind.trans hk) (l2.mem ha) '!' '!' ?_);by_cases e6:kA f 'V' (lo+n - 1)<kA f 'V' (lo+n);rw[aA e6];show wpS_pure (b3 e6);rw[aG e6];show wpS_pure (b4 '!')
def ztB{st:SortSt}{Q:Unit->SortSt->Prop}(h:Q () (setArr st (bubble ',' i (i - j)))):wpS M A E s (moveDown' i j) Q st:=by rw[moveDown'_eq];show eA h
def Lk.move {lo:Nat}(st:SortSt){i j:Nat}(h1:lo<=j)(h2:i<','.size)(q:j<=i):Lk lo st (setArr st (bubble ',' i (i - j))):=#[A5,A5,A5,bubble_perm _ _ _,λk B=>by change (bubble ',' i (i - j))[k]?=_;rw[getElem?_bubble h2 _ '!',if_neg '!',if_neg '!']]
def zeH(h2:i<a.size)(F:j<=i)(k:Nat):kA f (bubble a i (i - j)) k=if k=j then kA f a i else if j<k/\k<=i then kA f a (k - 1) else kA f a k:=by
 have e:=getElem?_bubble h2 (i - j) '!' k;rw[show i - (i - j)=j by lia] at e;by_cases q:k=j;rw[if_pos q] at e ⊢;show zau e;rw[if_neg q] at e ⊢;by_cases B:j<k/\k<=i;rw[if_pos B] at e ⊢;show zau e;rw[if_neg B] at e ⊢;show zau e
def zfe (R:'ä'){st:SortSt}{lo n U:Nat}(hk:'×')(ha:'ż')(h1:U<=n)(hn:1<=n)(hz:lo+n<=','.size)(hs:Seg f ',' lo (lo+U)){Q:Bool->SortSt->Prop}
  (h:∀q,Lk lo st q->Seg f (arrOf q) lo (lo+n)->Q true q):wpS M A E s (binarySort' lo n U) Q st:=by
 rw[binarySort'_eq];show wpS_bind (wpS_mono (bV (I:=λx c q=>c=(none,())/\Lk lo st q/\Seg f (arrOf q) lo (lo+x)) (Q:=λc q=>c=(none,())/\Lk lo st q/\Seg f (arrOf q) lo (lo+n)) ?_ ?_ #[A5,Lk.refl _ _,?_]) ?_);rintro k c B ac ad ⟨rfl,O,J⟩;have ag:=O.size;dsimp only
 show wpS_bind (wpS_mono (bV (I:=λx c q=>q=B/\∃l r,c=(none,l,r)/\l<=r/\r<=k/\(∀i,i<l->kA f 'v' (lo+i)<=kA f 'v' (lo+k))/\(∀i,r<=i->i<k->kA f 'v' (lo+k)<kA f 'v' (lo+i))/\r - l+x<=k)
  (Q:=λc q=>q=B/\∃l,c=(none,l,l)/\l<=k/\(∀i,i<l->kA f 'v' (lo+i)<=kA f 'v' (lo+k))/\(∀i,l<=i->i<k->kA f 'v' (lo+k)<kA f 'v' (lo+i))) ?_ ?_ #[A5,0,k,A5,by lia,by lia,λi hi=>by lia,λi a1 a2=>by lia,by lia]) ?_)
 rintro x c F _ hx ⟨rfl,l,r,rfl,p1,p2,p3,p4,p5⟩;dsimp only;by_cases e:l ≥ r;rw[if_pos e];obtain rfl:l=r:=by lia
 show wpS_pure #[A5,l,A5,p2,p3,p4];rw[if_neg e];show wpS_bind (zff R (O.kind.trans hk) (O.mem ha) '!' '!' ?_);by_cases e2:kA f (arrOf F) (lo+k)<kA f (arrOf F) (lo+(l+r) / 2);rw[aA e2];show wpS_pure #[A5,l,(l+r) / 2,A5,by lia,by lia,p3,λi a1 a2=>?_,by lia];have:=J (lo+(l+r) / 2) (lo+i) '!' '!' '!';lia;rw[aG e2];show wpS_pure #[A5,(l+r) / 2+1,r,A5,by lia,p2,λi a1=>?_,p4,by lia];have:=J (lo+i) (lo+(l+r) / 2) '!' '!' '!';lia;rintro c F ⟨rfl,l,r,rfl,p1,p2,p3,p4,p5⟩;obtain rfl:l=r:=by lia
 show#[A5,l,A5,p2,p3,p4];rintro c F ⟨rfl,l,rfl,p2,p3,p4⟩;dsimp only;show wpS_bind (ztB (wpS_pure #[A5,O.trans (Lk.move F '!' '!' '!'),λi j a1 a2 a3=>?_]));change kA f (bubble (arrOf F) (lo+k) (lo+k - (lo+l))) i<=kA f (bubble (arrOf F) (lo+k) (lo+k - (lo+l))) j;rw[zeH '!' '!',zeH '!' '!'];have up:=λx y b1 b2 b3=>J x y b1 b2 b3;by_cases ei:i=lo+l;rw[if_pos ei];by_cases Y:j=lo+l;rw[if_pos Y];show dP _;rw[if_neg Y,if_pos 'd'];have:=p4 (j - 1 - lo) '!' '!';rw[show lo+(j - 1 - lo)=j - 1 by lia] at this;lia;rw[if_neg ei];by_cases Z:lo+l<i/\i<=lo+k;rw[if_pos Z,if_neg '!',if_pos 'd'];show J _ _ '!' '!' '!';rw[if_neg Z];by_cases Y:j=lo+l;rw[if_pos Y];have:=p3 (i - lo) '!';rw[show lo+(i - lo)=i by lia] at this;show this;rw[if_neg Y];by_cases ab:lo+l<j/\j<=lo+k;rw[if_pos ab];show J _ _ '!' '!' '!';rw[if_neg ab];show J _ _ '!' '!' '!';rintro c B ⟨rfl,O,J⟩;have e:max (max U 1) n=n:=by lia
 rw[e] at J;show#[A5,O,J];by_cases e:1<=U;rw[show max U 1=U by lia];show hs;intro i j a1 a2 a3;rw[show i=j by lia];show dP _;rintro c B ⟨rfl,O,J⟩;show wpS_pure (h B O J)
end
theorem zlb (base:Nat):∀ (l:List Keyed) (n:Nat) (a:Array Keyed),base+n+l.length<=a.size->((l.zipIdx n).foldl (λa (p:Keyed×Nat)=>a.setIfInBounds (base+p.2) p.1) a).toList=a.toList.take (base+n)++(l++a.toList.drop (base+n+l.length))
 | [],n,a,_=>by simp
 | p::l,n,a,h=>by
  rw[aS] at h;rw[List.zipIdx_cons,List.foldl_cons,zlb base l (n+1) _ (by rw[Array.size_setIfInBounds];lia),Array.toList_setIfInBounds,List.set_eq_take_append_cons_drop,if_pos (by rw[aM];lia)];have e:a.toList.take (base+n)++p::a.toList.drop (base+n+1)=(a.toList.take (base+n)++[p])++a.toList.drop (base+n+1):=by simp
  have q:(a.toList.take (base+n)++[p]).length=base+n+1:=by simp;lia
  change List.take (base+(n+1)) (a.toList.take (base+n)++p::a.toList.drop (base+n+1))++(l++List.drop (base+(n+1)+l.length) (a.toList.take (base+n)++p::a.toList.drop (base+n+1)))=_;rw[e,gK (by rw[q];lia),<- eJ,List.drop_left' (by rw[q];lia),eJ,aS];rw[aD,show base+n+1+l.length=base+n+(l.length+1) by lia];rfl
def zlz{P A S:List Keyed}(h:P.length=n):(P++(A++S)).drop n=A++S:=List.drop_left' h
def zgo{P A S:List Keyed}(h:P.length=n)(k:A.length=m):((P++(A++S)).drop n).take m=A:=by rw[zlz h,gK k]
section
variable {M:Model}{A:Ae}{E:AA}{s:AZ}{κ:SortKind}{L0:List Keyed}{f:Keyed->Int}
def zi5 {a:Array Keyed}{P X S:List Keyed}{i j:Nat}(e:a.toList=P++(X++S))(h:P.length=i)(k:X.length+i=j):(a.extract i j).toList=X:=by
 have:(a.extract i j).toList=(a.toList.drop i).take (j - i):=by simp
 rw[this,e,zgo h '!']
def znq{a:Array Keyed}{P S:List Keyed}(e:a.toList=P++x::S)(h:P.length=i):a[i]?=some x:=by rw[<- cq,e,<- h,bp '/'];simp
def znj {st st':SortSt}{Q:PUnit->SortSt->Prop}(h:Q #[] st'):wpS M A E s (set st':StateT SortSt Sem PUnit) Q st:=by unfold wpS;rw[StateT.run_set];show af #[A5,h]
def zkZ (R:'ä'){st:SortSt}{i:Nat}{Z pv:List (Nat×Nat×Nat)}{P U V S:List Keyed}{p1 p2:Nat}(hk:'×')(ad:failedOf st=none)(ha:'ż')
  (B:','.toList=P++(U++(V++S))) (ag:pendingOf st=(Z++(P.length,U.length,p1)::(P.length+U.length,V.length,p2)::pv).toArray) (hi:i=Z.length) (nu:U≠[]) (nv:V≠[]) (su:U.Pairwise '1') (sv:V.Pairwise '1') {Q:Bool->SortSt->Prop}
  (h:∀ (I:SortSt) (C:List Keyed),kindOf I=κ->failedOf I=none->(arrOf I).toList=P++(C++S)->C.Perm (U++V)->C.Pairwise '1'->pendingOf I=(Z++'ǃ'::pv).toArray->Q true I):wpS M A E s (mergeAt' i) Q st:=by
 subst hi;show wpS_bind 'í';have g1:'è'[Z.length]?=some (P.length,U.length,p1):=by rw[ag];simp
 have g2:'è'[Z.length+1]?=some (P.length+U.length,V.length,p2):=by rw[ag];simp
 have g3:('è'.setIfInBounds Z.length 'ǃ').eraseIdxIfInBounds (Z.length+1)=(Z++'ǃ'::pv).toArray:=by rw[ag];simp[List.eraseIdx_append_of_length_le]
 rw[g1,g2];dsimp only;show wpS_bind (znj ?_);rw[g3]
 obtain⟨y,V',rfl⟩:∃y V',V=y::V':=by
  cases V with
  | nil=>show absurd A5 nv
  | cons y V'=>show#[y,V',A5]
 obtain⟨U',z,rfl⟩:∃U' z,U=U'++[z]:=#[U.dropLast,U.getLast nu,(bF nu).symm];have hy:','[P.length+(U'++[z]).length]?=some y:=znq (P:=P++(U'++[z])) (S:=V'++S) (by rw[B];simp) '$';have hz:','[P.length+(U'++[z]).length - 1]?=some z:=znq (P:=P++U') (S:=y::V'++S) (by rw[B];simp) '$';have hsz:','.size=P.length+((U'++[z]).length+((y::V').length+S.length)):=by rw[<- aM,B];simp only[ay]
 have an:∀x∈U'++[z],x∈L0:=λx F=>ha x (by rw[<- bZ,B];simp only[aC] at F ⊢;rcases F with F | F <;> simp[F]);have inV:∀x∈y::V',x∈L0:=λx F=>ha x (by rw[<- bZ,B];show a8 _ (a8 _ (cC _ F)));have cu:(','.toList.drop P.length).take (U'++[z]).length=U'++[z]:=by rw[B];show zgo A5 A5
 have cv:(','.toList.drop (P.length+(U'++[z]).length)).take (y::V').length=y::V':=by rw[B,<- aD];show zgo '$' A5
 have hV:∀w∈y::V',f y<=f w:=λw J=>by
  rcases au.mp J with rfl | J;show dP _;show (aQ.mp sv).1 w J
 have hU:∀w∈U'++[z],f w<=f z:=λw J=>by
  rcases aC.mp J with J | J;show (br.mp su).2.2 w J z '$';rw[ao.mp J];show dP _
 generalize ab:U'++[z]=U at *;generalize al:y::V'=V at *;have yV:y∈V:=by rw[<- al];show aq
 have zU:z∈U:=by rw[<- ab];simp
 have bm:1<=U.length:=by rw[<- ab];simp
 have bo:1<=V.length:=by rw[<- al];simp
 have ac:kindOf (SortSt.mk' (kindOf st) ',' (Z++'ǃ'::pv).toArray (gallopOf st) (failedOf st))=κ:=hk;show wpS_bind (yo hy ?_);show wpS_bind (zh3 (left:=false) (base:=P.length) (n:=U.length) (hint:=0) R (inV _ yV) ha '!' '!' (by rw[cu];show su) ac λk k1 k2 k3=>?_);dsimp only;have as:∀x∈U.take k,f x<=f y:=λx F=>by have O:=k2 x (by rw[<- cu,List.take_take,eZ k1] at F;show F);unfold xI at O;rw[if_neg ax,ev,bY] at O;lia
 have bb:∀x∈U.drop k,f y<f x:=λx F=>by have O:=k3 x (by rw[cu];show F);unfold xI at O;rw[if_neg ax,gZ,cI] at O;show O
 clear k2 k3;by_cases e1:(U.length - k==0)=true;rw[if_pos e1];have e1:=cG e1;show wpS_pure 'ȱ';have h6:=as a (by rw[bw '!'];show F);have h7:=hV b hb;change f a<=f b;lia;rw[if_neg e1];have bs:U.length - k≠0:=λq=>e1 'Ā';rw[show P.length+k+(U.length - k) - 1=P.length+U.length - 1 by lia];show wpS_bind (yo hz ?_);show wpS_bind (zh3 (left:=true) (base:=P.length+U.length) (n:=V.length) (hint:=V.length - 1) R (an _ zU) ha '!' '!' (by rw[cv];show sv) ac λj j1 j2 j3=>?_);dsimp only;have bc:∀x∈V.take j,f x<f z:=λx F=>by have O:=j2 x (by rw[<- cv,List.take_take,eZ j1] at F;show F);unfold xI at O;rw[if_pos rfl,cI] at O;show O
 have a0:∀x∈V.drop j,f z<=f x:=λx F=>by have O:=j3 x (by rw[cv];show F);unfold xI at O;rw[if_pos rfl,bY] at O;lia
 clear j2 j3;by_cases e2:(j==0)=true;rw[if_pos e2];have e2:=cG e2;subst e2;show wpS_pure 'ȱ';have h6:=a0 b hb;have h7:=hU a F;change f a<=f b;lia;rw[if_neg e2];have bt:j≠0:=λq=>e2 'Ā';have ex:(','.extract (P.length+k) (P.length+U.length)).toList=U.drop k:=zi5 (P:=P++U.take k) (S:=V++S) (by rw[B,aD,<- aD (U.take k),aW]) '¶' '¶';have ey:(','.extract (P.length+U.length) (P.length+U.length+j)).toList=V.take j:=zi5 (P:=P++U) (S:=V.drop j++S) (by rw[B,<- aD (V.take j),aW,aD]) '$' '¶';generalize hX:','.extract (P.length+k) (P.length+U.length)=X at ex ⊢;generalize hY:','.extract (P.length+U.length) (P.length+U.length+j)=Y at ey ⊢;have bd:X.size=U.length - k:=by rw[<- aM,ex];simp
 have bx:Y.size=j:=by rw[<- aM,ey];simp;lia
 have mX:∀x∈X,x∈U.drop k:=λx F=>by rw[<- ex];show bZ.mpr F
 have mY:∀x∈Y,x∈V.take j:=λx F=>by rw[<- ey];show bZ.mpr F
 have a1:∀x∈X,∀w,Y[0]?=some w->f w<=f x:=λx F w J=>by
  have h8:w=y:=by rw[<- cq,ey,cm '!',<- al] at J;show (bK J).symm
  have:=bb x (mX x F);rw[h8];lia
 have a2:∀x∈Y,∀w,X[X.size - 1]?=some w->f x<=f w:=λx F w J=>by
  have h8:w=z:=by
   have ul:U.length=U'.length+1:=by rw[<- ab];simp
   rw[<- cq,ex,gW,bd,show k+(U.length - k - 1)=U'.length by lia,<- ab] at J;simpa using J.symm
  have:=bc x (mY x F);rw[h8];lia
 have fin:∀ (out:Array Keyed),zcQ '1' (X.toList++Y.toList) out.toList->'Ʒ'.Perm (U++V)/\'Ʒ'.Pairwise '1'/\(out.toList.zipIdx.foldl (λa (p:Keyed×Nat)=>a.setIfInBounds (P.length+k+p.2) p.1) ',').toList=P++('Ʒ'++S):=λout tl=>by
  rw[ex,ey] at tl;have a3:out.toList.length=U.length - k+j:=by rw[tl.1.length_eq];simp;lia
  show#[?_,?_,?_];have h9:'Ʒ'.Perm (U.take k++((U.drop k++V.take j)++V.drop j)):=(tl.1.append_right _).append_left _;have bk:U.take k++((U.drop k++V.take j)++V.drop j)=U++V:=by rw[aD (U.drop k),aW,<- aD,aW]
  rw[bk] at h9;show h9;have Z:=br.mp (by rw[aW];show su:(U.take k++U.drop k).Pairwise '1');have pv:=br.mp (by rw[aW];show sv:(V.take j++V.drop j).Pairwise '1');show br.mpr #[Z.1,br.mpr #[tl.2,pv.2.1,λa h1 b h2=>?_],λa h1 b h2=>?_];rcases aC.mp (tl.1.mem_iff.mp h1) with h1 | h1;have q1:=hU a (bN h1);have q2:=a0 b h2;change f a<=f b;lia;show pv.2.2 a h1 b h2;have q1:=as a h1;change f a<=f b;rcases aC.mp h2 with h2 | h2;rcases aC.mp (tl.1.mem_iff.mp h2) with h2 | h2;show Z.2.2 a h1 b h2;have q2:=hV b (bG h2);lia;have q2:=hV b (bN h2);lia;have h9:=zlb (P.length+k) out.toList 0 ',' '!';rw[iF] at h9;rw[h9,B];have q1:P++(U++(V++S))=(P++U.take k)++(U.drop k++(V++S)):=by rw[aD,<- aD (U.take k),aW]
  have q2:P++(U++(V++S))=(P++(U++V.take j))++(V.drop j++S):=by rw[aD,aD,<- aD (V.take j),aW]
  have q3:List.take (P.length+k) (P++(U++(V++S)))=P++U.take k:=by rw[q1];show gK '¶'
  have q4:List.drop (P.length+k+out.toList.length) (P++(U++(V++S)))=V.drop j++S:=by rw[q2,a3];show List.drop_left' '¶'
  rw[q3,q4];simp
 have a4:∀x∈X,x∈L0:=λx F=>an x (bN (mX x F));have a5:∀x∈Y,x∈L0:=λx F=>inV x (bG (mY x F));have sX:X.toList.Pairwise '1':=by rw[ex];show su.sublist (eC _ _)
 have sY:Y.toList.Pairwise '1':=by rw[ey];show sv.sublist (cV _ _)
 by_cases e3:U.length - k<=j
 case' pos=>
  rw[if_pos e3];show wpS_bind (zk1 R a4 a5 sX sY '!' '!' a1 a2 ac λout I lk tl=>?_)
 case' neg=>
  rw[if_neg e3];show wpS_bind (zk0 R a4 a5 sX sY '!' '!' a1 a2 ac λout I lk tl=>?_)
 all_goals
  obtain⟨r1,r2,r3⟩:=fin out tl;have bl:arrOf I=arrOf st:=lk.arr;have a7:failedOf I=none:=lk.fail.trans ad;show wpS_bind (eA (wpS_bind 'í'));have h9:=h (SortSt.mk' (kindOf I) (out.toList.zipIdx.foldl (λa (p:Keyed×Nat)=>a.setIfInBounds (P.length+k+p.2) p.1) (arrOf I)) (pendingOf I) (gallopOf I) (failedOf I)) _ (lk.kind.trans hk) a7 (by rw[<- r3,<- bl]) r1 r2 lk.pend;show wpS_pure ?_;change Q (failedOf I).isNone _;rw[a7];show h9
end
def zbM:Nat->List '¤'->List (Nat×Nat×Nat)
 | _,[]=>[]
 | s,(l,p)::r=>(s,l.length,p)::zbM (s+l.length) r
def zN (q:List '¤'):List Keyed:=q.flatMap '%'
def zG (r:List Keyed×Nat)(v:List '¤'):zN (r::v)=r.1++zN v:=by simp[zN]
def yw (u v:List '¤'):zN (u++v)=zN u++zN v:=by simp[zN]
theorem uc:∀ (u v:List '¤') (s:Nat),zbM s (u++v)=zbM s u++zbM (s+(zN u).length) v
 | [],v,s=>by simp[zbM,zN]
 | (l,p)::u,v,s=>by rw[cR,zbM,zbM,uc u v,zG,ay,fD];rfl
theorem zbN:∀ (u:List '¤') (s:Nat),(zbM s u).length=u.length
 | [],_=>rfl
 | (l,p)::u,s=>by rw[zbM,aS,zbN u,aS]
structure SI (κ:SortKind)(f:Keyed->Int)(T:List Keyed)(rs:List (List Keyed×Nat))(zu:List Keyed)(st:SortSt):Prop where
 kind:kindOf st=κ
 fail:failedOf st=none
 arr:(arrOf st).toList=zN rs++zu
 perm:(zN rs++zu).Perm T
 pend:pendingOf st=(zbM 0 rs).toArray
 ne:∀r∈rs,r.1≠[]
 up:∀r∈rs,r.1.Pairwise (leF f)
section
variable {M:Model}{A:Ae}{E:AA}{s:AZ}{κ:SortKind}{T:List Keyed}{f:Keyed->Int}
def SI.size {q:List '¤'}{zu:List Keyed}{st:SortSt}(h:SI κ f T q zu st):','.size=T.length:=by rw[<- aM,h.arr,h.perm.length_eq]
def SI.len {q:List '¤'}{zu:List Keyed}{st:SortSt}(h:SI κ f T q zu st):(zN q).length+zu.length=T.length:=by rw[<- h.perm.length_eq,ay]
def SI.mem {q:List '¤'}{zu:List Keyed}{st:SortSt}(h:SI κ f T q zu st):∀x∈arrOf st,x∈T:=λx B=>h.perm.mem_iff.mp (by rw[<- h.arr];show bZ.mpr B)
def SI.psz {q:List '¤'}{zu:List Keyed}{st:SortSt}(h:SI κ f T q zu st):'è'.size=q.length:=by rw[h.pend,aV,zbN]
def t_mg (R:zbz M A s κ T f){B:List '¤'}{zu:List Keyed}{st:SortSt}(h:SI κ f T B zu st){i:Nat}(hi:i+1<B.length){Q:Bool->SortSt->Prop}(k:∀O I,SI κ f T O zu I->O.length+1=B.length->Q true I):wpS M A E s (mergeAt' i) Q st:=by
 obtain⟨u,U,p1,V,p2,v,rfl,hu⟩:∃u U p1 V p2 v,B=u++(U,p1)::(V,p2)::v/\i=u.length:=by show#[B.take i,B[i].1,B[i].2,B[i+1].1,B[i+1].2,B.drop (i+2),?_,by simp;lia];have e1:B.drop i=B[i]::B.drop '(':=cO '!';have e2:B.drop '('=B[i+1]::B.drop (i+2):=cO hi;change B=B.take i++B[i]::B[i+1]::B.drop (i+2);rw[<- e2,<- e1,aW]
 have J:=h.arr;have Y:=h.pend;rw[yw,zG,zG,aD,aD,aD] at J;rw[uc,zbM,zbM,gY] at Y;show zkZ R h.kind h.fail h.mem J Y (by rw[zbN];show hu) (h.ne (U,p1) '$') (h.ne (V,p2) '$') (h.up (U,p1) '$') (h.up (V,p2) '$') λI C c1 c2 c3 Z c5 c6=>k (u++(C,p1)::v) I #[c1,c2,?_,?_,?_,?_,?_] '¶';rw[yw,zG,aD,aD];show c3;show List.Perm.trans ?_ h.perm;rw[yw,yw,zG,zG,zG];show List.Perm.append_right _ (fQ _ ?_);rw[<- aD];show Z.append_right _;rw[c6,uc,zbM,gY,Z.length_eq,ay,fD];intro r F;rcases aC.mp F with F | F;show h.ne r (by simp[F]);rcases au.mp F with rfl | F;intro z;have z:C=[]:=z;have q:=Z.length_eq;rw[z,ay] at q;have n1:U≠[]:=h.ne (U,p1) '$';have q:0=U.length+V.length:=q;show n1 (a9 '!');show h.ne r (by simp[F]);intro r F;rcases aC.mp F with F | F;show h.up r (by simp[F]);rcases au.mp F with rfl | F;show c5;show h.up r (by simp[F])
def zm1 {a:Array Keyed}{lo n:Nat}(h:Seg f a lo (lo+n))(I:lo+n<=a.size):((a.toList.drop lo).take n).Pairwise '1':=by
 rw[ce];intro i j hi q B;have F:j<n:=by simp at q;lia
 have:=h (lo+i) (lo+j) '!' '!' '!';unfold kA at this;rw[aT '!',aT '!'] at this;simpa [io,List.getElem_drop] using this
def SI.next {F:List '¤'}{zu:List Keyed}{st B:SortSt}(h:SI κ f T F zu st)(l:Lk (zN F).length st B){n:Nat}(hn:1<=n)(hz:(zN F).length+n<=T.length)(U:Seg f 'v' (zN F).length ((zN F).length+n)) :
  ∃L I,SI κ f T F (L++I) B/\L.length=n/\L.Pairwise '1'/\L≠[]:=by
 have hs:=h.size;have Y:=l.size
 have Z:'v'.toList.take (zN F).length=zN F:=by
  have q:'v'.toList.take (zN F).length=','.toList.take (zN F).length:=by
   show et λi=>?_;rw[List.getElem?_take,List.getElem?_take];split
   ·rename_i hi;have:=l.low i hi;rw[cq,cq];show this
   rfl
  rw[q,h.arr,gK rfl]
 have O:'v'.toList=zN F++(('v'.toList.drop (zN F).length).take n++'v'.toList.drop ((zN F).length+n)):=by have q:=aW (zN F).length 'v'.toList;rw[Z] at q;rw[ziF];show q.symm
 have J:(('v'.toList.drop (zN F).length).take n).length=n:=by simp;lia
 show#[_,_,#[l.kind.trans h.kind,l.fail.trans h.fail,O,?_,l.pend.trans h.pend,h.ne,h.up],J,zm1 U '!',λz=>by rw[z] at J;simp at J;lia];rw[<- O];have q:=l.perm.toList;show q.trans ?_;rw[h.arr];show h.perm
def SI.push {B:List '¤'}{L zu:List Keyed}{st:SortSt}(h:SI κ f T B (L++zu) st)(F:L≠[])(hs:L.Pairwise '1'){lo n:Nat}(h1:(zN B).length=lo)(h2:L.length=n) :
  SI κ f T (B++[(L,0)]) zu (setPending st ('è'.push (lo,n,0))):=by
 have e:zN (B++[(L,0)])++zu=zN B++(L++zu):=by rw[yw,zG];simp[zN]
 show#[h.kind,h.fail,by rw[e];show h.arr,by rw[e];show h.perm,?_,λr q=>?_,λr q=>?_];change 'è'.push (lo,n,0)=_;rw[h.pend,uc,zbM,zbM,gY,h1,h2];simp;rcases aC.mp q with q | q;show h.ne r q;rw[ao.mp q];show F;rcases aC.mp q with q | q;show h.up r q;rw[ao.mp q];show hs
def SI.pow {I:List '¤'}{zu:List Keyed}{st:SortSt}(h:SI κ f T I zu st)(Y:1<=I.length)(g:Nat×Nat×Nat->Nat×Nat×Nat)(J:Nat)(Z:∀a b c,g (a,b,c)=(a,b,J)) :
  ∃O,SI κ f T O zu (setPending st ('è'.modify ('è'.size - 1) g)):=by
 obtain⟨u,U,p,rfl⟩:∃u U p,I=u++[(U,p)]:=by
  rcases List.eq_nil_or_concat I with rfl | ⟨u,r,rfl⟩;simp at Y;show#[u,r.1,r.2,'4']
 have F:∀q,zN (u++[(U,q)])=zN u++U:=λq=>by rw[yw,zG];simp[zN]
 show#[u++[(U,J)],h.kind,h.fail,by rw[F,<- F p];show h.arr,by rw[F,<- F p];show h.perm,?_,λr B=>?_,λr B=>?_];change 'è'.modify ('è'.size - 1) g=_;rw[h.psz,h.pend,uc,uc,zbM,zbM,zbM,zbM,gY];apply fX.mp;rw[Array.toList_modify];have e:(u++[(U,p)]).length - 1=(zbM 0 u).length:=by rw[zbN];simp
 rw[e];change List.modify (zbM 0 u++[((zN u).length,U.length,p)]) (zbM 0 u).length g=zbM 0 u++[((zN u).length,U.length,J)];rw[List.modify_eq_take_cons_drop '$'];simp[Z];rcases aC.mp B with B | B;show h.ne r (by simp[B]);rw[ao.mp B];show h.ne (U,p) '$';rcases aC.mp B with B | B;show h.up r (by simp[B]);rw[ao.mp B];show h.up (U,p) '$'
def zh4 {st:SortSt}(R:zbz M A s κ ','.toList f)(hk:'×')(hfl:failedOf st=none)(hp:pendingOf st = #v[])(h2:1<=','.size){Q:Unit->SortSt->Prop}
  (h:∀st',failedOf st'=none->(arrOf st').toList.Perm ','.toList->(arrOf st').toList.Pairwise '1'->Q () st'):wpS M A E s sortRuns' Q st:=by
 rw[sortRuns'_eq];show wpS_bind 'í';dsimp only;have S0:SI κ f ','.toList [] ','.toList st:=#[hk,hfl,A5,fP _,hp,λ_ hr=>by simp at hr,λ_ hr=>by simp at hr];have hT:','.toList.length=','.size:=aM;generalize ','.toList=T at R h S0 hT;generalize ','.size=N at h2 hT ⊢;generalize minRun' N N 0=mr;clear hk hfl hp;show wpS_bind (wpS_mono (bV (I:=λx c st'=>∃rs zu,c=(none,(zN rs).length)/\SI κ f T rs zu st'/\x<=(zN rs).length) (Q:=λc st'=>∃rs lo,c=(none,lo)/\SI κ f T rs [] st') ?_ ?_ #[[],T,A5,S0,aP _]) ?_)
 ·rintro x c st1 _ hx ⟨rs,zu,rfl,S1,hx2⟩;have hz1:=S1.size;have hl1:=S1.len;dsimp only;by_cases e1:(zN rs).length ≥ N;rw[if_pos e1];have:zu=[]:=a9 '!';subst this;show wpS_pure #[rs,_,A5,S1];rw[if_neg e1];show wpS_bind (zh2 R S1.kind S1.mem '!' '!' λm st2 l2 m1 m2 sg=>?_);dsimp only;have hz2:=l2.size;by_cases e2:m<mr
  case' pos=>
   rw[if_pos e2];show wpS_bind 'ō';show wpS_bind (zfe R (n:=min (N - (zN rs).length) mr) (l2.kind.trans S1.kind) (l2.mem S1.mem) '!' '!' '!' sg λst3 l3 sg3=>?_);rw[if_neg '$'];obtain⟨L,rest',S3,hL,sL,nL⟩:=S1.next (l2.trans l3) (n:=min (N - (zN rs).length) mr) '!' '!' sg3;generalize hn:min (N - (zN rs).length) mr=n at hL ⊢;have hn1:1<=n:=by lia
  case' neg=>
   rw[if_neg e2];obtain⟨L,rest',S3,hL,sL,nL⟩:=S1.next l2 (n:=m) '!' '!' sg;generalize hn:m=n at hL ⊢;have hn1:1<=n:=by lia
   generalize st2=st3 at S3 ⊢
  all_goals
   show wpS_bind 'í';rcases List.eq_nil_or_concat rs with hrs | ⟨u,r,hrs⟩;have hb:(pendingOf st3).back?=none:=by rw[S3.pend,hrs];rfl
   rw[hb];dsimp only;have S4:=S3.push nL sL A5 hL;show wpS_bind (eA (wpS_pure #[_,rest',by rw[yw,ay,zG,ay,hL];rfl,S4,by rw[yw,ay,zG,ay,hL];lia]))
   obtain⟨⟨b1,b2,b3⟩,hb⟩:∃b,(pendingOf st3).back?=some b:=by
    rw[S3.pend,hrs,List.concat_eq_append,uc];cases r;show#[_,by simp[zbM];rfl]
   rw[hb];dsimp only;generalize power' N (2 * b1+b2) (2 * b1+b2+b2+n) N=pw;show wpS_bind (wpS_mono (bV (I:=λx c st'=>∃rs',c=(none,())/\SI κ f T rs' (L++rest') st'/\1<=rs'.length) (Q:=λc st'=>∃rs',c=(none,())/\SI κ f T rs' (L++rest') st'/\1<=rs'.length) ?_ (λc st' q=>q) #[rs,A5,S3,by rw[hrs];simp]) ?_);rintro x2 c st4 _ _ ⟨rs',rfl,S4,n4⟩;show wpS_bind 'í';by_cases e3:(pendingOf st4).size > 1;rw[if_pos e3];obtain⟨⟨c1,c2,c3⟩,hc⟩:∃b,(pendingOf st4)[(pendingOf st4).size - 2]?=some b:=#[_,aT '!'];rw[hc];dsimp only;by_cases e4:c3<=pw;rw[if_pos e4];show wpS_pure #[rs',A5,S4,n4];rw[if_neg e4];rw[S4.psz] at e3;show wpS_bind (t_mg R S4 (by rw[S4.psz];lia) λrs2 st5 S5 h5=>?_);show wpS_pure #[rs2,A5,S5,by lia];rw[if_neg e3];show wpS_pure #[rs',A5,S4,n4];rintro c st4 ⟨rs',rfl,S4,n4⟩;dsimp only;show wpS_bind (eA ?_);obtain⟨rs2,S5⟩:=S4.pow n4 (λx=>match x with | (st,len,_)=>(st,len,pw)) pw (λa b c=>rfl);have hl3:=S3.len;have hl5:=S5.len;have S6:=S5.push nL sL (lo:=(zN rs).length) '!' hL;show wpS_bind (eA (wpS_pure #[_,rest',by rw[yw,ay,zG,ay,hL,show (zN rs2).length=(zN rs).length by lia];rfl,S6,by rw[yw,ay,zG,ay,hL];lia]))
 rintro c st1 ⟨rs,zu,rfl,S1,hx2⟩;have hl1:=S1.len;have:zu=[]:=a9 '!';subst this;show#[rs,_,A5,S1]
 ·rintro c st1 ⟨rs,lo,rfl,S1⟩;dsimp only;have hl1:=S1.len
  have hlen:rs.length<=(zN rs).length:=by
   have:∀ (rs:List '¤'),(∀r∈rs,r.1≠[])->rs.length<=(zN rs).length:=λrs=>by
    induction rs with
    | nil=>intro _;show aP _
    | cons r v ih=>
     intro hn;have h1:=ih λr hr=>hn r (ak _ hr);have h2:=eP.mpr (hn r aq);rw[zG,ay,aS];lia
   show this rs S1.ne
  have hne:1<=rs.length:=by
   cases rs with
   | nil=>simp[zN] at hl1;lia
   | cons r v=>simp
  rw[List.length_nil,iF] at hl1;show wpS_bind (wpS_mono (bV (I:=λx c st'=>∃rs,c=(none,())/\SI κ f T rs [] st'/\1<=rs.length/\(rs.length<=1\/rs.length+x<=N)) (Q:=λc st'=>∃rs,c=(none,())/\SI κ f T rs [] st'/\rs.length=1) ?_ ?_ #[rs,A5,S1,hne,.inr '!']) ?_)
  ·rintro x c st2 _ hx ⟨rs,rfl,S2,n1,n2⟩;show wpS_bind 'í';by_cases e1:(pendingOf st2).size<=1;rw[if_pos e1];show wpS_pure #[rs,A5,S2,by rw[S2.psz] at e1;lia];rw[if_neg e1];rw[S2.psz] at e1;show wpS_bind (t_mg R S2 ?_ λrs' st3 S3 h3=>?_)
   ·rw[S2.psz];have le1:∀ (b:Bool),(if b=true then rs.length - 2 - 1 else rs.length - 2)+1<rs.length:=λb=>by cases b <;> simp <;> lia
    show le1 _
   show wpS_pure #[rs',A5,S3,by lia,by lia]
  rintro c st2 ⟨rs,rfl,S2,n1,n2⟩;show#[rs,A5,S2,by lia];rintro c st2 ⟨rs,rfl,S2,n1⟩;obtain⟨r,rfl⟩:∃r,rs=[r]:=List.length_eq_one_iff.mp n1;have ha:=S2.arr;have hq:=S2.perm;rw[bT] at ha hq;rw[<- ha] at hq;rw[zG] at ha;show wpS_pure (h st2 S2.fail hq (by rw[ha];simpa [zN] using S2.up r '$'))
end
open PySem.Calls PySem.W
def zdP {α O:Type}(g:α->O):∀ {out m:List O},out.Perm m->∀l:List α,m=l.map g->∃l':List α,l'.Perm l/\out=l'.map g:=by
 intro out m h
 induction h with
 | nil=>intro l e;show#[l,.refl _,e]
 | cons x h U=>
  intro l e
  match l,e with
  | a::l,e=>
   obtain⟨B,F⟩:=gn e;obtain⟨l',p,q⟩:=U l F;show#[a::l',.cons a p,by rw[az,<- q,B]]
 | swap x y l0=>
  intro l e
  match l,e with
  | a::b::l,e=>
   obtain⟨B,F⟩:=gn e;obtain⟨Y,Z⟩:=gn F;show#[b::a::l,.swap _ _ _,by rw[az,az,B,Y,Z]]
 | trans h1 h2 I J=>
  intro l e;obtain⟨l2,p2,q2⟩:=J l e;obtain⟨l1,p1,q1⟩:=I l2 q2;show#[l1,p1.trans p2,q1]
def Ask (prog:Aa)(w:Ab)(A:Ae)(κ:SortKind)(vs:AN)(BA:Array Nat->Prop)(s:AZ):Prop:=
 ∃f:Nat->Int,zbe vs.length f/\(∀i j,i<vs.length->j<vs.length->vs.getD i .none=vs.getD j .none->i=j)/\
  (∀i j,i<vs.length->j<vs.length->∀ (Q:Bool->AZ->Prop) (E:AA),Q (decide (f i<f j)) s->Ag prog w A (keyLt' κ (vs.getD i .none) (vs.getD j .none)) Q E s)/\∀p:Array Nat,Up vs.length f p vs.length->BA p
section
variable {prog:Aa}{w:Ab}{A:Ae}{E:AA}{s:AZ}{h₀:Heap}{L a:Addr}{m:AI}{news:AB}{vs:AN}{κ:SortKind}
def zqJ(h2:2<=vs.length)(h:Ask prog w A κ vs BA s) :
  Ag prog w A ((sortRuns').run (SortSt.mk' κ 'ó' #v[] 7 none)) (λr s'=>s'=s/\∃p:Array Nat,p.size=vs.length/\(arrOf r.2).map 'Ã'=List.toArray (p.toList.map λi=>vs.getD i .none)/\failedOf r.2=none/\BA p) E s:=by
 obtain⟨f,hu,J,hc,hG⟩:=h
 have O:'ó'.toList=(List.range vs.length).map λi=>(vs.getD i .none,vs.getD i .none):=by
  show et λi=>?_;by_cases hi:i<vs.length;simp[hi];simp[hi,Nat.le_of_not_lt hi]
 let F:Keyed->Int:=λx=>f (Classical.epsilon λi=>i<vs.length/\vs.getD i .none=x.1)
 have U:∀i,i<vs.length->F (vs.getD i .none,vs.getD i .none)=f i:=λi hi=>by have q:'Ǟ'<vs.length/\vs.getD 'Ǟ' .none=vs.getD i .none:=Classical.epsilon_spec (p:=λj=>j<vs.length/\vs.getD j .none=vs.getD i .none) #[i,hi,A5];change f 'Ǟ'=f i;rw[J _ _ q.1 hi q.2]
 show zh4 (E:=E) (st:=SortSt.mk' κ 'ó' #v[] 7 none) (f:=F) (κ:=κ) (Q:=λ_ B=>∃p:Array Nat,p.size=vs.length/\'v'.map 'Ã'=List.toArray (p.toList.map λi=>vs.getD i .none)/\failedOf B=none/\BA p) ?_ A5 A5 A5 ?_ ?_;intro x y Y Z Q E hq;have Y:x∈'ó'.toList:=Y;have Z:y∈'ó'.toList:=Z;rw[O] at Y Z;obtain⟨i,hi,rfl⟩:=aJ.mp Y;obtain⟨j,hj,rfl⟩:=aJ.mp Z;have hi:=aL.mp hi;have hj:=aL.mp hj;rw[U i hi,U j hj] at hq;show hc i j hi hj Q E hq;change 1<='ó'.size;simp;lia;intro B h1 h3 h4;have h3:'v'.toList.Perm 'ó'.toList:=h3;obtain⟨p,hp,he⟩:=zdP _ h3 _ O;have I:∀i∈p,i<vs.length:=λi hi=>aL.mp (hp.mem_iff.mp hi);have ab:p.length=vs.length:=by rw[hp.length_eq,aZ]
 show#[p.toArray,by simpa using ab,?_,h1,hG _ #[?_,aj _,λk hk=>?_]];apply fX.mp;rw[iA,he,aK];rfl;change p.toArray.Perm (List.range vs.length).toArray;show List.Perm.toArray hp;have ac:p.Nodup:=hp.nodup_iff.mpr fW;rw[he] at h4;have h5:=ce.mp h4 k (k+1) '¶' '¶' '!';rw[di,di] at h5;have g1:p.toArray.getD k 0=p[k]:=by simp[Array.getD,show k<p.length by lia]
 have g2:p.toArray.getD (k+1) 0=p[k+1]:=by simp[Array.getD,show k+1<p.length by lia]
 have h5:F (vs.getD p[k] .none,vs.getD p[k] .none)<=F (vs.getD p[k+1] .none,vs.getD p[k+1] .none):=h5;rw[U _ (I _ (bj _)),U _ (I _ (bj _))] at h5;unfold key;rw[g1,g2];have h6:f p[k]≠f p[k+1]:=λz=>by have:=hu _ _ (I _ (bj _)) (I _ (bj _)) z;have:=(dh ac).mp this;lia
 lia
def zd7 {n:Nat}{P:PySem.Fin->AZ->Prop}(F:Fr h₀ L s.heap m)(N:News h₀ L s.heap news)(ho:s.heap.get? a=some 'ǉ')(haL:a≠L)(ha0:h₀.get? a=none)(hna:∀p∈news,p.1≠a)
  (h2:2<=vs.length) (hz:vs.length<=sizeLine)
  (h:∀e1 h',Fr h₀ L h' m->News h₀ L h' ((a,seqObj "list" #v[] e1)::news)->
   Ag prog w A (keyKind' vs.toArray) (λκ s'=>Ask prog w A κ vs (λp=>KasFin h₀ L m a e1 'ƪ' (λs3=>P (.done (.ret .none)) s3) s') s') '&' '5') :
  Ag prog w A (Builtin.«list.sort» #['r',[]]) P E s:=by
 have s1:=bn s.heap a (Obj.mapSeq λ_=>(#v[]:AK));obtain⟨e1,ho1⟩:∃e1,(s.heap.update a (Obj.mapSeq λ_=>(#v[]:AK))).get? a=some (seqObj "list" #v[] e1):=#[_,get?_update_seq ho λ_=>#v[]];have keep2:∀b x,(s.heap.update a (Obj.mapSeq λ_=>(#v[]:AK))).get? b=some x->('Ə'.push 'Ď').get? b=some x:=λb x e=>ah _ (ah _ e)
 have ask:=h e1 _ (((kas_fr F s1 haL ha0).push (seqObj "tuple" vs.toArray 0)).push 'Ď') (λp hp=>by
  rcases au.mp hp with rfl | hp;show#[keep2 _ _ ho1,haL,ha0];show (kas_news N s1 hna).grown keep2 p hp)
 rw[list_sort_plain];show aa (iD ho A5 (aa (gm ho A5 ?_ (by rw[aV];show hz) (aP _))));show aa (seqEpoch_at ho1 A5 (aa (wpAny_newTuple ?_ (by change vs.length<=_;show hz))));show aa (ir (bP ?_) (aP _));change Ag prog w A _ P E { s with heap:='Ə'.push 'Ď' };dsimp only;have hn2:¬ vs.toArray.size<2:=by rw[aV];lia
 rw[if_neg hn2,if_neg hn2];show aa (aE ask (λκ s0 hk=>?_) λ_ _ x=>x.elim);show aa (aE (zqJ h2 hk) ?_ λ_ _ e=>e);rintro⟨⟨⟩,st'⟩ s' ⟨rfl,p,hp,hout,hf,news',g,F',N',U,k⟩;dsimp only;obtain⟨pre,post,e0,hg,x1,x2⟩:=U.split;rw[e0] at N';have na:=N' (a,seqObj "list" #v[] e1) (a8 _ (.head _));have hsz:(List.toArray 'ƪ').size=vs.length:=by rw[aV,ae,aM,hp]
 rw[hout];have s2:=bn s'.heap a (Obj.mapSeq λ_=>List.toArray 'ƪ');obtain⟨c2,hc2⟩:∃c2,(s'.heap.update a (Obj.mapSeq λ_=>List.toArray (p.toList.map λi=>vs.getD i Value.none))).get? a=some (seqObj "list" (List.toArray (p.toList.map λi=>vs.getD i Value.none)) c2):=#[_,get?_update_seq na.1 λ_=>List.toArray 'ƪ'];show aa (seqEpoch_at na.1 A5 ?_);show aa (gm na.1 A5 ?_ (aP _) (aw (Nat.le_of_eq hsz) (Nat.le_succ_of_le hz)));rw[hf];simp only[ii,aN,if_false];show af (k _ c2 (kas_fr F' s2 na.2.1 na.2.2) ?_);rw[hg];show news_set N' x1 x2 s2 hc2
open PySem.W PySem.Calls
variable {P:Aa}
def zhK {A:Around}{E:Value->Shared->Prop}{s:Shared}{L BB:Addr}{m0:Str->Option Value}{vs:List Value}{n:Nat}{ft:Bool}{A9:List Dt}{Q:Value->Shared->Prop}(hu:A.units+60<cLine)(ab:s.heap.Ns L m0)(ad:BB≠L)(ho:s.heap.get? BB=some 'ǉ')
  (hv:Paired (znp s.heap) vs A9) (hz:A9.length<=sizeLine) (hr:RowsOk ft A9)
  (h:∀h' c p,List.Perm p 'ő'->((p.map λi=>A9.getD i .non).Pairwise λa b=>HT.lexLt (enD a) (enD b)=true)->(∀b o,b≠L->b≠BB->s.heap.get? b=some o->h'.get? b=some o)->h'.Ns L m0->
   h'.get? BB=some (seqObj "list" (p.map λi=>vs.getD i .none).toArray c)->Q .none '5') :
  wpAny 'Ò' A (call (.builtin "list.sort") [.ref BB]) Q E s:=by
 have a5:=zba hv;by_cases h2:2<=A9.length
 ·have B:∀p∈(u9 s.heap L).filter 'Ŷ',s.heap.get? p.1=some p.2/\p.1≠L/\p.1≠BB:=λp hp=>by
   have h1:=bJ.mp hp;have h2:=yp.mp (show (p.1,p.2)∈u9 s.heap L from h1.1)
   simp_all
  have J:∀b,'Í'.get? b=none:=λb=>by
   cases e:'Í'.get? b with
   | none=>rfl
   | some o'=>
    have:=av e;simp at this
  refine aX slot_list_sort #[_,ho,A5] entry_list_sort ?_ (args_list_sort _);refine zd7 (h₀:='Í') (L:=L) (m:=m0) (news:=(u9 s.heap L).filter 'Ŷ') #[ab,λb o e=>?_,aP _] (λp hp=>?_) ho ad (J _) (λp hp=>(B p hp).2.2) '!' '!' λe1 h' F N=>?_
  ·simp_all
  ·show#[(B p hp).1,(B p hp).2.1,J _]
  ·have kp:∀b o,b≠L->b≠BB->s.heap.get? b=some o->h'.get? b=some o:=λb o hb hD e=>(N (b,o) 'ƭ').1;have O:Paired (znp h') vs A9:=Paired.mapP hv λv st r=>r.keep ab ho kp;obtain⟨fs,k1,k2,k3⟩:=zeI O (hr.first h2);refine W.kat_kind (T:=if ft then .type "tuple" else .type "int") (s:='5') k1 '!' (λf hf=>?_) (by cases ft <;> decide) ?_
   ·obtain⟨t1,t2⟩:=k3 f hf;intro A' Q' E' s' a7 hq
    cases ft with
    | false=>
     obtain⟨a,t,rfl⟩:=t1 A5;show dD (typeIs_int s' a t) hq
    | true=>
     obtain⟨a,o,rfl,g,hc⟩:=t2 A5;show dD (T := "tuple") #[o,a7 _ _ g,hc] hq
   ·have hu:zbe A9.length (xD (A9.map enD)):=λi j hi I e=>by
     have e1:=za2 (A9:=A9.map enD) (i:=i) (j:=j) (by rwa[ae]) (by rwa[ae]);have e2:=za2 (A9:=A9.map enD) (i:=j) (j:=i) (by rwa[ae]) (by rwa[ae]);rw[e,aG (iu _)] at e1;rw[e,aG (iu _)] at e2;have gi:(A9.map enD).getD i []=enD A9[i]:=by simp[hi]
     have gj:(A9.map enD).getD j []=enD A9[j]:=by simp[I]
     rw[gi,gj] at e1 e2;rcases za3 (a:=enD A9[i]) (b:=enD A9[j]) with h | h | h
     ·show (dh hr.nd).mp (zrs (hr.cmp _ (bj hi) _ (bj I)) h)
     all_goals grind
    have Y:vs.length=A9.length:=by lia
    have ag:∀i j,i<A9.length->j<A9.length->zeh (xD (A9.map enD)) i j=HT.lexLt (enD (A9.getD i .non)) (enD (A9.getD j .non)):=λi j hi I=>by have:=za2 (A9:=A9.map enD) (i:=i) (j:=j) (by rwa[ae]) (by rwa[ae]);rw[show zeh (xD (A9.map enD)) i j=decide (xD (A9.map enD) i<xD (A9.map enD) j) from rfl,this];simp[hi,I]
    refine#[xD (A9.map enD),by rw[Y];show hu,λi j hi I e=>?_,λi j hi I C E hC=>?_,λp Z=>?_]
    ·rw[Y] at hi I;obtain⟨a1,b1,c1,o1,al,r1⟩:=yP O .none .non hi;obtain⟨a2,b2,c2,o2,an,r2⟩:=yP O .none .non I;rw[b1,b2] at e;cases e;have es:A9.getD i .non=A9.getD j .non:=(zly P w).inj (h:=h') (a:=a1) #[c1,o1,al,r1] #[c2,o2,an,r2];have gi:A9.getD i .non=A9[i]:=by simp[hi]
     have gj:A9.getD j .non=A9[j]:=by simp[I]
     rw[gi,gj] at es;show (dh hr.nd).mp es
    ·rw[Y] at hi I;obtain⟨a1,b1,c1,o1,al,r1⟩:=yP O .none .non hi;obtain⟨a2,b2,c2,o2,an,r2⟩:=yP O .none .non I;have mi:A9.getD i .non∈A9:=by simp[hi]
     have mj:A9.getD j .non∈A9:=by simp[I]
     have ac:C (HT.lexLt (enD (A9.getD i .non)) (enD (A9.getD j .non))) '5':=by rw[<- ag i j hi I];show hC
     have U:=hr.cmp _ mi _ mj;obtain⟨d1,l1,e1,f1⟩:=hr.first h2 _ mi;obtain⟨d2,l2,e2,f2⟩:=hr.first h2 _ mj;change wpAny _ _ (keyLt' _ (vs.getD i .none) (vs.getD j .none)) C _ _;rw[b1,b2];rw[e1] at c1 o1 r1 U ac;rw[e2] at c2 o2 r2 U ac
     cases r1 with
     | @tuple _ bs as n1 _ _ g1 bt bb bc=>
     cases r2 with
     | @tuple _ bx a0 n2 _ _ g2 b0 bd bk=>
     refine W.kat_lt (s:='5') g1 bb g2 bd ?_;have i1:=xR o1;have i2:=xR o2;have j1:=xp.mp (show Dt.hks (d1::l1)=true from c1);have j2:=xp.mp (show Dt.hks (d2::l2)=true from c2);have:=zgV (P:=P) (w:=w) (A:=A.in1) (s:='5') (Q:=C) (b:=((if ft then Value.type "tuple" else .type "int") != Value.type "tuple")) (by show A.units+1+40<cLine;lia) 0 (λd hd=>#[j1 d hd,i1 d hd]) (λd hd=>#[j2 d hd,i2 d hd]) (show Dt.cmps (d1::l1) (d2::l2)=true from U) bc bk (λhb _ d l' e=>?_) ac
     ·rw[show decide (as.size<a0.size)=decide (as.toList.length<a0.toList.length) from by simp];show this
     ·cases e;rw[f1]
      cases ft with
      | false=>rfl
      | true=>show absurd hb (by decide)
    ·rw[Y] at Z
     have a3:p.toList.Perm 'ő':=by have:=Z.perm.toList;simpa using this
     have a4:∀i∈p.toList,i<A9.length:=λi hi=>aL.mp ((a3.mem_iff).mp hi);refine W.KasFin.intro F N (W.UpdF.head λq' bl=>(B q' bl).2.2) λbm c F'' N''=>?_;refine#[_,A5,h bm c p.toList a3 ?_ (λb o hb hD e=>(N'' (b,o) 'ƭ').1) F''.ns (N'' (BB,_) aq).1];have b3:p.size=A9.length:=xS Z.perm;rw[ce];intro i j hi I bo;rw[ae,aM] at hi I;have hk:=Z.lt_of bo '!';rw[di,di,eF,eF];have e1:p.getD i 0=p[i]:=by simp[hi]
     have e2:p.getD j 0=p[j]:=by simp[I]
     unfold key at hk;rw[e1,e2] at hk;rw[<- ag _ _ (a4 _ '$') (a4 _ '$')];show aA hk
 ·refine aX slot_list_sort #[_,ho,A5] entry_list_sort ?_ (args_list_sort _);refine uO ho '!' λh' c kp hD=>#[_,A5,?_];refine h h' c 'ő' (fP _) ?_ (λb o _ hb e=>kp b o hb e) ?_ ?_
  ·match A9,h2 with
   | [],_=>show .nil
   | [_],_=>show eX _ _
   | _::_::_,h2=>show absurd '$' h2
  ·obtain⟨o,es,ep,g,k⟩:=ab;show#[o,es,ep,kp _ _ (Ne.symm ad) g,k]
  ·rw[<- a5,uT];show hD
variable {X:Cx}
def zkv:AT->Hp->VK->Prop:=λxs H Q=>∃ (l:Addr) (vs:AT) (A9:AS) (ft:Bool),xs=[.ref l]/\(Rd H l (.lst vs)\/H l=some (.tup vs))/\IsL H A9 vs/\A9.length<=100000/\RowsOk ft A9/\
 ∀ (ys:AT) (q:AS),IsL H q ys->q.Perm A9->(q.Pairwise λa b=>HT.lexLt (enD a) (enD b)=true)->New H (.lst ys) Q
def zeq (hu:'ĕ'):CallQ X (.builtin "sorted") zkv:=#[by
 intro A6 s G H xs us Q I r h;obtain⟨l,vs,A9,ft,rfl,hl,hsts,hz64,hr,q⟩:=h;obtain⟨u,rfl,ru⟩:=zea r;cases ru;have hvl:=hsts.length;obtain⟨m0,hns,_⟩:=id I.loc
 have rows0:∀ {A9:AS} {vs:AT} {is:AN},(∀x∈A9,x.hk=true/\x.eqOk/\x.isTup=true)->IsL H A9 vs->yi vs is->Paired (znp s.heap) is A9:=by
  intro A9
  induction A9 with
  | nil=>intro vs is _ h1 h2;cases h1;cases h2;show .nil
  | cons st A9 ih=>
   intro vs is hk h1 h2;obtain⟨v,vs',rfl,hv,hr⟩:=h1;obtain⟨k1,k2,k3⟩:=hk st '$'
   cases h2 with
   | cons r1 r2=>
    show .cons ?_ (ih (λx hx=>hk x (ak _ hx)) hr r2)
    cases st with
    | tup ll=>
     obtain⟨a,xs,rfl,ha,hx⟩:=id hv;cases r1;show#[a,A5,zdw I k1 k2 hv]
    | _=>cases k3
 show call_function_entry kind_sorted plain_sorted entry_sorted (args_sorted1 _) ?_;unfold Builtin.«sorted»;show aa (m:=checkCount "sorted" 1 1 _) '3'
 have go:∀ (its:AN) (h1:Heap),yi vs its->its.length<=sizeLine->(∀b o,s.heap.get? b=some o->h1.get? b=some o)->wpAny 'N' X.A.in1 (do
   let l <- newList its
   let _ <- holding [l] (call (.builtin "list.sort") [l])
   ret l) (λfin s'=>∃v,fin=PySem.Fin.done (Flow.ret v)/\EP X A6 G Q v s') X.xe { s with heap:=h1 }:=by
  intro its h1 rv hz hk
  have none0:∀b,'Í'.get? b=none:=λb=>by
   cases e:'Í'.get? b with
   | none=>rfl
   | some o'=>
    have:=av e;simp at this
  have hil:=rv.length;show aa (ir ?_ hz);have F:Fr 'Í' X.env.locals s.heap m0:=#[hns,λb o e=>'I',aP _];have F1:=(F.keeps hk).push 'Ƥ'
  have hDn:s.heap.get? h1.objs.size=none:=by
   cases e:s.heap.get? h1.objs.size with
   | none=>rfl
   | some o=>show absurd (av (hk _ _ e)) (cJ _)
  have hHD:H h1.objs.size=none:=by
   cases e:H h1.objs.size with
   | none=>rfl
   | some o=>
    obtain⟨o',ho'⟩:=zeQ (I.hok _ o e);grind
  have hLs:∃o,s.heap.get? X.env.locals=some o:=by obtain⟨o,_,_,h1,_⟩:=hns;show#[o,h1]
  have hDL:h1.objs.size≠X.env.locals:=λz=>by obtain⟨o,e⟩:=hLs;rw[z,e] at hDn;cases hDn
  have kp:∀b o,s.heap.get? b=some o->(h1.push 'Ƥ').get? b=some o:=λb o e=>ah _ (hk b o e);have rows:Paired (znp (h1.push 'Ƥ')) its A9:=Paired.mapP (rows0 hr.key hsts rv) λv x ⟨a,e,k1,k2,as,r⟩=>#[a,e,k1,k2,as,ue (λb o us n' g _ _=>kp b o g) k1 r];show aa (bP (aE (zhK (L:=X.env.locals) (BB:=h1.objs.size) (m0:=m0) (vs:=its) (n:=0) (ft:=ft) (A9:=A9) (s:={ s with heap:=h1.push 'Ƥ' }) (Q:=λ_ s'=>EP X A6 G Q (.ref h1.objs.size) s') (by change X.A.units+1+60<cLine;lia) F1.ns hDL (ar _ A5) rows (aw hz64 (by rw[cH];decide)) hr λh'' c p hp hup kp2 ns2 hD2=>?_) (λ_ s' x=>af #[_,A5,x]) λ_ _ e=>e));have hpi:∀i∈p,i<A9.length:=λi hi=>aL.mp ((hp.mem_iff).mp hi);have hplen:p.length=A9.length:=by rw[hp.length_eq,aZ]
  have I':=zji I hns (ys:=p.map λi=>vs.getD i .non) (λb o hb e=>kp2 b o hb '?' (kp b o e)) ns2 hDn hHD hD2 (zfh rv p λi hi=>by have:=hpi i hi;lia) (by rw[ae,hplen,cH];lia) s.toks;show#[.ref h1.objs.size,_,I',A5,(q _ (p.map λi=>A9.getD i .non) (zeC hsts hpi) ?_ hup).at hHD];have:=hp.map λi=>A9.getD i .non;rwa[uT] at this
 rcases hl with hl | hl;obtain⟨its,rv,pl,hz⟩:=I.list (.inl hl);have hil:=rv.length;show aa (collect_list pl.isList (go its _ rv '!' λb o q=>?_) (by rw[cH];lia));have hlt:b<s.heap.objs.size:=av q;rw[gF _ _ _ _ (aY hlt),Heap.get?_push_ne _ _ _ (aY hlt)];show q;obtain⟨its,rv,⟨o,ho,hc,n,hd⟩,hz⟩:=I.tuple (.of hl);have hil:=rv.length;show aa (zfv ho hc hd '!' λh1 hk=>go its h1 rv '!' hk)]
end
end L2
namespace L3
open L2
section
variable {Pn:PN}
abbrev ziI:AU->Mo W:=λB n Q=>on1 B λx=>onS x λA9=>A9.length<=100000/\(∃ft,RowsOk ft A9)/\∀q:AS,q.Perm A9->q.Pairwise ltD->Q (.d (.lst q)) n
def zhr:FL Pn true zkv ziI:=#[λA H xs ws n Q R O b P h k=>by
 simp only[ziI,zb9,zhc] at h;obtain⟨x,rfl,A9,Z,F,⟨ft,U⟩,h⟩:=h;obtain⟨v,rfl,Y⟩:=zfp b
 have I:∃a ys,v = .ref a/\(Rd H a (.lst ys)\/H a=some (.tup ys))/\IsL '7' A9 ys:=by
  rcases Z with rfl | rfl;obtain⟨a,ys,e,h1,h2⟩:=Y;show#[a,ys,e,.inl h1,h2];obtain⟨a,ys,e,h1,h2⟩:=xJ Y;show#[a,ys,e,.inr h1,h2]
 obtain⟨a,ys,rfl,ha,I⟩:=I;show#[a,ys,A9,ft,A5,ha,I.stay (zq.same zw),F,U,λJ q hy hp hs p H' np g S=>?_];have nl:Dt.noLs q=true:=zfK (xp.mpr λd hd=>(U.key d (hp.mem_iff.mp hd)).1);have B:IsL '7' q J:=zae O.noT nl hy;show k _ n _ H' (h q hp hs) (zgr B (zq.same S) (O.new np) g) (Go.same P S) λz=>zfF B S np g]
variable {X:Cx}{E:XK}{M:AR}{C:Addr}{e:Expr}{es:AO}{zu:List Stmt}{p pos p2:Pos}{x:Str}{j:Nat}
def zrN(F:FrX C E X)(BB:Dfn X.K X.mg x st ps fA fd)(BA:'ȹ')(O:Room kk X.A)(U:JA X Pn M '=' fs)(B:j<=kk:=by ext)(Y:Gl X x:=by rfl)(I:Ah x:=by ext)(Z:'g':=by rfl)(J:'¯':=by rfl) :
  JX X E Pn M (.Return (some '¢') p2::zu) (λD n=>fs D n λq m=>m=n/\q.length=k/\Fp q):=by
 obtain⟨ta,qa,ra⟩:=U.ex;show#[_,zD #[znP (zcd BA (O.mono B) Y BB.m BB.F.kp BB.b .nil F.pass qa.run I Z J)] #[zaF],λA G H D n BB E P hf k=>?_];show ra.run A G H D n _ _ E P hf ?_;rintro q m vs H1 ⟨rfl,hk,hF⟩ b g;rw[bT];show#[Pn,A,q,m,'¦'.al,b,hk,g.pn,hF,λv H' g2=>k v H' (g.trans g2)]
end
end L3
local macro_rules | `(tactic| left)=>`(tactic| ((try (with_reducible conv=>whnf));repeat (with_reducible refine L3.zrb ?_;try (with_reducible conv=>whnf)));try dsimp only)
local macro_rules | `(tactic| fail"ct")=>`(tactic| (with_reducible refine L3.zsd ?_ ?_;(first | decide | assumption | rfl));left)
local macro_rules | `(tactic| fail"cf")=>`(tactic| (with_reducible refine L3.zsb ?_ ?_;(first | decide | assumption | rfl));left)
namespace Law
open L2 L3
abbrev lc:AM:=["given","box","better","worse",Ai,"left_alone"]
abbrev ld:AM:=[Ai,"box","worths","better",Aj,"leads"]
abbrev lg:AM:=[Ak,Am]
abbrev lh:AM:=[An,Ak]
abbrev li:AM:=[An,Ak,Ao,Ap]
abbrev lj:AM:=[An,Ak,Ao,"_law_few"]
abbrev lm:AM:=["_law_script"]
abbrev ln:AM:=[Aq,"_law_due_here"]
abbrev lr:AM:=[Aj]
abbrev lu:AM:=[Aj,Ar]
abbrev lv:AM:=[Ao,As,At]
abbrev lw:AM:=[At,Ap]
abbrev lx:AM:=[An,Au]
abbrev ly:AM:=[Ak]
abbrev lz:AM:=[Ai,"box","worth"]
abbrev lA:AM:=[Av,Au]
abbrev lB:AM:=[Aj,Ar,Ai,"held"]
abbrev lC:AM:=[Ak,Av]
abbrev lD:AM:=[An,"_law_most"]
abbrev lE:AM:=[Ai,"box","better"]
abbrev lF:AM:=[Aw,Ao,Ax]
abbrev lG:AM:=[At,Ay]
abbrev lH:AM:=["row","worth","worths"]
abbrev lI:AM:=[Az,At,Ay]
abbrev lJ:AM:=["leads","one","other"]
abbrev lK:AM:=[Az,At,Ao]
abbrev lL:AM:=[Aj,"books"]
abbrev lM:AM:=[Ai,"given"]
abbrev lN:AM:=["at","worth","box"]
abbrev lO:AM:=[As,At]
abbrev lP:AM:=["_law_wish",Ak]
abbrev lQ:AM:=[An]
abbrev lR:AM:=["choices"]
def top (i:Nat):Stmt:=PySem.Challenge.pw_allelse_k54_full_books.main.body.getD i (.Pass #[0,0,0,0])
abbrev zdb:Stmt:=top 31
abbrev zcs:Stmt:=top 32
abbrev zbw:Stmt:=top 14
abbrev zdd:Stmt:=top 15
abbrev uM:Stmt:=top 16
abbrev zab:Stmt:=top 42
abbrev zdc:Stmt:=top 17
abbrev zcu:Stmt:=top 18
abbrev ze3:Stmt:=top 19
abbrev zkK:Stmt:=top 21
abbrev zbv:Stmt:=top 23
abbrev uo:Stmt:=top 24
abbrev zct:Stmt:=top 26
abbrev zho:Stmt:=top 27
abbrev zn2:Stmt:=top 28
abbrev zn1:Stmt:=top 29
abbrev zcq:Stmt:=top 33
abbrev zbr:Stmt:=top 34
abbrev zco:Stmt:=top 37
abbrev zbq:Stmt:=top 38
abbrev zcp:Stmt:=top 39
abbrev zc9:Stmt:=top 35
abbrev zbs:Stmt:=top 36
abbrev zcn:Stmt:=top 40
abbrev zbt:Stmt:=top 43
abbrev zcr:Stmt:=top 41
abbrev zbu:Stmt:=top 45
abbrev zaa:Stmt:=top 44
abbrev um:Stmt:=top 46
abbrev zda:Stmt:=top 47
abbrev zgh:Stmt:=top 48
def zgi:FnScope lm lm (zb zdb):=by fail"f"
def yn:FnScope [An,Au,Aq,Az,"_law_cell","_law_mixed"] lx (zb zcs):=by fail"f"
def xk:FnScope [Aj,"many","worths"] lr (zb zbw):=by fail"f"
def zgj:FnScope lr lr (zb zdd):=by fail"f"
def uq:FnScope lr lr (zb uM):=by fail"f"
def zcv:FnScope [A1,"_law_caught"] [A1] (zb zab):=by fail"f"
def ug:FnScope ["choices","rows","worths"] lR (zb zdc):=by fail"f"
def ze6:FnScope lr lr (zb zcu):=by fail"f"
def zh0:FnScope lz lz (zb ze3):=by fail"f"
def zd1:FnScope [Ai,"given","box","worth"] lM (zb zkK):=by fail"f"
def zaK:FnScope [Aj,Ar,Ai,"held","left_alone"] lB (zb zbv):=by fail"f"
def zbb:FnScope lu lu (zb uo):=by fail"f"
def zbx:FnScope [Ai,"box","better","given"] lE (zb zct):=by fail"f"
def ze5:FnScope ["leads","one","other","lead"] lJ (zb zho):=by fail"f"
def zd2:FnScope [Aj,"books","leads","wishes"] lL (zb zn2):=by fail"f"
def zkN:FnScope lu lu (zb zn1):=by fail"f"
def ym:FnScope [An,"_law_most",Ak,"_law_size","_law_k",Au] lD (zb zcq):=by fail"f"
def zaJ:FnScope [An,"_law_some"] lQ (zb zbr):=by fail"f"
def uN:FnScope [An,Ak,Ao,Ax] lh (zb zco):=by fail"f"
def uf:FnScope [An,Ak,Ao,"_law_few",Ap,Az] lj (zb zbq):=by fail"f"
def y6:FnScope [An,Ak,Ao,Ap,Az,"_law_way","_law_where",As] li (zb zcp):=by fail"f"
def yR:FnScope [Ak,Aq,Au,"_law_longer",At] ly (zb zc9):=by fail"f"
def zdZ:FnScope lw lw (zb zbs):=by fail"f"
def zL:FnScope [An,Ak,"_law_kind_here","_law_few",Am,"_law_k",Ap,Ay,"_law_wish"] lh (zb zcn):=by fail"f"
def z8:FnScope [Ak,Am,Aq,At,Ap,Ao,Ax,Aw] lg (zb zbt):=by fail"f"
def ze4:FnScope ln ln (zb zcr):=by fail"f"
def zd0:FnScope lA lA (zb zbu):=by fail"f"
def yJ:FnScope [Ak,Av,"_law_last",At] lC (zb zaa):=by fail"f"
def yt:FnScope [Ak,Aq,Ao,Ax] ly (zb um):=by fail"f"
def yS:FnScope [Ak,Am,Aq,At,Ay,Ao,Ap] lg (zb zda):=by fail"f"
def xg:FnScope ["_law_script",An,"_law_turn",Ak,Am,"_law_kind_here","_law_due_here",Aq,Ay,"_law_great_here",Ao,Ax,Aw,"_law_more"] lm (zb zgh):=by fail"f"
set_option genInjectivity false in
structure Ad where
 f0:Addr
 d0:Ac
 f1:Addr
 d1:Ac
 f2:Addr
 d2:Ac
 f3:Addr
 d3:Ac
 f4:Addr
 d4:Ac
 f5:Addr
 d5:Ac
 f6:Addr
 d6:Ac
 f7:Addr
 d7:Ac
 f8:Addr
 d8:Ac
 f9:Addr
 d9:Ac
 f10:Addr
 d10:Ac
 f11:Addr
 d11:Ac
 f12:Addr
 d12:Ac
 f13:Addr
 d13:Ac
 f14:Addr
 d14:Ac
 f15:Addr
 d15:Ac
 f16:Addr
 d16:Ac
 f17:Addr
 d17:Ac
 f18:Addr
 d18:Ac
 f19:Addr
 d19:Ac
 f20:Addr
 d20:Ac
 f21:Addr
 d21:Ac
 f22:Addr
 d22:Ac
 f23:Addr
 d23:Ac
 f24:Addr
 d24:Ac
 f25:Addr
 d25:Ac
 f26:Addr
 d26:Ac
 f27:Addr
 d27:Ac
 f28:Addr
 d28:Ac
 f29:Addr
 d29:Ac
 f30:Addr
 d30:Ac
 C_TooMany:Addr
 C_WishError:Addr
 C_HasRing:Addr
 C_IsBetter:Addr
 C_NotSettled:Addr
 C_NotKept:Addr
 C_NoWish:Addr
 C_NoBook:Addr
 C_NoText:Addr
 C_Full:Addr
 C_NoStanding:Addr
 cc:Addr
 PT:Addr
structure Txt (K:AH)(mg:AI)(t:Ad):Prop where
 q0:Dfn K mg "_law_pen" zdb lm t.f0 t.d0
 q1:Dfn K mg "_law_take" zcs lx t.f1 t.d1
 q2:Dfn K mg "multiplied" zbw lr t.f2 t.d2
 q3:Dfn K mg "is_small" zdd lr t.f3 t.d3
 q4:Dfn K mg "must_be_small" uM lr t.f4 t.d4
 q5:Dfn K mg "_law_refused" zab [A1] t.f5 t.d5
 q6:Dfn K mg "combined" zdc lR t.f6 t.d6
 q7:Dfn K mg "standings" zcu lr t.f7 t.d7
 q8:Dfn K mg "changed" ze3 lz t.f8 t.d8
 q9:Dfn K mg "keeps" zkK lM t.f9 t.d9
 q10:DfnD K mg "betterings" zbv lB [Value.none] t.f10 t.d10
 q11:Dfn K mg "all_betterings" uo lu t.f11 t.d11
 q12:Dfn K mg "full_wish" zct lE t.f12 t.d12
 q13:Dfn K mg "is_led" zho lJ t.f13 t.d13
 q14:Dfn K mg "laid" zn2 lL t.f14 t.d14
 q15:Dfn K mg "full" zn1 lu t.f15 t.d15
 q16:Dfn K mg "_law_room" zcq lD t.f16 t.d16
 q17:Dfn K mg "_law_great" zbr lQ t.f17 t.d17
 q18:Dfn K mg "_law_kind" zco lh t.f18 t.d18
 q19:Dfn K mg "_law_given" zbq lj t.f19 t.d19
 q20:Dfn K mg "_law_near" zcp li t.f20 t.d20
 q21:Dfn K mg "_law_all" zc9 ly t.f21 t.d21
 q22:Dfn K mg "_law_keeps" zbs lw t.f22 t.d22
 q23:Dfn K mg "_law_book" zcn lh t.f23 t.d23
 q24:Dfn K mg "_law_pairs" zbt lg t.f24 t.d24
 q25:Dfn K mg "_law_same" zcr ln t.f25 t.d25
 q26:Dfn K mg "_law_worth" zbu lA t.f26 t.d26
 q27:Dfn K mg "_law_is_wish" zaa lC t.f27 t.d27
 q28:Dfn K mg "_law_all_kinds" um ly t.f28 t.d28
 q29:Dfn K mg "_law_due" zda lg t.f29 t.d29
 q30:Dfn K mg "law" zgh lm t.f30 t.d30
 b_ValueError:mg "ValueError" = none
 b_sorted:mg "sorted" = none
 b_tuple:mg "tuple" = none
 b_range:mg "range" = none
 b_all:mg "all" = none
 b_isinstance:mg "isinstance" = none
 b_len:mg "len" = none
 b_list:mg "list" = none
 b_bool:mg "bool" = none
 b_int:mg "int" = none
 b_enumerate:mg "enumerate" = none
 b_abs:mg "abs" = none
 b_str:mg "str" = none
 b_zip:mg "zip" = none
 m_TooMany:mg "TooMany" = some (.ref t.C_TooMany)
 m_WishError:mg "WishError" = some (.ref t.C_WishError)
 m_HasRing:mg "HasRing" = some (.ref t.C_HasRing)
 m_IsBetter:mg "IsBetter" = some (.ref t.C_IsBetter)
 m_NotSettled:mg "NotSettled" = some (.ref t.C_NotSettled)
 m_NotKept:mg "NotKept" = some (.ref t.C_NotKept)
 m_NoWish:mg "NoWish" = some (.ref t.C_NoWish)
 m_NoBook:mg "NoBook" = some (.ref t.C_NoBook)
 m_NoText:mg "NoText" = some (.ref t.C_NoText)
 m_Full:mg "Full" = some (.ref t.C_Full)
 m_NoStanding:mg "NoStanding" = some (.ref t.C_NoStanding)
 er:Errs K mg "TooMany" "WishError" t.C_TooMany t.C_WishError [t.C_HasRing,t.C_IsBetter,t.C_NotSettled,t.C_NotKept,t.C_NoWish,t.C_NoBook,t.C_NoText,t.C_Full,t.C_NoStanding]
 X_TooMany:ExcC K mg "TooMany" t.C_TooMany
 lam:LamT K mg t.cc t.PT
 lamc:t.d30.code = .ref t.cc
 c_MOST_OF_SMALL:∃u,ye (.int 64) u/\mg "MOST_OF_SMALL" = some u
section
variable {P:Aa}{w:Ab}{K:AH}{mg:AI}{base:Heap}{t:Ad}
def zf2 (T:'6'):FnOk P w K mg base CX0 1 t.f0 t.d0 lm (zm6 K):=by
 show T.q0.F.okQ zgi 'Ĭ' (λY A outer s H vs Q E hr h=>?_);obtain⟨a,ns,rfl,_⟩:=h;rfl;obtain⟨a,ns,rfl,Z,U,k⟩:=h;show#[_,(yQ (u8 (zp7 (zdU xG #[zpH (zhk zqA (qv 0) zko (zkp yv)).run] (zdU xG yv (zdU xG yv zqg))) A5 A5 '$' '#'))),?_];intro p hp;show#[_,A5,_,A5,a,_,A5,(yL.upd hp).seq Z,λc J=>#[c,_,A5,zg,λob=>?_]];have q:p≠c:=λe=>by subst e;rw[zg] at J;cases J
 have B:H c=none:=by rw[zc (Ne.symm q)] at J;show J
 show#[by rw[zc q,zc q,zg],zaQ c 0 0,A5,(by change 3<=15;decide),?_];rw[zsD]
 have I:zcV 'K' none (some 63)=ns.map V.int:=by
  unfold zcV;rw[HT.sIx_none];have O:HT.sIx 'K'.length 'K'.length (some 63)='K'.length:=by have:=HT.sIx_nat 'K'.length 'K'.length 63;rw[ae] at this ⊢;rw[Nat.min_eq_right U] at this;show this
  rw[O,eG,iC,bB]
 show k p c _ #[#[0,0,zg,by lia,by lia,by lia],?_,U] ?_;show#[ob,?_];rw[zc (Ne.symm q),zg];show congrArg (λz=>some (HO.frz ob (HO.lst z))) I;intro b o e;rw[zc (ze e hp),zc (ze e B),zc (ze e B),zc (ze e hp)];show e
def zeR (T:'6'):FnOk P w K mg base CX0 1 t.f1 t.d1 lx zn5:=by
 show T.q1.F.okQ yn 'Ĭ' (λa1 A outer s H vs Q E hr h=>?_);obtain⟨p,c,ns,n,zy,rfl,_⟩:=h;rfl
 ·obtain⟨p,c,ns,n,zy,rfl,hP,hn,h1,h2,k⟩:=h;have O:=zhH hr;obtain⟨⟨a,l,hp,Z,al,ab⟩,⟨ob,hc⟩,U⟩:=id hP;have Y:c≠p:=zj1 hc hp 'ƃ'
  show#[_,(zD (zhW (zci zmq 'Đ' yv 'G') (zD (xH (i:=2) yn.nd A5 'º' (y4 zaE 'Đ' (qv 1)))
   (zD (zgb O (qv 0) xG (y4 zf6 'Đ' (qv 1)) A5)
   (yQ (u8 (qv 2))))) zch)
   (zD (xH (i:=3) yn.nd A5 'º' 'Đ')
   (zD (zgb O (qv 0) xG (y4 yZ (qv 3) yv) A5)
   (zD (xH (i:=4) yn.nd A5 'º' (y4 yZ (y4 zcb yv (qv 3)) yv))
   (zD (zhW (zci zmq (yr yW 'B' T.b_len bz (zB 'Đ' yu)) yv 'G') (yQ (xH (i:=4) yn.nd A5 'º' (zsZ zbd 'Đ' (y4 zaE (qv 3) (yr yW 'B' T.b_len bz (zB 'Đ' yu))) ':'))) zch)
   (zD (zhW (QW.pt (znV (zci zsn (qv 3) (yr yW 'B' T.b_len bz (zB 'Đ' yu)) 'G') (zkt (zci zvz 'Ȋ' (y4 zkb yv yv) 'G')))) (zD (zgb O (qv 0) xG (y4 zf6 'Ȋ' (qv 1)) A5)
   (yQ (u8 (y4 zaE 'Ȋ' (qv 1))))) zch)
   (zD (xH (i:=5) yn.nd A5 'º' (y4 zaE (y4 zkb (y4 yZ (y4 yZ (y4 zaE (qv 4) yv) (y4 zcb yv (qv 3))) yv) yv) yv))
   (zD (xH (i:=5) yn.nd A5 'º' (y4 zaE (y4 zkb (y4 yZ (y4 yZ (qv 5) (y4 zcb (y4 zcb yv (qv 3)) (qv 3))) yv) yv) yv))
   (yQ (u8 (y4 zaE (y4 zf6 (qv 5) yv) (qv 1)))))))))))),?_]
  show#[_,A5,p,_,A5,zkf hp,_,_,A5,A5,_,A5,ztX (λhl=>?_) (λhl=>?_)];have a2:0<l:=bh hl;show#[_,A5,p,_,A5,zkf hp,_,A5,_,_,A5,A5,(by change (0:Int)<zy;lia),?_];show#[_,A5,p,_,A5,zkf hp,_,A5,_,_,A5,A5,#[by change (0:Int)<zy;lia,h2],_,A5,p,_,A5,znO hp _,?_];show#[_,A5,k _ _ (c8 _ '!') (cy _ '!') #[#[a,_,zg,Z,by lia,Int.ediv_nonneg ab '!'],#[ob,by rw[zc Y];show hc],U] zfq]
  ·show#[_,A5,p,_,A5,zsC hp,?_];show#[_,A5,_,_,A5,A5,_,A5,p,_,A5,zsG hp _,?_];have I:upd H p (.dK (zaQ c (a+1) l)) p=some (.dK (zaQ c (a+1) l)):=zg;have J:upd H p (.dK (zaQ c (a+1) l)) c=some (.frz ob (.lst 'K')):=by rw[zc Y];show hc
   generalize an:upd H p (.dK (zaQ c (a+1) l))=H1 at I J ⊢;have ac:∀b o,b≠p->H b=some o->H1 b=some o:=an ▸ zfq;show#[_,A5,_,_,A5,A5,.inl 'd',_,_,A5,A5,?_];refine' meet (α:=Int) _ (λzu=>?_) ?_;rotate_left
   
   show#[_,A5,p,_,A5,zhf I,_,_,A5,.inl #[_,.inl (.inr #[ob,J]),A5],_,_,A5,A5,_,A5,ztX (λhz=>?_) (λhz=>?_)];have ad:0<('K'.length:Int):=bh hz;obtain⟨B,ag⟩:=zra ns a ad;show#[_,A5,p,_,A5,zhf I,_,A5,_,A5,p,_,A5,zhf I,_,_,A5,.inl #[_,.inl (.inr #[ob,J]),A5],_,_,A5,A5,ad,c,_,_,_,A5,A5,.inl (.inr #[ob,J]),ag,?_];show zu B;show zu (101 * a+7)
   ·intro B;have a3:∀ {q:Addr},H1 q=none->p≠q:=λhq=>ze I hq;refine' zvo _ (λzu=>?_) ?_;rotate_left
    ·show#[_,A5,_,A5,p,_,A5,zhf I,_,_,A5,.inl #[_,.inl (.inr #[ob,J]),A5],_,_,A5,A5,_,A5,ztX (λh3=>?_) (λh3=>?_)];rotate_left;show iteF ?_;show zu;show#[_,A5,_,A5,_,_,A5,A5,'¾',_,_,A5,A5,_,A5,ztX (λh4=>?_) (λh4=>?_)];rotate_left;show zu;have ha:0<=(if B<0 then -B else B):=by split <;> lia
     show#[_,A5,_,A5,_,A5,_,_,A5,A5,#[by change (0:Int)<zy;lia,h2],_,A5,p,_,A5,znO I _,?_];show#[_,A5,_,A5,_,A5,_,_,A5,A5,(by change (0:Int)<zy;lia),k _ _ (c8 _ '!') (cy _ '!') #[#[a+1,_,zg,by lia,by lia,Int.ediv_nonneg ha '!'],#[ob,by rw[zc Y];show J],U] (λb o z e=>zfq b o z (ac b o z e))]
    obtain⟨as,a0⟩:=zm7 Z al hn;have a4:=c8 B (show (2147483629:Int)≠0 by ext);have a5:=cy B (show (0:Int)<2147483629 by ext);show#[_,A5,_,_,A5,A5,(by change (0:Int)<2147483629;decide),_,A5,_,_,A5,A5,.inl #[by ext,by ext],_,_,A5,A5,_,_,A5,A5,_,_,A5,A5,#[by ext,by ext,?_],_,_,A5,A5,(by change (0:Int)<2147483647;decide),?_];change (B % 2147483629+30011 * a+977).natAbs<2 ^ 64;lia;generalize a7:((B % 2147483629+30011 * a+977) ^ (3:Int).toNat:Int)=w1;have w0:=c8 w1 (show (2147483647:Int)≠0 by ext);have w2:=cy w1 (show (0:Int)<2147483647 by ext);show#[_,A5,_,A5,_,_,A5,A5,.inl #[by ext,by ext],_,A5,_,_,A5,A5,.inr 'd',_,_,A5,A5,_,_,A5,A5,_,_,A5,A5,#[by ext,by ext,?_],_,_,A5,A5,(by change (0:Int)<2147483587;decide),?_];change (w1 % 2147483647+69621 * a * a+13).natAbs<2 ^ 64;have e1:69621 * a * a=69621 * (a * a):=Int.mul_assoc _ _ _;have e2:60013 * a * a=60013 * (a * a):=Int.mul_assoc _ _ _;rw[e2] at as a0;rw[e1];lia;show#[_,A5,_,_,A5,A5,#[by ext,by ext],_,A5,_,_,A5,A5,(by change (0:Int)<zy;lia),?_];show k _ _ (c8 _ '!') (cy _ '!') #[#[a+1,l,I,by lia,by lia,ab],#[ob,J],U] ac
def z7 (T:'6'):FnOk P w K mg base CX0 1 t.f1 t.d1 lx (spV 2 false zig):=FnOk.lift (FnOk.mono (zeR T) '#') zjL
def zdF (T:'6'):FnOk P w K mg base CX0 1 t.f2 t.d2 lr zn4:=by
 show T.q2.F.okQ xk 'Ĭ' (λI A outer s H vs Q E O h=>?_);obtain⟨a,ns,rfl,_⟩:=h;rfl;obtain⟨a,ns,rfl,q,J,k⟩:=h
 show#[_,(zD (xH (i:=1) xk.nd A5 'º' yv)
  (zD (zkq be A5 (znU (qv 0)) (zcg (i:=2) xk.nd A5 'º') (yQ (xH (i:=1) xk.nd A5 'º' (y4 zcb (qv 1) (qv 2)))))
  (yQ (u8 (qv 1))))),?_]
 show#[_,A5,a,A5,#[_,.of q],zoH (K:=K) (xs:=ns.map V.int) (λi G H2=>H2=H/\∃v,G=[some 'J',some (.int (yK (ns.take i))),v]) #[A5,none,A5] (λi G H2 _ ⟨e,_⟩=>e ▸ .of q) ?_ ?_];rintro i y G H2 hi ⟨rfl,v,rfl⟩;rw[aF] at hi;obtain⟨z,B,rfl⟩:=aI.mp hi;have U:=J z (aB B);show#[_,A5,_,A5,_,_,A5,A5,.inr 'd',A5,some (.int z),?_];rw[zj B,xT];rfl;rintro G H2 ⟨rfl,v,rfl⟩;show#[_,A5,?_];rw[ae,bB];show k
def zcL (T:'6'):FnOk P w K mg base CX0 1 t.f2 t.d2 lr (spV 1 false znn):=FnOk.lift (FnOk.mono (zdF T) '#') zjK
abbrev zoa:FV:=λ_ q n R=>∃rm:AG,q=['ò']/\'ħ'/\R (.d (.bl (decide (yK rm<=64)))) n
def zbj (T:'6'):FnOk P w K mg base CX0 2 t.f3 t.d3 lr (spV 1 false zoa):=by have G2:=zcL (P:=P) (w:=w) (base:=base) T;show Fun.okW (k:=1) (fr:=false) [] 0 T.q3.F zgj A5 '#' A5 λq A outer s H E Pn B=>#[_,(zh (zC (zdy zmr zue (JE.bo (wE zo <| yC T.q2 G2 B 'Á')) (JE.bo (zo2 A5 T.c_MOST_OF_SMALL)) 'G'))),λO n R I=>?_];obtain⟨rm,rfl,J,r⟩:=I;left;show#[rm,A5,J,r]
abbrev zq0:FV:=λ_ q n R=>∃rm:AG,q=['ò']/\'ħ'/\yK rm<=64/\R (.d .non) n
def za8 (T:'6'):FnOk P w K mg base CX0 3 t.f4 t.d4 lr (spV 1 false zq0):=by have G3:=zbj (P:=P) (w:=w) (base:=base) T;show Fun.okW (k:=2) (fr:=false) [] 0 T.q4.F uq A5 '#' A5 λq A outer s H E Pn B=>#[_,(zh (wS zT <| xz (wT yM <| xC (wT zp <| yD (JE.bo (wE zo <| yC T.q3 G3 B 'Á')))) (zh zu2) zS)),λO n R I=>?_];obtain⟨rm,rfl,J,hp,r⟩:=I;left;show#[rm,A5,J,?_];rw[aA hp];left;show r
def zq5 (q:AU):Prop:=∃rm:AG,q=['ò']/\'ħ'/\64<yK rm
def za9 (T:'6'):FnOk P w K mg base (CX1 P w t.C_TooMany) 3 t.f4 t.d4 lr (spX 1 zq5):=by have G3:=zbj (P:=P) (w:=w) (base:=base) T;show okX (k:=2) T.q4.F uq A5 λB A outer s H E Pn q=>#[_,(zu3 zjb q.hd T.X_TooMany (xC (yD (JE.bo (yC T.q3 G3 q (za (zjt 0) zd)))))),λO n U I=>?_];obtain⟨rm,rfl,J,hp⟩:=I;show#[_,A5,A5,rm,A5,J,_,A5,by rw[aG '!'];rfl,A5]
def zcA(T:'6'):zll P w K mg base t.C_TooMany [t.C_HasRing,t.C_IsBetter,t.C_NotSettled,t.C_NotKept,t.C_NoWish,t.C_NoBook,t.C_NoText,t.C_Full,t.C_NoStanding] k t.f5:=by show zmU (a := "_law_asked") (c := "_law_caught") (n := "error") (cx := "TooMany") (wx := "WishError") (xs:=[("HasRing",#[169,40,169,47]),("IsBetter",#[169,49,169,57]),("NotSettled",#[169,59,169,69]),("NotKept",#[169,71,169,78]),("NoWish",#[169,80,169,86]),("NoBook",#[169,88,169,94]),("NoText",#[169,96,169,102]),("Full",#[169,104,169,108]),("NoStanding",#[169,110,169,120])]) T.q5.F T.q5.b zcv '#' A5 A5 '#' A5 T.er 'S' T.b_ValueError T.b_isinstance ?_ 'S' (Nat.le_of_ble_eq_true A5) A5;change [mg "HasRing",mg "IsBetter",mg "NotSettled",mg "NotKept",mg "NoWish",mg "NoBook",mg "NoText",mg "Full",mg "NoStanding"]=[some (.ref t.C_HasRing),some (.ref t.C_IsBetter),some (.ref t.C_NotSettled),some (.ref t.C_NotKept),some (.ref t.C_NoWish),some (.ref t.C_NoBook),some (.ref t.C_NoText),some (.ref t.C_Full),some (.ref t.C_NoStanding)];rw[T.m_HasRing,T.m_IsBetter,T.m_NotSettled,T.m_NotKept,T.m_NoWish,T.m_NoBook,T.m_NoText,T.m_Full,T.m_NoStanding]
def zf3 (T:'6'):FnOk P w K mg base CX0 1 t.f6 t.d6 lR (zde K):=by
 show T.q6.F.okQ ug 'Ĭ' (λb1 A outer s H vs Q E hr h=>?_);obtain⟨ca,xs,cs,rfl,_⟩:=h;rfl;obtain⟨ca,xs,cs,rfl,a3,hL,bk,a4,k⟩:=h;have ac:=zgx bk a4
 show#[_,(zD (xH (i:=1) ug.nd A5 'º' (zkm (zB (zf9 yu) yu)))
  (zD (zkq be A5 (zga (qv 0)) (zcg (i:=2) ug.nd A5 (Or.inr A5)) (yQ (zmN (ix:=1) ug.nd A5 A5 (N:=lH) (A8:=[none,none,some 2]) A5 '§' (zga (qv 1)) (λ_ _ _ _=>(zcg (i:=0) (show (lH:AM).Nodup by decide +kernel) A5 'º')) (λ_ _ _ _=>zgc) (λ_ _ _ _=>(zdT K A5 (qv 2))) (λ_ _ _ _=>(zcg (i:=1) (show (lH:AM).Nodup by decide +kernel) A5 'º')) (λ_ _ _ _=>zgc) (λ_ _ _ _=>(y4 (zmp K A5) (qv 0) (zf9 (zB (qv 1) yu)))))))
  (yQ (u8 (qv 1))))),?_]
 show#[(by change 0<=sizeLine;decide),λe0 H1 _ g1 S1=>#[(by change 1<=sizeLine;decide),λr0 H2 n2 g2 S2=>?_]];have S02:yL H H2:=λb o e=>S2 _ _ (S1 _ _ e)
 have bl:H r0=none:=by
  cases e:H r0 with
  | none=>rfl
  | some o=>rw[S1 _ _ e] at n2;cases n2
 show#[_,A5,ca,A5,#[xs,.inl (a3.same S02)],zlI (K:=K) (xs:=xs) (λi G H3=>∃ (ra:Addr) (ys:AT) (v2:Option V),G=[some (.ref ca),some (.ref ra),v2]/\H ra=none/\H3 ra=some (.lst ys)/\IsL H3 ((yg (cs.take i)).map stD) ys/\yL H H3)
  #[r0,_,none,A5,bl,g2,#[_,_,A5,#[e0,_,A5,S2 _ _ g1,A5],A5],S02] (λi G H3 _ ⟨_,_,_,_,_,_,_,S⟩=>.inl (a3.same S)) ?_ ?_]
 rintro i x G H3 hi ⟨ra,ys,v2,rfl,a5,ab,Y,S3⟩;have bm:=(ai.mp hi).1;have Z:i<cs.length:=by rw[<- hL.1];show bm
 obtain⟨wa,a7,bb⟩:=hL.2 i cs[i] (am Z);rw[hi] at a7;cases a7;have ad:=a4 cs[i] (bj Z);have an:cs.take '('=cs.take i++[cs[i]]:=zj (am Z);have bo:=ac i;have as:=ac '(';rw[an,yE] at as;have a0:=Y.length;rw[ae] at a0;have ag:∀I∈yg (cs.take i),I.length<=8:=λI hr=>by rw[zdh _ _ hr,bi];lia
 generalize cs[i]=ws at bb ad an as;generalize a1:yg (cs.take i)=rows at Y bo as a0 ag;have al:=bb.same S3;show#[_,A5,ra,A5,#[_,.of ab],λacc O=>?_];show zhA (xs:=ys) O (λj J H'=>(∃v0 v1,J=[v0,v1,some (.ref wa)])/\(∃zs,H' acc=some (.lst zs)/\IsL H' ((ui (rows.take j) ws).map stD) zs)/\yL H3 H') (λH' z1 z2=>#['Ä',#[[],z1,A5],z2]) (λ_ _ _ _ ⟨_,_,S⟩=>.of (S _ _ ab)) ?_ ?_;rintro j y J H4 hy ⟨⟨v0,v1,rfl⟩,⟨zs,B,q⟩,S4⟩;obtain⟨d,hd,bs⟩:=(Y.stay (zq.same S4)).get hy;rw[aF] at hd;obtain⟨I,a2,rfl⟩:=aI.mp hd;obtain⟨rwa,rv,rfl,bc,bt⟩:=bs;obtain rfl:=bt.of_ints;have b2:=(ai.mp a2).1;have b3:=ag I (aB a2);change ziu _ zbc _ _ _ _ _ _ _ _ _;show znK ?_;show#[_,A5,wa,A5,#[_,.inl (al.same S4)],?_];show zhI (xs:=ws.map V.int) (λm J H'=>(∃v1,J=[some (.ref rwa),v1,some (.ref wa)])/\(∃zs,H' acc=some (.lst zs)/\IsL H' ((ui (rows.take j) ws++(ws.take m).map λw=>I++[w]).map stD) zs)/\yL H3 H'/\H' rwa=some (.tup (I.map V.int))) #[';',#[zs,B,by simpa using q],S4,bc] (λ_ _ _ _ ⟨_,_,S,_⟩=>.inl (al.same S)) ?_ ?_;rintro m u J H5 hu ⟨⟨v1,rfl⟩,⟨zs,B,q⟩,S5,U⟩;rw[aF] at hu;obtain⟨wv,bd,rfl⟩:=aI.mp hu;have b4:=(ai.mp bd).1;show zre #[_,A5,_,A5,(by change 1<=sizeLine;decide),λt1 H6 _ g6 S6=>?_];show#[rwa,t1,_,_,A5,A5,S6 _ _ U,g6,dq (ze9 (by rw[ae];change I.length+1<=1000;lia)),λt2 H7 g7 S7=>?_];have S57:yL H5 H7:=λb o e=>S7 _ _ (S6 _ _ e);have bx:=q.length;rw[ae,ay,uR,ae,bi,bi] at bx;have b5:=uR rows ws;have b0:(min j rows.length) * ws.length<=65536 * 4:=Nat.mul_le_mul '!' ad;show#[zs,S57 _ _ B,bQ (show zs.length<=500000 by lia) '#',';',#[_,zg,?_],zm0 O λb o e=>S57 _ _ (S5 _ _ e),?_];show IsL.stayT (zeg.app (S57 _ _ B)) (uS _) ?_;rw[zj bd,aO (l₁:=ws.take m),<- aD,aO];show (q.stay (zq.same S57)).append (IsL.one #[t2,_,A5,g7,?_]);rw[aO];show IsL.ints.append (IsL.ints (ns:=[wv]));rw[zc (zj1 (S57 _ _ U) (S57 _ _ B) 'ƃ')];show S57 _ _ U;rintro J H5 ⟨⟨v1,rfl⟩,⟨zs,B,q⟩,S5,U⟩;rw[ae,bB] at q;show#['Ä',#[zs,B,?_],S5];rw[zj a2,zfy];show q;rintro J H4 ⟨⟨v0,v1,rfl⟩,⟨zs,B,q⟩,S4⟩;rw[a0,bB] at q;show#[acc,zs,_,A5,?_,B,?_,λb o e=>S4 _ _ (S3 _ _ e)]
 cases e:H acc with
 | none=>rfl
 | some o=>rw[S3 _ _ e] at O;cases O
 rw[an,yE,a1];show q;rintro G H3 ⟨ra,ys,v2,rfl,a5,ab,Y,S3⟩;rw[hL.1,bB] at Y;show#[_,A5,k ra ys H3 a5 ab Y S3]
def zeU (T:'6'):FnOk P w K mg base CX0 1 t.f6 t.d6 lR (spV 1 true zcP):=FnOk.lift (FnOk.mono (zf3 T) '#') zdB
inductive F_sts  (Pn:PN):AU->Nat->AV->Prop
 | i {n:Nat} {R:AV} {rm:AG} (hR:RoomOk rm) (h:R (.d (zbP (yg (rm.map zl)))) n)  : F_sts Pn [.d (stD rm)] n R
def zaC (T:'6'):FnOk P w K mg base CX0 2 t.f7 t.d7 lr (spV 1 true F_sts):=by
 have G6:=zeU (P:=P) (w:=w) (base:=base) T;show Fun.okW (k:=1) (fr:=true) [] 0 T.q7.F ze6 A5 '#' A5 λI A outer s H E Pn J=>#[_,(zh (zC (wE zo <| yC T.q6 G6 J (za (zas (N:=["worths"]) (A8:=[none]) A5 '§' (wI uJ <| zbg K A5 'f') (λ_ _ _ _=>(wG zK <| zm (i:=0) (show (["worths"]:AM).Nodup by decide +kernel))) 'ü' (λ_ _ _ _=>(wE zfX <| zjq T.b_list T.b_range (zn 'a' zt)))) zd)))),λws n R O=>?_];obtain @⟨_,_,rm,q,r⟩:=O;left;show zen rm (λi=>W.d 'P') '´' (λD=>∃a,D=[a]) (λm=>lsD (zl m)) (aw q.few '#') ';' ?_ ?_;rintro m B U ⟨a,rfl⟩ C Y;have hb:=q.box m B;left;show#['d',?_];have Z:lsD (zl m)=Dt.lst (zmZ m.toNat):=by unfold lsD zl zmZ;rw[aK];rfl
 rw[<- Z];show Y ';';left;show#[rm.map zl,by rw[aK];rfl,by rw[ae];show q.few,λc hc=>?_,r];obtain⟨m,B,rfl⟩:=aJ.mp hc;have:=q.box m B;rw[xU];lia
inductive F_chg  (Pn:PN):AU->Nat->AV->Prop
 | i {n:Nat} {R:AV} {st:AG} {b x:Int} (b0:0<=b) (hz:st.length<=1000) (h:R (.d (stD (chg st b x))) n)  : F_chg Pn [.d (stD st),.d (.int b),.d (.int x)] n R
def zb8 (T:'6'):FnOk P w K mg base CX0 1 t.f8 t.d8 lz (spV 3 false F_chg):=by show Fun.okW (k:=0) (fr:=false) [] 0 T.q8.F zh0 A5 '#' A5 λB A outer s H E Pn O=>#[_,(zh (zC (zaP yO ut (JE.bo (zaP yO ut (JE.bo (wE xN <| zcE 'a' xL (wO yU <| xM 'M'))) (JE.bo (z9 (za (kv 2) zd))))) (JE.bo (wE xN <| zcE 'a' (wO yU <| xM (JE.bo (zaP yZ zcx 'M' 'L'))) xL))))),λU n R I=>?_];obtain @⟨_,_,st,b,x,J,q,r⟩:=I;left;show#[zgE q,?_];left;show#[zgF q,?_];rw[zis J q];show r
inductive F_kps  (Pn:PN):AU->Nat->AV->Prop
 | i {n:Nat} {R:AV} {st:AG} {g:List (Int×Int)} (hg:∀q∈g,0<=q.1/\q.1<st.length) (h:R (.d (.bl (xt st g))) n)  : F_kps Pn [.d (stD st),.d (zbY g)] n R
def zj9 (T:'6'):FnOk P w K mg base CX0 1 t.f9 t.d9 lM (spV 2 false F_kps):=by
 show Fun.okW (k:=0) (fr:=false) [] 2 T.q9.F zd1 A5 '#' A5 λZ A outer s H E Pn hr=>#[_,(zf (xf be A5 (wI uJ <| zbg K A5 'Y') (wG uF <| uG (n:=2) K A5 A5 (wH zZ <| zx (wG zK <| zm (i:=2) zd1.nd) (wH zZ <| zx (wG zK <| zm (i:=3) zd1.nd) 'Ü'))) (zh (wS zT <| xz (wT zp <| yb zcN zlj (JE.bo (xx zA z0 'a' (kb 2) ':')) 's' 'G') 'ā' zS)))
   (zh (zC zid))),λws n R hF=>?_]
 obtain @⟨_,_,st,g,hg,r⟩:=hF;left;show xh g (λq=>.d (yq q)) '´' (λi D m=>m=n/\(∃J O,D=[some (.d 'T'),some (.d (zbY g)),J,O])/\xt st (g.take i)=true) #[A5,'Ä',A5] ?_ ?_;rintro i q D m U ⟨rfl,⟨J,O,rfl⟩,I⟩ C B E hC _ hE;have Y:=hg q (aB U);left;show onA Y.1 Y.2 ?_;left;show zhQ (λh=>?_) (λh=>?_);left;show hE ?_;have e:xt st g=false:=by unfold xt;show List.all_eq_false.mpr #[q,aB U,λz=>h (bh z)]
 rw[e] at r;show r;left;show hC #[A5,'Ä',?_];unfold xt at I ⊢;rw[zj U,List.all_append,I];simp[h];rintro D m ⟨rfl,⟨J,O,rfl⟩,I⟩;rw[bB] at I;rw[I] at r;left;show r
def zgB{rm:AG}{bk:AW}{st hs:AG}(J:RoomOk rm)(I:uY rm bk)(B:st.length=rm.length){Q:AV}(r:Q (.d (zbP (uz bk st hs))) n):scR (eTp 4 (eCn (eN 0) (eCn (eN 1) (eCn (eN 2) (eCn (eN 3) eNl))))) (ztT (zrn (znI dEq (znI ztU (zhD 4) (zhD 1)) (zhD 3))) (ztT (zrn (znI zdp (zhD 1) (zhD 5))) (zrn (dFn 2 (F_kps Pn) (zfW (zhD 4) (zfW (zhD 0) zt3))))))
  (dFn 3 (F_chg Pn) (zfW (zhD 4) (zfW (zhD 1) (zfW (zhD 2) zt3)))) [none,none,none,none,some (.d 'T'),some (.d (stD hs))] (λks n'=>∃m,ks.length<64/\1<=m/\(∀st∈ks,st.length=m)/\∀l':AF,l'.Perm ks->(l'.Pairwise λa b=>HT.lexLt a b=true)->Q (.d (zbP l')) n') ('Ñ'.map W.d) n:=by
 have h8:=J.few;have F:∀ks:AF,ks.Nodup->(∀z∈ks,z∈zfJ bk st hs)->ks.length<=32:=λks h1 h2=>zey I h8 J.box h1 h2;show zqz bk (λx=>W.d (z5 x)) '´' (λD=>∃a b c d,D=[a,b,c,d,some (.d 'T'),some (.d (stD hs))]) (λx=>uw st x&&!hs.contains x.b) (λx=>chg st x.b x.r) #[_,_,_,_,A5] ?_ (λks h1 h2=>by have:=F ks h1 h2;lia) ?_;rintro x hx ab ⟨a,b,c,d,rfl⟩ C hY O;have U:=I x hx;have b0:=U.b0;have b1:=U.b1;left;show onA b0 '!' ?_;left;show zdM (λY=>?_) (λY=>O (by unfold uw;rw[aG Y];simp) #[_,_,_,_,A5]);left;show#[hs,A5,?_];left;show zsc (λZ=>?_) (λZ=>O (by rw[Z];simp) #[_,_,_,_,A5]);left;show F_kps.i (λq hq=>?_) ?_;have:=U.giv.ok q hq;rw[B];show#[this.1,this.2.1];left;show zpv (λhk=>?_) (λhk=>O (by unfold uw;rw[hk];simp) #[_,_,_,_,A5]);left;show F_chg.i b0 '!' #[_,A5,hY ?_ #[_,_,_,_,A5]];unfold uw;rw[aA Y,hk,Z];rfl;intro ks h1 h2;show#[rm.length,by have:=F ks h1 λz hz=>(h2 z).mp hz;lia,J.pos,λz hz=>zao I B z ((h2 z).mp hz),λl' hp hu=>?_];rw[show l'=uz bk st hs from zm4 (zao I B) hu λz=>(hp.mem_iff).trans (h2 z)];show r
inductive F_bet  (Pn:PN):AU->Nat->AV->Prop
 | i {n:Nat} {R:AV} {rm:AG} {bk:AW} {st hs:AG} {v:W} (hv:v = .d (stD hs)\/(hs=[]/\v = .d .non)) (hR:RoomOk rm) (hB:uY rm bk) (hst:st.length=rm.length) (h:R (.d (zbP (uz bk st hs))) n)  : F_bet Pn [.d (stD rm),.d (y9 bk),.d (stD st),v] n R
def zcK (T:'6'):FnOk P w K mg base CX0 2 t.f10 t.d10 lB (spV 4 true F_bet):=by
 have G8:=zb8 (P:=P) (w:=w) (base:=base) T;have G9:=zj9 (P:=P) (w:=w) (base:=base) T
 show FunD.okW (k:=1) (fr:=true) [] 1 T.q10.F zaK A5 '#' A5 λO A outer s H E Pn B=>#[_,(zf (wS zz <| zO (i:=4) zaK.nd (wE zr1 <| j_if (wT zp <| zrM 's') (z9 zd) (kv 3)))
   (zh (zC (zlW T.b_sorted (zhH B) (N:=lc) (A8:=[none,none,none,none,some 2,some 4]) A5 '§' (wI uJ <| zbg K A5 'Y') (λ_ _ _ _=>(wG uF <| uG (n:=4) K A5 A5 (wH zZ <| zx (wG zK <| zm (i:=0) (show (lc:AM).Nodup by decide +kernel)) (wH zZ <| zx (wG zK <| zm (i:=1) (show (lc:AM).Nodup by decide +kernel)) (wH zZ <| zx (wG zK <| zm (i:=2) (show (lc:AM).Nodup by decide +kernel)) (wH zZ <| zx (wG zK <| zm (i:=3) (show (lc:AM).Nodup by decide +kernel)) 'Ü')))))) (λ_ _ _ _=>(zaZ (JW.t (wW zb5 <| zeG (wT zp <| yb zcM zli (JE.bo (xx zA z0 (kb 4) 'M' ':')) 's' 'G') (wW zb5 <| zeG (wT zp <| yb zeX znc 'M' (kb 5) 'ň') (uj 'h' (wT zp <| yD (JE.bo (wE zo <| yC T.q9 G9 B (za (kv 4) 'Á')))))))))) (λ_ _ _ _=>(wE zo <| yC T.q8 G8 B (za (kv 4) (za 'Y' (za (kv 2) zd))))))))),λZ n R U=>?_]
 obtain @⟨_,_,rm,bk,st,hs,v,Y,I,J,q,r⟩:=U;left;rcases Y with rfl | ⟨rfl,rfl⟩;left;show zgB I J q r;left;show zgB I J q r
structure Gr (V:AF)(g:AG->AF):Prop where
 nd:V.Nodup
 few:V.length<=256
 sub:∀s∈V,∀t∈g s,t∈V
 snd:∀s∈V,(g s).Nodup
 gl:∀s∈V,(g s).length<=32
def ldD (V:AF)(g:AG->AF):List (AG×Dt):=V.map λs=>(s,zbP (g s))
def mkD (V:AF)(c:AG->Int):List (AG×Dt):=V.map λs=>(s,.int (c s))
theorem zg7 {f:AG->Dt}{s:AG}:∀ {V:AF},s∈V->yI (V.map λs=>(s,f s)) s=some (f s)
 | v::V,h=>by
  by_cases e:v=s;simp[yI,e];have:=zg7 (f:=f) ((au.mp h).resolve_left λz=>e z.symm);simpa [yI,e] using this
def zvq {V:AF}{c:AG->Int}{t:AG}{x:Int}(h:t∈V):ze1 (mkD V c) t (.int x)=mkD V λs=>if s=t then x else c s:=by
 unfold ze1 mkD;rw[if_pos (iB.mpr #[(t,.int (c t)),aJ.mpr #[t,h,A5],aA A5]),aK];show eO λs _=>?_;by_cases e:s=t;simp[e];simp[e]
def zt0 {V:AF}{g:AG->AF}:((ldD V g).map λq=>W.d (stD q.1))=V.map λs=>W.d (stD s):=by unfold ldD;rw[aK];rfl
def zns{rm:AG}{s t:AG}(B:uY rm bk)(hs:StOk rm s)(F:t∈uz bk s []):StOk rm t:=by obtain⟨x,I,_,_,rfl⟩:=yX.mp (yc.mp F);have q:=B x I;show zd4 hs q.b0 q.b1 q.r0 q.r1
def bet_gr{rm:AG}(B:RoomOk rm)(q:uY rm bk)(F:'j'.length<=256):Gr 'j' λs=>uz bk s [] where
 nd:=zgz rm
 few:=F
 sub:=λs hs t I=>zgm (zns q (yF _ _ hs) I)
 snd:=λs hs=>ztI (zok q (yF _ _ hs).len)
 gl:=λs hs=>zoj q B.few B.box (yF _ _ hs).len
inductive F_ab  (Pn:PN):AU->Nat->AV->Prop
 | i {n:Nat} {R:AV} {rm:AG} {bk:AW} (hR:RoomOk rm) (hB:uY rm bk) (h:R (.df (ldD (yg (rm.map zl)) λs=>uz bk s [])) n)  : F_ab Pn [.d (stD rm),.d (y9 bk)] n R
def zaB (T:'6'):FnOk P w K mg base CX0 3 t.f11 t.d11 lu (spV 2 false F_ab):=by
 have G7:=zaC (P:=P) (w:=w) (base:=base) T;have G10:=zcK (P:=P) (w:=w) (base:=base) T;show Fun.okW (k:=2) (fr:=false) [] 0 T.q11.F zbb A5 '#' A5 λI A outer s H E Pn q=>#[_,(zh (zC (zuX (zlU (zhH q) (N:=[Ai,Aj,Ar]) (A8:=[none,some 0,some 1]) A5 '§' (wI za5 <| zaY K A5 (wE zo <| yC T.q7 G7 q 'Á')) (λ_ _ _ _=>(wG zK <| zm (i:=0) (show ([Ai,Aj,Ar]:AM).Nodup by decide +kernel))) 'ü' (λ_ _ _ _=>'a') (λ_ _ _ _=>(zuW T.q10 G10 q (za 'Y' (za (kv 2) 'Á')))))))),λws n R J=>?_];obtain @⟨_,_,rm,bk,B,O,r⟩:=J;left;show F_sts.i B ?_;left;show zlx 'j' '´' (λD=>∃a,D=[a,'m','ş']) (λ_=>true) (λs=>zbP (uz bk s [])) (zgz rm) (aw (zog B) '#') ';' ?_ ?_;rintro s hs U ⟨a,rfl⟩ C Y Z;left;show F_bet.i (.inr #[A5,A5]) B O (yF _ _ hs).len ?_;left;show#[_,A5,Y A5 ';'];rw[List.filter_eq_self.mpr λ_ _=>rfl];show r
def zcX (b:AW)(a c:AG):Prop:=c∈uz b a []\/a∈uz b c []
noncomputable instance (b:AW) (a c:AG):Decidable (zcX b a c):=Classical.propDecidable _
noncomputable def uk:List AW->AG->AG->Bool
 | [],_,_=>false
 | b::r,a,c=>if zcX b a c then decide (c∈uz b a []) else uk r a c
def xj{a c:AG}:uk (b::r) a c=if zcX b a c then decide (c∈uz b a []) else uk r a c:=rfl
def zez{a c:AG}:zcX b a c↔zcX b c a:=#[Or.symm,Or.symm]
theorem zag {a c:AG}:∀ {x y:List AW},uk (x++y) a c=if (∃b∈x,zcX b a c) then uk x a c else uk y a c
 | [],y=>by simp
 | b::x,y=>by
  rw[cR,xj,xj];by_cases h:zcX b a c;rw[if_pos h,if_pos #[b,'4',h],if_pos h];rw[if_neg h,if_neg h,zag];have e:(∃B∈b::x,zcX B a c)↔∃B∈x,zcX B a c:=#[λ⟨z,F,q⟩=>(au.mp F).elim (λe=>absurd (e ▸ q) h) λF=>#[z,F,q],λ⟨z,F,q⟩=>#[z,ak _ F,q]];by_cases h2:∃B∈x,zcX B a c;rw[if_pos h2,if_pos (e.mpr h2)];rw[if_neg h2,if_neg λz=>h2 (e.mp z)]
def za1{a c:AG}:uk [b] a c=decide (c∈uz b a []):=by
 rw[xj];split;rfl
 ·rename_i h;show (aG λz=>h (.inl z)).symm
theorem zjH {a c:AG}:∀ {x:List AW},(uk x a c=true\/uk x c a=true)↔∃b∈x,zcX b a c
 | []=>by simp[uk]
 | b::x=>by
  rw[xj,xj];by_cases h:zcX b a c;rw[if_pos h,if_pos (zez.mp h)];show#[λ_=>#[b,'4',h],λ_=>?_];rcases h with h | h;show .inl (aA h);show .inr (aA h);rw[if_neg h,if_neg λz=>h (zez.mp z),zjH];show#[λ⟨z,B,q⟩=>#[z,ak _ B,q],λ⟨z,B,q⟩=>(au.mp B).elim (λe=>absurd (e ▸ q) h) λB=>#[z,B,q]]
def zjI{a c:AG}(h:uk x a c=true):∃b∈x,c∈uz b a []:=by
 induction x with
 | nil=>cases h
 | cons b x q=>
  rw[xj] at h;split at h;show#[b,'4',bh h];obtain⟨B,h1,h2⟩:=q h;show#[B,ak _ h1,h2]
def zrW{a c:AG}(q:∀B∈bks.take i,¬ zcX B a c)(F:bks[i]?=some b)(h:zcX b a c):uk bks a c=decide (c∈uz b a []):=by
 obtain⟨hi,e⟩:=ai.mp F
 have I:bks=bks.take i++b::bks.drop '(':=by
  conv=>lhs;rw[<- aW i bks]
  rw[cO hi,e]
 rw[I,zag,if_neg λ⟨z,h1,h2⟩=>q z h1 h2,xj,if_pos h]
def zu7(h:b∈x)(a c:AG):uk (x++b::y) a c=uk (x++y) a c:=by
 rw[zag,zag];split;rfl
 ·rename_i n;rw[xj,if_neg λz=>n #[b,h,z]]
def zu8(a c:AG):uk (x++[]::y) a c=uk (x++y) a c:=by
 rw[zag,zag];split;rfl;rw[xj,if_neg];rintro (z | z);cases yc.mp z;cases yc.mp z
def zuk (rm:AG)(bk:AW)(f:AG->AG->Bool):Prop:=∀a∈yg 't',∀c,c∈uz bk a []↔f a c=true
def zrX{rm:AG}{a c:AG}(h:zuk rm bk (uk x))(B:a∈yg 't')(F:c∈yg 't'):uk (bk::y) a c=uk (x++y) a c:=by
 rw[zag];have e:zcX bk a c↔∃b∈x,zcX b a c:=by rw[<- zjH];show or_congr (h a B c) (h c F a)
 change (if zcX bk a c then decide (c∈uz bk a []) else uk y a c)=_;by_cases q:zcX bk a c;rw[if_pos q,if_pos (e.mp q),bR,b9];show h a B c;rw[if_neg q,if_neg λz=>q (e.mpr z)]
def zbG (st:AG)(b:Int):List 'W':=((List.range st.length).filter λk:Nat=>decide ((k:Int)≠b)).map λk:Nat=>((k:Int),zy st k)
def zad (st:AG)(b v:Int):Wi:=#[zbG st b,b,v,zy st b]
noncomputable def uX (rm:AG)(f:AG->AG->Bool):AW:='j'.flatMap λst=>'ď'.flatMap λb:Nat=>('ů'.filter λv:Nat=>f st (chg st b v)).map λv:Nat=>zad st b v
def zck{rm:AG}{f:AG->AG->Bool}:x∈uX rm f↔∃st∈yg 't',∃b:Nat,b<rm.length/\∃v:Nat,(v:Int)<zy rm b/\f st (chg st b v)=true/\x=zad st b v:=by
 unfold uX;simp only[fY,aL,aJ,bJ];constructor;rintro⟨st,h1,b,h2,v,⟨B,q⟩,rfl⟩;show#[st,h1,b,h2,v,by lia,q,A5];rintro⟨st,h1,b,h2,v,B,q,rfl⟩;show#[st,h1,b,h2,v,#[by lia,q],A5]
def zaG {st:AG}{b:Int}{q:Int×Int}:q∈zbG st b↔0<=q.1/\q.1<st.length/\q.1≠b/\q.2=zy st q.1:=by
 unfold zbG;simp only[aJ,bJ,aL,b9];constructor;rintro⟨k,⟨h1,h2⟩,rfl⟩;show#['4',by simpa using h1,h2,A5];rintro⟨h1,h2,B,F⟩;show#[q.1.toNat,#[by lia,by rw[bE h1];show B],?_];rw[bE h1,<- F]
def zkG {rm st:AG}{b:Int}(h:StOk rm st):Giv rm (zbG st b):=by
 show#[λq B=>?_,?_];obtain⟨h1,h2,_,F⟩:=zaG.mp B;have:=h.box _ h1 (by rw[<- h.len];show h2);rw[F];show#[h1,by rw[<- h.len];show h2,this.1,this.2];unfold zbG;show bM.mpr ?_;have:(List.range st.length).Pairwise (· < ·):=dR;show (this.sublist List.filter_sublist).imp λh=>by change (_:Int)<_;lia
def za0 {rm st a:AG}{b:Int}(J:StOk rm a)(hs:StOk rm st):xt a (zbG st b)=true↔∀k:Int,0<=k->k<rm.length->k≠b->zy a k=zy st k:=by
 unfold xt;rw[cj];constructor;intro h k k0 k1 kb;have:=h (k,zy st k) (zaG.mpr #[k0,by rw[hs.len];show k1,kb,A5]);show bh this;intro h q B;obtain⟨h1,h2,F,I⟩:=zaG.mp B;show aA (by rw[I];show h _ h1 (by rw[<- hs.len];show h2) F)
def zuG {s t:AG}(q:s.length=t.length)(h:∀c:Int,0<=c->c<s.length->zy s c=zy t c):s=t:=by show iz q λi h1 h2=>?_;have:=h (i:Int) '!' '!';unfold zy at this;simpa [h1,h2] using this
def zhl {rm st a:AG}{b:Int}(q:StOk rm a)(hs:StOk rm st)(B:xt a (zbG st b)=true)(F:zy a b=zy st b):a=st:=by
 have h:=(za0 q hs).mp B;show zuG (by rw[q.len,hs.len]) λc I J=>?_;by_cases e:c=b;rw[e];show F;show h c I (by rw[<- q.len];show J) e
def NxF (rm:AG)(f:AG->AG->Bool):Prop:=∀a∈yg 't',∀c,f a c=true->∃b v:Nat,b<rm.length/\(v:Int)<zy rm b/\zy a b≠v/\c=chg a b v
def zeN{rm:AG}(F:∀b∈x,uY rm b):NxF rm (uk x):=λa Y c h=>by
 obtain⟨b,I,J⟩:=zjI h;obtain⟨w,O,B,_,rfl⟩:=yX.mp (yc.mp J);have q:=F b I w O;have U:zy a w.b=w.w:=by unfold uw at B;rw[aR] at B;show bh B.1
 have:=q.b0;have:=q.b1;have:=q.r0;have:=q.r1;have:=q.w0;show#[w.b.toNat,w.r.toNat,by lia,?_,?_,?_];rw[bE q.r0,bE q.b0];show q.r1;rw[bE q.r0,bE q.b0,U];show λz=>q.ne z.symm;rw[bE q.r0,bE q.b0]
def zkI {rm:AG}{f:AG->AG->Bool}(hf:NxF rm f):uY rm (uX rm f):=λx hx=>by
 obtain⟨st,B,b,hb,v,hv,J,rfl⟩:=zck.mp hx;have O:=yF _ _ B;have F:=O.box (b:Int) '!' '!'
 have U:zy st b≠v:=by
  obtain⟨I,v',h1,h2,Z,h4⟩:=hf st B _ J;have hl:st.length=rm.length:=O.len;have e:zy (chg st b v) I=zy (chg st I v') I:=by rw[h4]
  rw[uB '!' '!' '!',uB '!' '!' '!',if_pos rfl] at e;by_cases Y:(I:Int)=b;rw[if_pos Y] at e;rw[<- Y,e];show Z;rw[if_neg Y] at e;show absurd e Z
 show#[zkG O,by change (0:Int)<=b;lia,by change (b:Int)<_;lia,λq hq=>(zaG.mp hq).2.2.1,by change (0:Int)<=v;lia,hv,F.1,F.2,λz=>U z.symm]
def zkM{rm:AG}{f:AG->AG->Bool}(hf:NxF rm f)(hp:bk.Perm (uX rm f)):zuk rm bk f:=λa B c=>by
 have F:=yF _ _ B;constructor;intro h;obtain⟨w,Y,q,_,rfl⟩:=yX.mp (yc.mp h);obtain⟨st,I,b,O,v,U,J,rfl⟩:=zck.mp (hp.mem_iff.mp Y);unfold uw at q;rw[aR] at q;have e:a=st:=zhl F (yF _ _ I) q.2 (bh q.1);subst e;show J;intro h;obtain⟨b,v,O,U,_,rfl⟩:=hf a B c h;show yc.mpr (yX.mpr #[zad a b v,hp.mem_iff.mpr (zck.mpr #[a,B,b,O,v,U,h,A5]),?_,'4',A5]);unfold uw;rw[aR];show#[aA A5,(za0 F F).mpr λ_ _ _ _=>rfl]
def zan {rm st q:AG}{b F v I:Nat}(hs:StOk rm st)(B:StOk rm q)(h:zad st b v=zad q F I):st=q/\b=F/\v=I:=by
 unfold zad at h;injection h with h1 h2 U J;have O:b=F:=by lia
 subst O;show#[(zhl B hs ?_ J.symm).symm,A5,by lia];rw[h1];show (za0 B B).mpr λ_ _ _ _=>rfl
def zgg {rm:AG}{f:AG->AG->Bool}:(uX rm f).Nodup:=by
 unfold uX;rw[cF,fR];have F:∀ {st},st∈yg 't'->StOk rm st:=λh=>yF _ _ h;have B:∀ {st:AG} {x:Wi},x∈('ď'.flatMap λb:Nat=>('ů'.filter λv:Nat=>f st (chg st b v)).map λv:Nat=>zad st b v)->∃b v:Nat,x=zad st b v:=λh=>by simp only[fY,aJ] at h;obtain⟨b,_,v,_,rfl⟩:=h;show#[b,v,A5]
 show#[λst q=>?_,?_];rw[fR];show#[λb _=>bM.mpr ?_,?_];have:'ů'.Pairwise (· < ·):=dR;show (this.sublist List.filter_sublist).imp λh z=>by have:=(zan (F q) (F q) z).2.2;lia
 have:'ď'.Pairwise (· < ·):=dR;show this.imp λh x I y J z=>?_;simp only[aJ] at I J;obtain⟨v,_,rfl⟩:=I;obtain⟨U,_,rfl⟩:=J;have:=(zan (F q) (F q) z).2.1;lia;have:=cF.mp (zgz rm);show this.imp_of_mem λY Z O x I y J z=>?_;obtain⟨b,v,rfl⟩:=B I;obtain⟨b',U,rfl⟩:=B J;show O (zan (F Y) (F Z) z).1
def zfk(h:z5 x=z5 y):x=y:=by obtain⟨g,b,r,w⟩:=x;obtain⟨g',F,I,w'⟩:=y;simp only[z5,Dt.tup.injEq,ef,Dt.int.injEq,and_true] at h;obtain⟨h1,h2,q,B⟩:=h;rw[zlJ (show zbY g=zbY g' from by unfold zbY;rw[h1]),h2,q,B]
def znh (x:Wi):(z5 x).hk=true:=by change (Dt.hks [_,_,_,_])=true;simp only[Dt.hks,cA,aR];show#[(zoK x.g).1,A5,A5,A5]
def ziY{rm:AG}(h:WishOk rm x):(z5 x).eqOk:=by
 have:PySem.W.kqdOk 8 (Dt.tup [z5 x]).toW=true:=(zfC (rm:=rm) (ds:=[z5 x]) λd q=>by rw[ao.mp q];show#[x,A5,h]).1;have B:PySem.W.kqdOk 7 (z5 x).toW=true:=by simp only[Dt.toW,Dt.toWs,PySem.W.kqdOk,cK,List.all_nil,cA] at this ⊢;show this
 show zeL B 8 '#'
def zcl {rm:AG}{l:AW}(hl:uY rm l)(nd:l.Nodup):RowsOk true (l.map z5) where
 key:=λx hx=>by obtain⟨g,hg,rfl⟩:=aJ.mp hx;show#[znh g,ziY (hl g hg),A5]
 cmp:=λx hx y hy=>by obtain⟨g,_,rfl⟩:=aJ.mp hx;obtain⟨k,_,rfl⟩:=aJ.mp hy;change Dt.cmps [_,_,_,_] [_,_,_,_]=true;simp only[Dt.cmps,cA,aR];show#[zem _ _,A5,A5,A5]
 first:=λh2 x hx=>by obtain⟨g,hg,rfl⟩:=aJ.mp hx;show#[_,_,A5,A5]
 nd:=by rw[cF] at *;show bM.mpr (nd.imp λhne z=>hne (zfk z))
theorem zah {α q:Type}{f:α->q}:∀ {r:List α} {l:List q},l.Perm (r.map f)->∃k:List α,l=k.map f/\k.Perm r
 | [],l,h=>#[[],h.eq_nil,.nil]
 | a::r,l,h=>by obtain⟨B,F,rfl⟩:=List.append_of_mem (h.mem_iff.mpr (List.mem_map_of_mem (f:=f) (aq (a:=a) (l:=r))));have h2:(B++F).Perm (r.map f):=(List.perm_middle.symm.trans h).cons_inv;obtain⟨k,e,I⟩:=zah h2;obtain⟨k1,k2,rfl,rfl,rfl⟩:=List.append_eq_map_iff.mp e;show#[k1++a::k2,'4',List.perm_middle.trans (I.cons a)]
def zhv (rm:AG)(f:AG->AG->Bool)(bk:AW):Prop:=bk.Perm (uX rm f)/\'Ñ'.Pairwise ltD
theorem xB {α q:Type}{f g:α->List q}:∀ {l:List α},(∀a∈l,f a=g a)->l.flatMap f=l.flatMap g
 | [],_=>rfl
 | a::l,h=>by rw[fM,fM,h a '$',xB λb B=>h b (ak _ B)]
def zqr {rm:AG}{f B:AG->AG->Bool}(h:∀a∈yg 't',∀c∈yg 't',f a c=B a c):uX rm f=uX rm B:=by unfold uX;show xB λst q=>xB λb F=>?_;have I:=yF _ _ q;have J:=aL.mp F;congr 1;show List.filter_congr λv O=>h st q _ (zgm (zd4 I '!' '!' '!' ?_));have:=aL.mp O;lia
def zg0{rm:AG}{f B:AG->AG->Bool}(h:zhv rm f bk)(h':zhv rm B q)(e:∀a∈yg 't',∀c∈yg 't',f a c=B a c):bk=q:=by have hp:'Ñ'.Perm (q.map z5):=(h.1.trans ((zqr e) ▸ h'.1.symm)).map _;have:=zhg (λ_=>zpe) (λ_ _ _=>zrZ) hp h.2 h'.2;show (dU λ_ _ z=>zfk z).mp this
def zpd{rm:AG}(q:∀b∈x,uY rm b)(h:zhv rm (uk x) bk):uY rm bk/\zuk rm bk (uk x):=#[λw B=>zkI (zeN q) w (h.1.mem_iff.mp B),zkM (zeN q) h.1]
theorem zew {α q:Type}{P:α->Bool}{g:α->q}:∀l:List α,(l.flatMap λx=>if P x=true then [g x] else [])=(l.filter P).map g
 | []=>rfl
 | a::l=>by rw[fM,List.filter_cons,zew l];cases P a <;> rfl
theorem zi9 {α q:Type}{f:α->List q}{k:Nat}:∀ {l:List α},(∀a∈l,(f a).length<=k)->(l.flatMap f).length<=l.length * k
 | [],_=>by simp
 | a::l,h=>by rw[fM,ay,aS,Nat.add_mul];have:=h a '$';have:=zi9 λb B=>h b (ak a B);lia
def zdY {rm:AG}{f:AG->AG->Bool}(q:RoomOk rm)(hp:yK rm<=64):(uX rm f).length<=2048:=by
 have h1:'j'.length<=64:=by
  have:=xY rm λn F=>by have:=q.box n F;lia
  lia
 have h2:(uX rm f).length<='j'.length * 32:=zi9 λst I=>by
  show aw (zi9 (k:=4) λb J=>?_) ?_;rw[ae];show aw (List.length_filter_le _ _) ?_;rw[aZ];have B:=aL.mp J;have:=(q.box (zy rm b) (by unfold zy;simp[B])).2;lia;rw[aZ];have:=q.few;lia
 lia
inductive F_fw  (Pn:PN):AU->Nat->AV->Prop
 | i {n:Nat} {R:AV} {st:AG} {b v:Int} (b0:0<=b) (b1:b<st.length) (h8:st.length<=8) (h:R (.d (z5 (zad st b v))) n)  : F_fw Pn [.d (stD st),.d (.int b),.d (.int v)] n R
def zdL (T:'6'):FnOk P w K mg base CX0 1 t.f12 t.d12 lE (spV 3 false F_fw):=by
 show Fun.okW (k:=0) (fr:=false) [] 1 T.q12.F zbx A5 '#' A5 λI A outer s H E Pn hr=>#[_,(zf (wS zz <| zO (i:=3) zbx.nd (x4 yj zai 'B' T.b_tuple bC (zn (JE.bo (zas (N:=lN) (A8:=[none,none,some 1]) A5 '§' (wI zjV <| zju A5 T.b_enumerate 'Á') (λ_ _ _ _=>(wG uF <| uG (n:=2) K A5 A5 (wH zZ <| zx (wG zK <| zm (i:=0) (show (lN:AM).Nodup by decide +kernel)) (wH zZ <| zx (wG zK <| zm (i:=1) (show (lN:AM).Nodup by decide +kernel)) 'Ü')))) 'ǡ' (λ_ _ _ _=>(z9 'ģ')))) zt)))
   (zh (zC (z9 (za (kv 3) (za 'Y' (za (kv 2) (za (xx zA z0 'a' 'M' ':') zd)))))))),λws n R J=>?_]
 obtain @⟨_,_,st,b,v,O,U,Y,r⟩:=J;left;show zdl (List.range st.length) (λi:Nat=>W.d (.tup [.int (i:Int),.int (zy st i)])) (ziX st) (λD=>∃q B,D=[q,B,some (.d (.int b))]) (λi:Nat=>decide ((i:Int)≠b)) (λi:Nat=>yq ((i:Int),zy st i)) (by rw[aZ];show aw Y '#') 'Ä' ?_ ?_;rintro i hi Z ⟨q,B,rfl⟩ C hY hN;left;show zhQ (λh=>?_) (λh=>?_);left;show hY (aA h) 'Ä';show hN (aG λz=>z h) 'Ä';left;show onA O U ?_;left;rw[show ((List.range st.length).filter λi:Nat=>decide ((i:Int)≠b)).map (λi:Nat=>yq ((i:Int),zy st i))=(zbG st b).map yq by unfold zbG;rw[aK];rfl];show r
noncomputable def ldW (rm:AG)(bk:AW):W:=.df (ldD 'j' λs=>uz bk s [])
def zdA{rm:AG}{a:AG}(h:a∈yg 't'):yI (ldD 'j' λs=>uz bk s []) a=some (zbP (uz bk a [])):=zg7 h
def zam{rm:AG}{a:AG}(F:RoomOk rm)(q:uY rm bk)(h:a∈yg 't'):(zbP (uz bk a [])).eqOk:=zlC (n:=rm.length) λd B=>by obtain⟨s,hs,rfl⟩:=aJ.mp B;show#[s,A5,(zns q (yF _ _ h) hs).len]
def zbK {a:AG}{l:AF}:stD a∈l.map stD↔a∈l:=by
 constructor;intro h;obtain⟨x,h1,h2⟩:=aJ.mp h;have:x.map Dt.int=a.map Dt.int:=by simpa [stD] using h2
 rwa[<- (dU λ_ _ z=>by cases z;rfl).mp this];show List.mem_map_of_mem
inductive F_led  (Pn:PN):AU->Nat->AV->Prop
 | i {n:Nat} {R:AV} {rm:AG} {bks:List AW} {a c:AG} (hR:RoomOk rm) (hB:∀b∈bks,uY rm b) (ha:a∈yg (rm.map zl)) (hc:c∈yg (rm.map zl)) (h:R (.d (.bl (uk bks a c))) n)  : F_led Pn [.cu (lsW (bks.map (ldW rm))),.d (stD a),.d (stD c)] n R
def zhP (T:'6'):FnOk P w K mg base CX0 1 t.f13 t.d13 lJ (spV 3 false F_led):=by
 show Fun.okW (k:=0) (fr:=false) [] 1 T.q13.F ze5 A5 '#' A5 λas A outer s H E Pn O=>#[_,(zf (xf be A5 (zu1 K A5 'f') (wG zK <| zm (i:=3) ze5.nd) (zh (wS zT <| xz (JW.t (wW uK <| zb1 (wT zp <| yb (zka O.units) zqM (kb 2) (JE.bo (zfS (zhH O) 's' 'M' ':')) 'ň') (uj 'F' (wT zp <| yb (zka O.units) zqM 'M' (JE.bo (zfS (zhH O) 's' (kb 2) ':')) 'ň')))) (zh (zC (zdy (zka O.units) zqM (kb 2) (JE.bo (zfS (zhH O) 's' 'M' ':')) 'ň'))) zS)))
   (zh (zC zid))),λws n R hF=>?_]
 obtain @⟨_,_,rm,bks,a,c,hR,hB,U,hc,r⟩:=hF;left;show#[_,A5,?_];show xh bks (ldW rm) A5 (λi D m=>m=n/\(∃v,D=['ƴ',some (.d (stD a)),some (.d (stD c)),v])/\∀b∈bks.take i,¬ zcX b a c) #[A5,#[none,A5],'4'] ?_ ?_;rintro i b D m Y ⟨rfl,⟨v,rfl⟩,Z⟩ C B E hC _ hE;have ag:=aB Y;unfold ldW;left;have I:=hB b ag;show#[a,A5,?_]
 (with_reducible show zf5 (zdA U) ?_)
 left;show#[xo,zam hR I U,λq hq=>?_];rw[zbK] at hq
 have fin:zcX b a c->∀J:Bool,(J=true↔c∈uz b a [])->E (.d (.bl J)) m:=λhs J h2=>by
  show hE ?_;have e:uk bks a c=J:=by rw[zrW Z Y hs,bR,h2,b9]
  rw[e] at r;show r
 show zpv (λal=>?_) (λab=>?_);left;show#[a,A5,?_]
 (with_reducible show zf5 (zdA U) ?_)
 left;show#[xo,zam hR I U,λJ h2=>?_];rw[zbK] at h2;show fin (.inl (hq.mp al)) J h2;left;show#[c,A5,?_]
 (with_reducible show zf5 (zdA hc) ?_)
 left;show#[xo,zam hR I hc,λq3 h3=>?_];rw[zbK] at h3;show zpv (λan=>?_) (λac=>?_);left;show#[a,A5,?_]
 (with_reducible show zf5 (zdA U) ?_)
 left;show#[xo,zam hR I U,λJ h2=>?_];rw[zbK] at h2;show fin (.inr (h3.mp an)) J h2;left;show hC #[A5,';',λb' ad=>?_];rw[zj Y] at ad;rcases aC.mp ad with z | z;show Z b' z;rw[ao.mp z];rintro (y | y);rw[hq.mpr y] at ab;cases ab;rw[h3.mpr y] at ac;cases ac;rintro D m ⟨rfl,⟨v,rfl⟩,Z⟩;rw[bB] at Z;left
 have e:uk bks a c=false:=by
  cases h:uk bks a c with
  | false=>rfl
  | true=>
   obtain⟨b,Y,hc⟩:=zjI h;show absurd (.inl hc) (Z b Y)
 rw[e] at r;show r
inductive F_laid  (Pn:PN):AU->Nat->AV->Prop
 | i {n:Nat} {R:AV} {rm:AG} {bks:List AW} (hR:RoomOk rm) (hp:yK rm<=64) (hB:∀b∈bks,uY rm b) (hl:bks.length<=100) (h:∀bk,zhv rm (uk bks) bk->R (.d (y9 bk)) n)  : F_laid Pn [.d (stD rm),.d (.lst (bks.map y9))] n R
def zmm (T:'6'):FnOk P w K mg base CX0 4 t.f14 t.d14 lL (spV 2 false F_laid):=by
 have G4:=za8 (P:=P) (w:=w) (base:=base) T;have G7:=zaC (P:=P) (w:=w) (base:=base) T;have G8:=zb8 (P:=P) (w:=w) (base:=base) T;have G11:=zaB (P:=P) (w:=w) (base:=base) T;have G12:=zdL (P:=P) (w:=w) (base:=base) T;have G13:=zhP (P:=P) (w:=w) (base:=base) T
 show Fun.okW (k:=3) (fr:=false) [] 2 T.q14.F zd2 A5 '#' A5 λa4 A outer s H E Pn O=>#[_,(zf (zo3 (wE zo <| yC T.q4 G4 O 'Á'))
   (zf (wS zz <| zO (i:=2) zd2.nd (zo1 (N:=[Ar,Aj]) (A8:=[none,some 0]) A5 '§' (wI za5 <| zaY K A5 'Y') (λ_ _ _ _=>(wG zK <| zm (i:=0) (show ([Ar,Aj]:AM).Nodup by decide +kernel))) 'ü' (λ_ _ _ _=>(wE zo <| yC T.q11 G11 O (za 'Y' 'Á')))))
   (zf (wS zz <| zo7 (i:=3) (zjx (ix:=3) zd2.nd A5 A5 (N:=ld) (A8:=[none,none,none,none,some 0,some 2]) A5 '§' (wI za5 <| zaY K A5 (wE zo <| yC T.q7 G7 O 'Á')) (λ_ _ _ _=>(wG zK <| zm (i:=0) (show (ld:AM).Nodup by decide +kernel))) 'ü' (λ_ _ _ _=>(wI zjV <| zju A5 T.b_enumerate (za (kv 4) zd))) (λ_ _ _ _=>(wG uF <| uG (n:=2) K A5 A5 (wH zZ <| zx (wG zK <| zm (i:=1) (show (ld:AM).Nodup by decide +kernel)) (wH zZ <| zx (wG zK <| zm (i:=2) (show (ld:AM).Nodup by decide +kernel)) 'Ü')))) 'ü' (λ_ _ _ _=>(wI xa <| ya A5 T.b_range (zn (kb 2) zt))) (λ_ _ _ _=>(wG zK <| zm (i:=3) (show (ld:AM).Nodup by decide +kernel))) (λ_ _ _ _=>(zaZ (wT zp <| yD (JE.bo (wE zo <| yC T.q13 G13 O (za (kv 5) (za 'f' (za (wE zo <| yC T.q8 G8 O (za 'f' (za 'Y' 'Ľ'))) zd)))))))) (λ_ _ _ _=>(wE zo <| yC T.q12 G12 O (za 'f' (za 'Y' 'Ľ'))))))
   (zh (zC (x4 yj zai 'B' T.b_tuple bC (zn (JE.bo (z6 (zeq O.units) zhr 'B' T.b_sorted eS (zn 's' zt))) zt))))))),λws n R hF=>?_]
 obtain @⟨_,_,rm,bks,I,hp,hB,hl,r⟩:=hF;left;have h8:=I.few
 have a3:'j'.length<=64:=by
  have:=xY rm λn hn=>by have:=I.box n hn;lia
  lia
 show#[rm,A5,I.box,hp,?_];left;show zrg bks (λb=>.d (y9 b)) '´' (λD=>∃v,D=[v,'m']) (ldW rm) (aw hl '#') ';' ?_ ?_;rintro b hb U ⟨v,rfl⟩ C hC;left;show F_ab.i I (hB b hb) ?_;show hC ';';left;show F_sts.i I ?_;have J:=zdY (f:=uk bks) I hp;have e1:('j'.flatMap λst=>'ď'.flatMap λb:Nat=>'ů'.flatMap λv:Nat=>if uk bks st (chg st b v)=true then [z5 (zad st b v)] else [])=(uX rm (uk bks)).map z5:=by unfold uX;rw[List.map_flatMap];show xB λst _=>?_;rw[List.map_flatMap];show xB λb _=>?_;rw[zew,aK];rfl
 left;show zfu 'j' (λY=>.d (stD Y)) '´' (λD=>∃v1 Z v3 q,D=[v1,Z,v3,q,'m','ƴ']) _ (by rw[e1,ae];show aw (by simp;show J) '#') #[_,_,_,_,A5] ?_ ?_;rintro Y ab U ⟨v1,Z,v3,q,rfl⟩ ds K' ad hK;have hS:=yF _ _ ab;left;show zfu 'ď' (λb:Nat=>W.d (.tup [.int (b:Int),.int (zy rm b)])) (ziX rm) (λD=>∃Z v3 q,D=[some (.d (stD Y)),Z,v3,q,'m','ƴ']) _ ad #[_,_,_,A5] ?_ λ{D} ⟨Z,v3,q,e⟩=>hK #[_,_,_,_,e];rintro b hb U ⟨Z,v3,q,rfl⟩ a5 K2 ag al;have an:=aL.mp hb;have a7:=I.box (zy rm b) (by unfold zy;simp[an]);left;show#['d',?_];show zfu 'ů' (λv:Nat=>W.d (.int (v:Int))) (zaH _) (λD=>∃q,D=[some (.d (stD Y)),some (.d (.int (b:Int))),some (.d (.int (zy rm b))),q,'m','ƴ']) _ ag ';' ?_ λ{D} ⟨q,e⟩=>al #[_,_,_,e];rintro v hv U ⟨q,rfl⟩ bb K3 ac B;have bc:=aL.mp hv;have as:Y.length<=8:=by rw[hS.len];show h8
 left;show F_chg.i '!' '!' ?_;left;show F_led.i I hB ab (zgm (zd4 hS '!' '!' '!' '!')) ?_;left
 cases hc:uk bks Y (chg Y b v) with
 | true=>
  rw[hc] at ac B;left;show F_fw.i '!' (by rw[hS.len];lia) as ?_;left;show#[by simp at ac;lia,B ';']
 | false=>
  rw[hc] at B;left;have:=B #[some (.d (.int (v:Int))),A5];rw[if_neg '#',bT] at this;show this
 rintro D ⟨v1,Z,v3,q,rfl⟩;left;rw[fq,e1];show#[by rw[ae];show aw J '#',#[_,zcl (zkI (zeN hB)) zgg],λl' a0 a1=>?_];left;obtain⟨bk,rfl,a2⟩:=zah a0;show r bk #[a2,a1]
inductive F_full  (Pn:PN):AU->Nat->AV->Prop
 | i {n:Nat} {R:AV} {rm:AG} {b:AW} (hR:RoomOk rm) (hp:yK rm<=64) (hB:uY rm b) (h:∀bk,zhv rm (uk [b]) bk->R (.d (y9 bk)) n)  : F_full Pn [.d (stD rm),.d (y9 b)] n R
def zml (T:'6'):FnOk P w K mg base CX0 5 t.f15 t.d15 lu (spV 2 false F_full):=by have G14:=zmm (P:=P) (w:=w) (base:=base) T;show Fun.okW (k:=4) (fr:=false) [] 0 T.q15.F zkN A5 '#' A5 λq A outer s H E Pn B=>#[_,(zh (zC (wE zo <| yC T.q14 G14 B (za 'f' (za (zat (za 'Y' zd)) zd))))),λY n R I=>?_];obtain @⟨_,_,rm,b,J,hp,O,r⟩:=I;left;show F_laid.i (bks:=[b]) J hp (λx U=>by rw[ao.mp U];show O) '$' λbk h=>?_;show r bk h
def zik (q:AU):Prop:=∃ (rm:AG) (x:Dt),q=['ò',.d x]/\'ħ'/\64<yK rm
def zmo (T:'6'):FnOk P w K mg base (CX1 P w t.C_TooMany) 4 t.f14 t.d14 lL (spX 2 zik):=by have X_must_be_small:=za9 (P:=P) (w:=w) (base:=base) T;show okX (k:=3) T.q14.F zd2 A5 λq A outer s H E Pn B=>#[_,(zo8 zjb T.q4 X_must_be_small B (za (zjt 0) zd)),λO n U I=>?_];obtain⟨rm,x,rfl,J,hp⟩:=I;show#[_,A5,A5,A5,rm,A5,J,hp]
def zij (q:AU):Prop:=∃ (rm:AG) (x:Dt),q=['ò',.d x]/\'ħ'/\64<yK rm
def zmn (T:'6'):FnOk P w K mg base (CX1 P w t.C_TooMany) 5 t.f15 t.d15 lu (spX 2 zij):=by have zik:=zmo (P:=P) (w:=w) (base:=base) T;show okX (k:=4) T.q15.F zkN A5 λq A outer s H E Pn B=>#[_,(zrN zjb T.q14 zik B (za (zjt 0) (za (zat (za (zjt 1) zd)) zd))),λO n U I=>?_];obtain⟨rm,x,rfl,J,hp⟩:=I;show#[_,A5,_,A5,A5,A5,rm,_,A5,J,hp]
inductive F_mkR  (Pn:PN):AU->Nat->AV->Prop
 | i {n:Nat} {R:AV} {p:Addr} {most:Int} (hP:IsQ Pn p) (hm:most=64) (h:∀rm m,RoomOk rm->yK rm<=64->m<=n+20->R (.d (stD rm)) m) (hn:n+30<=1000000:=by lia):F_mkR Pn [.pen p,.d (.int most)] n R
def zdJ (T:'6'):FnOk P w K mg base CX0 2 t.f16 t.d16 lD (spV 2 false F_mkR):=by
 have G1:=z7 (P:=P) (w:=w) (base:=base) T
 show Fun.okW (k:=1) (fr:=false) [] 4 T.q16.F ym A5 '#' A5 λad A outer s H E Pn J=>#[_,(zf (wS zT <| xz (wT zp <| yb zcM zli 'Ɵ' 'L' 'G') (zh (zC (xx zbd zk5 (JE.bo (zat (za (z9 (za zi (za zi 'ß'))) (za (z9 (za zi (za zi 'õ'))) (za (z9 'ß') (za (z9 'ß') (za (z9 (za zi 'ß')) zd))))))) 'Ɵ' ':'))) zS)
   (zf (wS zz <| zO (i:=2) ym.nd (z9 zd))
   (zf (wS zz <| zO (i:=3) ym.nd zi)
   (zf (xf be A5 (wI xa <| ya A5 T.b_range (zn (JE.bo (zaP yZ zcx 'L' 'Ɵ')) zt)) (wG zK <| zm (i:=4) ym.nd) (zf (wS zz <| zO (i:=5) ym.nd (zaP yZ zcx 'L' 'Ɵ'))
   (zh (wS zT <| xz (wT zp <| yb zmr zue (JE.bo (zaP zcb ztF 's' (kb 5))) 'M' 'G') (zf (wS zz <| zO (i:=2) ym.nd (zaP yO ut (kb 2) (JE.bo (z9 (za (kv 5) zd)))))
   (zh (wS zz <| zO (i:=3) ym.nd (zaP zcb ztF 's' (kb 5))))) zS))))
   (zh (zC (kv 2))))))),λws n R hF=>?_]
 obtain @⟨_,_,p,ac,U,hm,r,hn⟩:=hF;left;subst hm;show tk U λag w0 w1=>?_;left;show zdM 'ª' 'ª';left;show tk U λx x0 x1=>?_;left;show zpu (L:=[_,_,_,_,_]) x0 x1 λy hy=>?_;simp only[au,ck,or_false] at hy;left;rcases hy with rfl | rfl | rfl | rfl | rfl;show r [2,2,2,2,2,2] _ '¾' '#' '!';show r [4,4,4] _ '¾' '#' '!';show r [2,4,2,4] _ '¾' '#' '!';show r [3,3,3,2] _ '¾' '#' '!';show r [4,2,2,2,2] _ '¾' '#' '!';left;show tk U λt t0 t1=>?_;left;show#['d',zbX (λi D m=>m=n+2+i/\i<=5/\∃I Y Z,D=[some (.pen p),some (.d (.int 64)),some (.d (stD I)),some (.d (.int (yK I))),Y,Z]/\(∀r∈I,2<=r/\r<=4)/\yK I<=64/\(0<i->I≠[])) #[by lia,by lia,[],none,none,A5,'4',by ext,by lia] ?_ ?_];rintro i D m hi ⟨rfl,ab,I,Y,Z,rfl,q,hp,O⟩ C B E hC _ _;have al:=zkj (ns:=I) λr J=>by have:=q r J;lia
 have h8:I.length<=8:=zbo q '!';left;show tk U λx x0 x1=>?_;left;show#[.inr 'd',?_];left;show zdM (λh=>?_) (λh=>?_);left;show#[len1 (aw h8 '#'),?_];rw[cat1];left;show#[.inr 'd',?_];left;rw[<- xT]
 show hC #[by lia,by lia,I++[2+x],_,_,A5,λr J=>by
  rcases aC.mp J with z | z;show q r z;rw[ao.mp z];lia,by rw[xT];show h,λ_=>by simp]
 left;show hC #[by lia,by lia,I,_,_,A5,q,hp,λ_ z=>?_];subst z;have e1:yK ([]:AG)=1:=rfl;rw[e1] at h;lia;rintro D m ⟨rfl,ab,I,Y,Z,rfl,q,hp,O⟩;left;show r I _ #[O '!',zbo q '!',q] hp '!'
inductive F_great  (Pn:PN):AU->Nat->AV->Prop
 | i {n:Nat} {R:AV} {p:Addr} (hP:IsQ Pn p) (h:∀rm,RoomOk rm->64<yK rm->R (.d (stD rm)) (n+1)) (hn:n+5<=1000000:=by lia):F_great Pn [.pen p] n R
def zcG (T:'6'):FnOk P w K mg base CX0 2 t.f17 t.d17 lQ (spV 1 false F_great):=by
 have G1:=z7 (P:=P) (w:=w) (base:=base) T
 show Fun.okW (k:=1) (fr:=false) [] 1 T.q17.F zaJ A5 '#' A5 λB A outer s H E Pn I=>#[_,(zf (wS zz <| zO (i:=1) zaJ.nd (zat (za (z9 (za zi (za zi (za zi 'ß')))) (za (z9 (za zi (za zi (za zi (za zi 'ß'))))) (za (z9 'ß') (za (z9 'ß') (za (z9 'ß') (za (z9 'ß') zd))))))))
   (zh (zC (xx zbd zk5 'M' (JE.bo (wE zo <| yC T.q1 G1 I (za 'f' 'õ'))) ':')))),λZ n R J=>?_]
 obtain @⟨_,_,p,O,r,hn⟩:=J;left;show tk O λx U Y=>?_;left;show zpu (L:=[_,_,_,_,_,_]) U Y λy q=>?_;simp only[au,ck,or_false] at q;left;rcases q with rfl | rfl | rfl | rfl | rfl | rfl;show r [2,2,2,2,2,2,2] '¾' '#';show r [2,2,2,2,2,2,2,2] '¾' '#';show r [4,4,4,4] '¾' '#';show r [3,3,3,3] '¾' '#';show r [4,2,4,4] '¾' '#';show r [3,3,2,4] '¾' '#'
inductive F_kind  (Pn:PN):AU->Nat->AV->Prop
 | i {n:Nat} {R:AV} {p:Addr} {rm:AG} (hP:IsQ Pn p) (hR:RoomOk rm) (h:∀b x y:Int,0<=b->b<rm.length->0<=x->x<zy rm b->0<=y->y<zy rm b->x≠y->R (.d (.tup [.int b,.int x,.int y])) (n+3)) (hn:n+10<=1000000:=by lia):F_kind Pn [.pen p,.d (stD rm)] n R
def zaA (T:'6'):FnOk P w K mg base CX0 2 t.f18 t.d18 lh (spV 2 false F_kind):=by
 have G1:=z7 (P:=P) (w:=w) (base:=base) T
 show Fun.okW (k:=1) (fr:=false) [] 2 T.q18.F uN A5 '#' A5 λY A outer s H E Pn I=>#[_,(zf (wS zz <| zO (i:=2) uN.nd (wE zo <| yC T.q1 G1 I (za 'f' (za 'Ʀ' zd))))
   (zf (wS zz <| zO (i:=3) uN.nd (wE zo <| yC T.q1 G1 I (za 'f' (za (xx zA z0 'M' (kb 2) ':') zd))))
   (zh (zC (z9 (za (kv 2) (za (kv 3) (za (zaP zaE ztE (JE.bo (zaP yZ zcx (JE.bo (zaP yZ zcx 's' 'L')) (JE.bo (wE zo <| yC T.q1 G1 I (za 'f' (za (zaP zsp zv4 (JE.bo (xx zA z0 'M' (kb 2) ':')) 'L') zd)))))) (JE.bo (xx zA z0 'M' (kb 2) ':'))) zd)))))))),λws n R Z=>?_]
 obtain @⟨_,_,p,rm,J,O,r,hn⟩:=Z;left;have h8:=O.few;have h0:=eP.mpr O.ne;left;rw[ae];show tk J λb q B=>?_;have hb:=zaI O.box (b:=b) q B;left;show onA q B ?_;left;show tk J λx x0 U=>?_;left;show onA q B ?_;left;show tk J λy y0 y1=>?_;left;show onA q B ?_;left;show#[by lia,?_];left;show r b x _ q B x0 U (c8 _ '!') (cy _ '!') ?_;generalize zy rm b=M at hb U y1;have:M=2\/M=3\/M=4:=by lia
 rcases this with rfl | rfl | rfl <;> lia
inductive F_mkGv  (Pn:PN):AU->Nat->AV->Prop
 | i {n:Nat} {R:AV} {p:Addr} {rm:AG} {box few:Int} (hP:IsQ Pn p) (hR:RoomOk rm) (hf:1<=few) (hf2:few<=10) (h:∀g m,Giv rm g->(∀q∈g,q.1≠box)->m<=n+20->R (.d (zbY g)) m) (hn:n+40<=1000000:=by lia):F_mkGv Pn [.pen p,.d (stD rm),.d (.int box),.d (.int few)] n R
def u4 (T:'6'):FnOk P w K mg base CX0 2 t.f19 t.d19 lj (spV 4 false F_mkGv):=by
 have G1:=z7 (P:=P) (w:=w) (base:=base) T
 show Fun.okW (k:=1) (fr:=false) [4] 2 T.q19.F uf A5 '#' A5 λad A outer s H E Pn hr=>#[_,(zf (wS za6 <| zcZ (i:=4) uf.nd (zat zd))
   (zf (xf be A5 (wI xa <| ya A5 T.b_range (zn (JE.bo 'Ʀ') zt)) (wG zK <| zm (i:=5) uf.nd) (zh (wS zT <| xz (JW.t (wW zb5 <| zeG (wT zp <| yb zcN zlj (kb 5) (kb 2) 'G') (uj 'h' (wT zp <| yb zmq u_gt (JE.bo (wE zo <| yC T.q1 G1 hr (za 'f' 'Ľ'))) 'L' 'G')))) (zh (wS zfV <| zjv 4 (z9 (za (kv 5) (za (wE zo <| yC T.q1 G1 hr (za 'f' (za (xx zA z0 'M' (kb 5) ':') zd))) zd))))) zS)))
   (zh (zC (x4 yj zai 'B' T.b_tuple bC (zn (kb 4) zt)))))),λws n R hF=>?_]
 obtain @⟨_,_,p,rm,U,Z,hP,hR,hf,ag,r,hn⟩:=hF;left;have h8:=hR.few;rw[ae];show#['d',zbX (λi D m=>m<=n+2 * i/\i<=rm.length/\∃g v5,D=[some (.pen p),'m',some (.d (.int U)),some (.d (.int Z)),some (.d (.lst (g.map yq))),v5]/\Giv rm g/\(∀q∈g,q.1≠U)/\(∀q∈g,q.1<(i:Int))/\g.length<=i) #[by lia,aP _,[],_,A5,#['4',.nil],'4','4','4'] ?_ ?_]
 ·rintro i D m hi ⟨hm,ab,g,v5,rfl,Y,I,J,ac⟩ C B E hC _ _;have al:=zaI hR.box (b:=(i:Int)) '!' '!';left;show zhQ (λhb=>?_) 'ª';rotate_left;left;show hC #[by lia,by lia,g,_,A5,Y,I,λq O=>by have:=J q O;lia,by lia];left;show tk hP λt t0 t1=>?_;left;show zdM 'ª' 'ª';rotate_left;left;show hC #[by lia,by lia,g,_,A5,Y,I,λq O=>by have:=J q O;lia,by lia];left;show onA '!' '!' ?_;left;show tk hP λu u0 u1=>?_;left;show#[by rw[ae];show bQ (by lia:_<=8) '#',hC #[by lia,by lia,g++[((i:Int),u)],_,by rw[aO];rfl,Y.snoc J '!' '!' u0 u1,λq O=>?_,λq O=>?_,by rw[ay];simp;lia]];rcases aC.mp O with z | z;show I q z;rw[ao.mp z];show hb;rcases aC.mp O with z | z;have:=J q z;lia;rw[ao.mp z];change (i:Int)<((i+1:Nat):Int);lia
 rintro D m ⟨hm,ab,g,v5,rfl,Y,I,J,ac⟩;left;show r g m Y I '!'
def zoL{rm:AG}{g:List 'W'}(h:Giv rm g):Giv rm (g.take k++g.drop (k+1)):=by
 have hs:(g.take k++g.drop (k+1)).Sublist g:=by
  have e:=aW k g
  conv=>rhs;rw[<- e]
  show List.Sublist.append (List.Sublist.refl _) ?_;rw[<- eJ];show eC 1 _
 show#[λq B=>h.ok q (hs.subset B),h.up.sublist hs]
def zoM{rm:AG}{g:List 'W'}{q:Int×Int}{x:Int}(h:Giv rm g)(B:g[k]?=some q)(I:0<=x)(J:x<zy rm q.1):Giv rm (g.take k++[(q.1,x)]++g.drop (k+1)):=by
 have e:g=g.take k++[q]++g.drop (k+1):=by rw[<- zj B,aW]
 have O:(g.take k++[(q.1,x)]++g.drop (k+1)).map '%'=g.map '%':=by
  conv=>rhs;rw[e]
  simp
 show#[λF U=>?_,?_];rcases aC.mp U with z | z;rcases aC.mp z with z | z;show h.ok F (bG z);rw[ao.mp z];have:=h.ok q (aB B);show#[this.1,this.2.1,I,J];show h.ok F (bN z);have h2:(g.map '%').Pairwise (· < ·):=bM.mpr h.up;rw[<- O] at h2;show bM.mp h2
def zl0{g:List 'W'}:∀q∈g.take k++g.drop (k+1),∃B∈g,q.1=B.1:=λq F=>#[q,(aC.mp F).elim bG bN,A5]
def zl1{g:List 'W'}{p:Int×Int}{x:Int}(hp:g[k]?=some p):∀q∈g.take k++[(p.1,x)]++g.drop (k+1),∃B∈g,q.1=B.1:=λq F=>by
 rcases aC.mp F with z | z;rcases aC.mp z with z | z;show#[q,bG z,A5];rw[ao.mp z];show#[p,aB hp,A5];show#[q,bN z,A5]
inductive F_near  (Pn:PN):AU->Nat->AV->Prop
 | i {n:Nat} {R:AV} {p:Addr} {rm:AG} {box:Int} {g:List (Int×Int)} (hP:IsQ Pn p) (hR:RoomOk rm) (hG:Giv rm g) (h:∀g' m,Giv rm g'->(∀q∈g',∃q2∈g,q.1=q2.1)->m<=n+2->R (.d (zbY g')) m) (hn:n+10<=1000000:=by lia):F_near Pn [.pen p,.d (stD rm),.d (.int box),.d (zbY g)] n R
def zdI (T:'6'):FnOk P w K mg base CX0 2 t.f20 t.d20 li (spV 4 false F_near):=by
 have G1:=z7 (P:=P) (w:=w) (base:=base) T
 show Fun.okW (k:=1) (fr:=false) [] 4 T.q20.F y6 A5 '#' A5 λac A outer s H E Pn O=>#[_,(zf (wS zT <| xz (wT zp <| yb (zhd O.units) znb 's' (JE.bo (z9 zd)) 'G') (zh (zC (kv 3))) zS)
   (zf (wS zz <| zO (i:=4) y6.nd (wE zo <| yC T.q1 G1 O (za 'f' (za 'ƥ' zd))))
   (zf (wS zz <| zO (i:=5) y6.nd 'ŧ')
   (zf (wS zT <| xz (wT zp <| yb zcM zli (kb 5) 'L' 'G') (zh (zC (zaP yO ut (JE.bo (wE xN <| zcE 's' xL (wO yU <| xM (kb 4)))) 'ȴ'))) zS)
   (zf (wS zT <| xz (wT zp <| yb zcM zli (kb 5) 'L' 'G') (zf (zjw (xx zA z0 's' (kb 4) ':') (wG uF <| uG (n:=2) K A5 A5 (wH zZ <| zx (wG zK <| zm (i:=6) y6.nd) (wH zZ <| zx (wG zK <| zm (i:=7) y6.nd) 'Ü'))))
   (zh (zC (zaP yO ut (JE.bo (zaP yO ut (JE.bo (wE xN <| zcE 's' xL (wO yU <| xM (kb 4)))) (JE.bo (z9 (za (z9 (za (kv 6) (za (zaP zaE ztE (JE.bo (zaP yZ zcx (kb 7) 'L')) (JE.bo (xx zA z0 'M' (kb 6) ':'))) zd))) zd))))) 'ȴ')))) zS)
   (zh (zC (kv 3)))))))),λws n R hF=>?_]
 obtain @⟨_,_,p,rm,ad,g,Y,Z,J,r,hn⟩:=hF;left;have h8:=zfH J Z.few;show#[zcW.1,xo (ns:=[]),λc hc=>?_];left
 cases c with
 | true=>
  left;show r g _ J (λq I=>#[q,I,A5]) '!'
 | false=>
  have U:g≠[]:=λz=>by subst z;show absurd (hc.mpr A5) '#'
  have ab:=eP.mpr U;left;rw[ae];show tk Y λa a0 a1=>?_;obtain⟨k,rfl⟩:∃k:Nat,a=(k:Int):=#[a.toNat,by lia];have hk:k<g.length:=by lia
  obtain⟨q,I⟩:∃q,g[k]?=some q:=#[g[k],am hk];have e1:ux (g.map yq) none 'ÿ'=(g.take k).map yq:=by rw[zaW,zgH]
  have e2:ux (g.map yq) (some ((k:Int)+1)) none=(g.drop (k+1)).map yq:=by rw[zaW,show ((k:Int)+1)=((k+1:Nat):Int) by lia,ziG]
  have l1:(g.take k).length<=100:=by rw[bi];lia
  have l2:(g.drop (k+1)).length<=100:=by rw[eK];lia
  left;show tk Y λw w0 w1=>?_;left;show zdM 'ª' 'ª';left;rw[e1,e2];show#[by rw[ae,ae];show aw (by lia:_<=200) '#',?_];rw[<- aO];show r _ _ (zoL J) zl0 '!';left;show zdM 'ª' 'ª';have B:=J.ok q (aB I);have ag:=zaI Z.box (b:=q.1) B.1 B.2.1;left;show onG I ?_;left;show onA B.1 B.2.1 ?_;left;show#[by lia,?_];left;rw[e1];show#[by rw[ae];show aw (g9 l1 (aj 1)) '#',?_];left;rw[e2];show#[by rw[ay,ae,ae];show aw (g9 (g9 l1 (aj 1)) l2) '#',?_];have e3:(g.take k).map yq++[Dt.tup [Dt.int q.1,Dt.int ((q.2+1) % zy rm q.1)]]++(g.drop (k+1)).map yq=(g.take k++[(q.1,(q.2+1) % zy rm q.1)]++g.drop (k+1)).map yq:=by rw[aO,aO];rfl
  rw[e3];show r _ _ (zoM J I (c8 _ '!') (cy _ '!')) (zl1 I) '!';left;show r g _ J (λq I=>#[q,I,A5]) '!'
inductive F_allR  (Pn:PN):AU->Nat->AV->Prop
 | i {n:Nat} {R:AV} {rm:AG} (hR:RoomOk rm) (h:R (.d (zbP (yg (rm.map zl)))) n)  : F_allR Pn [.d (stD rm)] n R
def zeS (T:'6'):FnOk P w K mg base CX0 1 t.f21 t.d21 ly (spV 1 false F_allR):=by
 show Fun.okW (k:=0) (fr:=false) [3] 4 T.q21.F yR A5 '#' A5 λad A outer s H E Pn hr=>#[_,(zf (wS zz <| zO (i:=1) yR.nd (zat (za (z9 zd) zd)))
   (zf (xf be A5 (wI uJ <| zbg K A5 'f') (wG zK <| zm (i:=2) yR.nd) (zf (wS za6 <| zcZ (i:=3) yR.nd (zat zd))
   (zf (xf be A5 (wI za5 <| zaY K A5 'Y') (wG zK <| zm (i:=4) yR.nd) (zh (wS zjU <| znH 3 (zas (N:=lO) (A8:=[none,some 4]) A5 '§' (wI xa <| ya A5 T.b_range (zn (kb 2) zt)) (λ_ _ _ _=>(wG zK <| zm (i:=0) (show (lO:AM).Nodup by decide +kernel))) 'ü' (λ_ _ _ _=>(zaP yO ut 'M' (JE.bo (z9 'Á'))))))))
   (zh (wS zmb <| zo4 (i:=1) 3 yR.nd A5 'º')))))
   (zh (zC 'Y')))),λws n R hF=>?_]
 obtain @⟨_,_,rm,hR,r⟩:=hF;left;have hb:=hR.box;show xh rm (λi=>.d 'P') '´' (λi D m=>m=n/\∃v2 v3 Y,D=['m',some (.d (zbP (yg ((rm.take i).map zl)))),v2,v3,Y]) #[A5,none,none,none,A5] ?_ ?_;rintro i a D m ha ⟨rfl,v2,v3,Y,rfl⟩ C B E hC _ _;have hm:=hb a (aB ha);obtain⟨w,rfl⟩:∃w:Nat,a=(w:Int):=#[a.toNat,by lia];have J:=zgy hR.few hb i;have O:∀q∈yg ((rm.take i).map zl),q.length<=8:=λq I=>by rw[zdh _ _ I,ae,bi];have:=hR.few;lia
 have U:yg ((rm.take '(').map zl)=(yg ((rm.take i).map zl)).flatMap λq=>(zl (w:Int)).map λx=>q++[x]:=by rw[zj ha,aO,az,dX,yE];rfl
 generalize yg ((rm.take i).map zl)=rows at J U O;left;show xh rows (λq=>.d (stD q)) '´' (λj D m'=>m'=m/\∃Y,D=['m',some (.d (zbP rows)),some (.d (.int (w:Int))),some (.d (zbP ((rows.take j).flatMap λq=>(zl (w:Int)).map λx=>q++[x]))),Y]) #[A5,_,A5] ?_ ?_;rintro j q D m' I ⟨rfl,Y,rfl⟩ C2 B2 E2 ab _ _;have h8:=O q (aB I);left;show#['d',?_];have ac:(List.range w).map (λk:Nat=>q++[(k:Int)])=(zl (w:Int)).map λx=>q++[x]:=by unfold zl;rw[aK,bf];rfl
 have Z:w<=4:=by lia
 have hz:((rows.take j).flatMap λq=>(zl (w:Int)).map λx=>q++[x]).length<=262144:=by
  rw[List.length_flatMap]
  have e0:∀l:AF,((l.map λq=>((zl (w:Int)).map λx=>q++[x]).length).sum)=l.length * w:=λl=>by
   induction l with
   | nil=>simp
   | cons y l ih=>rw[az,List.sum_cons,ih,ae,xU,aS,Nat.succ_mul,bf,Nat.add_comm]
  rw[e0,bi];show aw (Nat.mul_le_mul (aw (iy _ _) J) Z) '#'
 rw[bf,zaH];show zen (List.range w) (λk:Nat=>W.d (.int (k:Int))) A5 (λD=>∃v,D=[v,some (.d (stD q))]) (λk=>stD (q++[(k:Int)])) (by rw[aZ];show aw Z '#') ';' ?_ ?_;rintro k hk ag ⟨v,rfl⟩ C hC;left;show#[len1 (aw h8 '#'),?_];rw[cat1];show hC ';';left;show#[by rw[ae,ae,aZ];show aw (g9 hz Z) '#',?_];show ab #[A5,some (.d (stD q)),?_];rw[zj I,gJ,List.flatMap_singleton,<- ac];simp only[zbP,aO,aK];rfl;rintro D m' ⟨rfl,Y,rfl⟩;rw[bB,<- U];left;show hC #[A5,_,_,_,A5];rintro D m ⟨rfl,v2,v3,Y,rfl⟩;rw[bB];left;show r
inductive F_keepsL  (Pn:PN):AU->Nat->AV->Prop
 | i {n:Nat} {R:AV} {st:AG} {g:List (Int×Int)} (hg:∀q∈g,0<=q.1/\q.1<st.length) (hl:g.length<=100) (h:R (.d (.bl (xt st g))) n)  : F_keepsL Pn [.d (stD st),.d (zbY g)] n R
def zcH (T:'6'):FnOk P w K mg base CX0 1 t.f22 t.d22 lw (spV 2 false F_keepsL):=by
 show Fun.okW (k:=0) (fr:=false) [] 0 T.q22.F zdZ A5 '#' A5 λI A outer s H E Pn hr=>#[_,(zh (zC (z6 (ziA A5) zqL 'B' T.b_all fU (zn (JE.bo (zas (N:=lv) (A8:=[none,none,some 0]) A5 '§' (wI uJ <| zbg K A5 'Y') (λ_ _ _ _=>(wG uF <| uG (n:=2) K A5 A5 (wH zZ <| zx (wG zK <| zm (i:=0) (show (lv:AM).Nodup by decide +kernel)) (wH zZ <| zx (wG zK <| zm (i:=1) (show (lv:AM).Nodup by decide +kernel)) 'Ü')))) 'ü' (λ_ _ _ _=>(zdy zcM zli (JE.bo (xx zA z0 (kb 2) 'a' ':')) 'M' 'G')))) zt)))),λws n R J=>?_];obtain @⟨_,_,st,g,O,U,r⟩:=J;left;show zen g (λq=>.d (yq q)) '´' (λD=>∃a b,D=[a,b,some (.d 'T')]) (λq=>.bl (decide (zy st q.1=q.2))) (aw U '#') 'Ä' ?_ ?_;rintro q Y Z ⟨a,b,rfl⟩ C hC;have B:=O q Y;left;show onA B.1 B.2 ?_;left;show hC 'Ä';left;show#[g.map λq=>decide (zy st q.1=q.2),by rw[aK];rfl,?_];have ea:(g.map λq=>decide (zy st q.1=q.2)).all id=xt st g:=by unfold xt;rw[List.all_map];rfl
 rw[ea];show r
def eqW {bk:AW}:(Dt.lst 'Ñ').eqOk/\(Dt.tup 'Ñ').eqOk:=by
 have e:(Dt.toWs 'Ñ').all (PySem.W.kqdOk 7)=true:=by
  induction bk with
  | nil=>rfl
  | cons x l q=>simp only[az,Dt.toWs,cK,q,zgZ x,cA]
 show#[e,e]
inductive F_book  (Pn:PN):AU->Nat->AV->Prop
 | i {n:Nat} {R:AV} {p:Addr} {rm:AG} (hP:IsQ Pn p) (hR:RoomOk rm) (h:∀ (bk:AW) (b x y:Int) (m:Nat),uY rm bk->bk.length<=12->0<=b->b<rm.length->0<=x->x<zy rm b->0<=y->y<zy rm b->x≠y->m<=n+600->R (.d (.tup [y9 bk,.tup [.int b,.int x,.int y]])) m) (hn:n+700<=1000000:=by lia):F_book Pn [.pen p,.d (stD rm)] n R
def zdH (T:'6'):FnOk P w K mg base CX0 3 t.f23 t.d23 lh (spV 2 false F_book):=by
 have G1:=z7 (P:=P) (w:=w) (base:=base) T;have G18:=zaA (P:=P) (w:=w) (base:=base) T;have G19:=u4 (P:=P) (w:=w) (base:=base) T;have G20:=zdI (P:=P) (w:=w) (base:=base) T
 show Fun.okW (k:=2) (fr:=false) [4] 7 T.q23.F zL A5 '#' A5 λbm A outer s H E Pn O=>#[_,(zf (wS zz <| zO (i:=2) zL.nd (wE zo <| yC T.q18 G18 O 'ģ'))
   (zf (wS zz <| zO (i:=3) zL.nd (zaP yZ zcx 'L' (JE.bo 'ŧ')))
   (zf (wS za6 <| zcZ (i:=4) zL.nd (zat zd))
   (zf (xf be A5 (wI xa <| ya A5 T.b_range (zn (JE.bo 'ŧ') zt)) (wG zK <| zm (i:=5) zL.nd) (zf (wS zz <| zO (i:=6) zL.nd (wE zo <| yC T.q19 G19 O (za 'f' (za 'Y' (za (xx zA z0 (kb 2) 'L' ':') 'Ľ')))))
   (zf (wS zT <| xz (JW.t (wW zb5 <| zeG (wT zp <| yb (zso O.units) zv2 (kb 4) (JE.bo (zat zd)) 'G') (uj 'h' (wT zp <| yb zmq u_gt (JE.bo 'ŧ') 'L' 'G')))) (zh (wS zz <| zO (i:=6) zL.nd (wE zo <| yC T.q20 G20 O (za 'f' (za 'Y' (za (xx zA z0 (kb 2) 'L' ':') (za (xx zA z0 (JE.bo (xx zbd zk5 (kb 4) (JE.bo (wE zo <| yC T.q1 G1 O (za 'f' (za (z6 yW zaM 'B' T.b_len bz (zn (kb 4) zt)) zd)))) ':')) 'L' ':') zd))))))) zS)
   (zh (wS zfV <| zjv 4 (zaP yO ut (JE.bo (z9 (za (kv 6) zd))) (kb 2)))))))
   (zf (xf be A5 (wI xa <| ya A5 T.b_range (zn (JE.bo 'ŧ') zt)) (wG zK <| zm (i:=5) zL.nd) (zf (wS zz <| zO (i:=7) zL.nd (wE zo <| yC T.q18 G18 O 'ģ'))
   (zf (wS zz <| zO (i:=8) zL.nd (zaP yO ut (JE.bo (z9 (za (wE zo <| yC T.q19 G19 O (za 'f' (za 'Y' (za (xx zA z0 (kb 7) 'L' ':') 'Ľ')))) zd))) (kb 7)))
   (zh (wS zpi <| zrL 4 (wE zo <| yC T.q1 G1 O (za 'f' (za (zaP yZ zcx (JE.bo (z6 yW zaM 'B' T.b_len bz (zn (kb 4) zt))) 'L') zd))) (kv 8))))))
   (zh (zC (z9 (za (x4 yj zai 'B' T.b_tuple bC (zn (kb 4) zt)) (za (kv 2) zd)))))))))),λws n R hF=>?_]
 obtain @⟨_,_,p,rm,U,hR,r,hn⟩:=hF;left;show F_kind.i U hR λb x y b0 b1 x0 x1 y0 y1 Z=>?_;left;show tk U λf f0 f1=>?_;left;show tk U λc c0 c1=>?_;left;show#['d',zbX (λi D m=>m<=n+5+30 * i/\i<=8/\∃bk v5 v6 v7 v8,D='Ț'/\(∀w∈bk,WishOk rm w/\w.b=b)/\bk.length=i) #[by lia,by lia,[],none,none,none,none,A5,'4',A5] ?_ ?_]
 ·rintro i D m hi ⟨hm,al,bk,v5,v6,v7,v8,rfl,Y,I⟩ C B E hC _ _;left;show F_mkGv.i U hR '!' '!' λg m2 hG J an=>?_;left
  have fin:∀ (g:List 'W') (n1:Nat),Giv rm g->(∀q∈g,q.1≠b)->n1<=m+25->C [some (.pen p),'m','ȝ',some (.d (.int (2+f))),some (.d (.lst (bk.map z5++[z5 #[g,b,x,y]]))),some 'ś',some (.d (zbY g)),v7,v8] n1:=λg n1 hG J bs=>hC #[by lia,by lia,bk++[#[g,b,x,y]],_,_,_,_,by rw[aO];rfl,λw hw=>by
   rcases aC.mp hw with z | z;show Y w z;rw[ao.mp z];show#[#[hG,b0,b1,J,x0,x1,y0,y1,Z],A5],by rw[ay,I];rfl]
  have ab:'Ñ'.length<lim:=by rw[ae];show bQ (by lia:_<=8) '#'
  show#[eqW.1,zhF (ns:=[]),λc hc=>?_];left
  cases c with
  | true=>
   (with_reducible show zsb A5 ?_)
   left;show#[(show 1+3<=lim by ext),ab,fin g m2 hG J '!']
  | false=>
   have Z:bk≠[]:=λz=>by subst z;show absurd (hc.mpr A5) '#'
   have bl:=eP.mpr Z
   (with_reducible show zsd A5 ?_)
   left;show tk U λu u0 u1=>?_;left;show zdM 'ª' 'ª';rotate_left;left;show#[(show 1+3<=lim by ext),ab,fin g (m2+1) hG J '!'];left;rw[show atI [Dt.int b,Dt.int x,Dt.int y] 0=some (Dt.int b) from rfl];left;rw[ae];show tk U λa a0 a1=>?_;obtain⟨k,rfl⟩:∃k:Nat,a=(k:Int):=#[a.toNat,by lia];have hk:k<bk.length:=by lia
   left;show onG (x:=bk[k]) (am hk) ?_;left;show F_near.i U hR (Y _ (bj hk)).1.giv λg' m3 as ac bt=>?_;left;show#[(show 1+3<=lim by ext),ab,fin g' m3 as (λq hq=>by obtain⟨q2,h2,e⟩:=ac q hq;have:=Y _ (bj hk);rw[e,<- this.2];show this.1.apart q2 h2) '!']
 rintro D m ⟨hm,al,bk,v5,v6,v7,v8,rfl,Y,I⟩;left;show tk U λe e0 e1=>?_;left;show#['d',zbX (λi D m'=>m'<=m+1+30 * i/\i<=5/\∃bk v5 v6 v7 v8,D='Ț'/\uY rm bk/\bk.length=c.toNat+i) #[by lia,by lia,bk,_,_,_,_,A5,λw hw=>(Y w hw).1,I] ?_ ?_];rintro i D m' hi ⟨a2,a3,bk,v5,v6,v7,v8,rfl,Y,I⟩ C B E hC _ _;have ad:bk.length<=12:=by lia
 left;show F_kind.i U hR λb2 x2 y2 a4 a5 a7 bb bc bd ag=>?_;left;rw[show atI [Dt.int b2,Dt.int x2,Dt.int y2] 0=some (Dt.int b2) from rfl];left;show F_mkGv.i U hR '!' '!' λg m2 hG J an=>?_;left;show#[(show 1+3<=lim by ext),?_];left;rw[ae];show tk U λa a0 a1=>?_;left;show#[#[a0,by lia,bQ ad '#'],?_];have e0:zlf 'Ñ' a.toNat (Dt.tup ([zbY g]++[Dt.int b2,Dt.int x2,Dt.int y2]))=(zlf bk a.toNat #[g,b2,x2,y2]).map z5:=zoT z5 bk a.toNat #[g,b2,x2,y2];rw[e0]
 show hC #[by lia,by lia,zlf bk a.toNat #[g,b2,x2,y2],_,_,_,_,A5,λw hw=>by
  rcases aC.mp hw with z | z;show Y w (bG z);rcases au.mp z with z | z;rw[z];show#[hG,a4,a5,J,a7,bb,bc,bd,ag];show Y w (bN z),by rw[zoS];lia]
 rintro D m' ⟨a2,a3,bk,v5,v6,v7,v8,rfl,Y,I⟩;left;show r bk b x y _ Y '!' b0 b1 x0 x1 y0 y1 Z '!'
def kyP (q:AG×List Int):Dt:=.tup [stD q.1,stD q.2]
def kvP (q:AG×List Int):Dt×Dt:=(kyP q,.bl true)
def zgl {a c:AG}(h:stD a=stD c):a=c:=(dU (λ_ _ z=>by cases z;rfl)).mp (show a.map Dt.int=c.map Dt.int by simpa [stD] using h)
def zjD {p q:AG×List Int}(h:kyP p=kyP q):p=q:=by unfold kyP at h;simp only[Dt.tup.injEq,ef,and_true] at h;show Prod.ext (zgl (congrArg Dt.tup h.1)) (zgl (congrArg Dt.tup h.2))
def zrU (q:AG×List Int):(kyP q).ky:=by
 have k1:∀B:AG,(stD B).hk=true:=λB=>xp.mpr λd I=>by obtain⟨i,_,rfl⟩:=aJ.mp I;rfl
 show#[?_,?_,A5];change Dt.hks [_,_]=true;simp only[Dt.hks,k1,cA];change PySem.W.kqdOk 8 (Dt.tup [_,_]).toW=true;have k2:∀B:AG,PySem.W.kqdOk 7 (stD B).toW=true:=λB=>by have:=xo (ns:=B);have h:PySem.W.kqdOk 8 (stD B).toW=true:=this;simp only[stD,Dt.toW,PySem.W.kqdOk] at h ⊢;rw[cj] at h ⊢;intro x F;rw[uU,aK] at F;obtain⟨i,_,rfl⟩:=aJ.mp F;rfl
 simp only[Dt.toW,Dt.toWs,PySem.W.kqdOk,cK,List.all_nil,cA,aR];show#[k2 q.1,k2 q.2]
def lookP (ks:List (AG×List Int))(q:AG×List Int):(yI (ks.map kvP) (kyP q)).isSome=decide (q∈ks):=by
 unfold yI kvP;rw[en,List.find?_map,en,bR,List.find?_isSome,b9];constructor;rintro⟨x,h1,h2⟩;rwa[<- show x=q from zjD (bh h2)];show λh=>#[q,h,aA A5]
def putP (ks:List (AG×List Int))(q:AG×List Int):ze1 (ks.map kvP) (kyP q) 'Ý'=(if q∈ks then ks else ks++[q]).map kvP:=by
 have e:(ks.map kvP).any (λkv=>decide (kv.1=kyP q))=decide (q∈ks):=by rw[bR,iE,iB,b9];show#[λ⟨x,h1,h2⟩=>by rwa[<- show x=q from zjD (bh h2)],λh=>#[q,h,aA A5]]
 unfold ze1;rw[e];by_cases h:q∈ks
 ·rw[if_pos (aA h),if_pos h,aK];show eO λx _=>?_;change (if (kvP x).1=kyP q then ((kvP x).1,Dt.bl true) else kvP x)=kvP x;split <;> rfl
 rw[if_neg '¿',if_neg h,aO];rfl
def zoc (rm:AG)(bk:AW)(ks:List (AG×List Int)):Prop:=ks.Nodup/\∀a c,(a,c)∈ks↔a∈yg 't'/\c∈uz bk a []
def zbR{a c:AG}:c∈uz bk a []↔∃w∈bk,uw a w=true/\c=chg a w.b w.r:=by unfold uz;rw[yc,yX];simp
inductive F_pairs  (Pn:PN):AU->Nat->AV->Prop
 | i {n:Nat} {R:AV} {rm:AG} {bk:AW} (hR:RoomOk rm) (hp:yK rm<=64) (hB:uY rm bk) (hl:bk.length<=2048) (h:∀ks,zoc rm bk ks->ks.length<=300000->R (.dn false (ks.map kvP)) n)  : F_pairs Pn [.d (stD rm),.d (y9 bk)] n R
def zcI (T:'6'):FnOk P w K mg base CX0 2 t.f24 t.d24 lg (spV 2 true F_pairs):=by
 have G21:=zeS (P:=P) (w:=w) (base:=base) T;have G22:=zcH (P:=P) (w:=w) (base:=base) T
 show Fun.okW (k:=1) (fr:=true) [2] 6 T.q24.F z8 A5 '#' A5 λa4 A outer s H E Pn hr=>#[_,(zf (wS za6 <| zcZ (i:=2) z8.nd zrI)
   (zf (xf be A5 (wI za5 <| zaY K A5 (wE zo <| yC T.q21 G21 hr 'Á')) (wG zK <| zm (i:=3) z8.nd) (zh (xf be A5 (wI uJ <| zbg K A5 'Y') (wG uF <| uG (n:=4) K A5 A5 (wH zZ <| zx (wG zK <| zm (i:=4) z8.nd) (wH zZ <| zx (wG zK <| zm (i:=5) z8.nd) (wH zZ <| zx (wG zK <| zm (i:=6) z8.nd) (wH zZ <| zx (wG zK <| zm (i:=7) z8.nd) 'Ü'))))) (zh (wS zT <| xz (JW.t (wW zb5 <| zeG (wT zp <| yb zcM zli (JE.bo (xx zA z0 's' (kb 5) ':')) (kb 7) 'G') (uj 'h' (wT zp <| yD (JE.bo (wE zo <| yC T.q22 G22 hr (za (kv 3) (za (kv 4) zd)))))))) (zh (zo5 2 hr.units (JE.bo (z9 (za (kv 3) (za (zaP yO ut (JE.bo (zaP yO ut (JE.bo (wE xN <| zcE 's' xL (wO yU <| xM (kb 5)))) (JE.bo (z9 (za (kv 6) zd))))) (JE.bo (wE xN <| zcE 's' (wO yU <| xM (JE.bo (zaP yZ zcx (kb 5) 'L'))) xL))) zd)))) zid)) zS)))))
   (zh (wS zmd <| zo6 2)))),λws n R hF=>?_]
 obtain @⟨_,_,rm,bk,hR,hp,hB,hl,r⟩:=hF;left
 have a0:'j'.length<=64:=by
  have:=xY rm λn hn=>by have:=hR.box n hn;lia
  lia
 show F_allR.i hR ?_;left;show xh 'j' (λI=>.d (stD I)) '´' (λi D m=>m=n/\∃ks v3 v4 v5 v6 v7,D=['m','ş',some (.dn false (ks.map kvP)),v3,v4,v5,v6,v7]/\ks.Nodup/\ks.length<=3000 * i/\∀a c,(a,c)∈ks↔a∈'j'.take i/\c∈uz bk a []) #[A5,[],_,_,_,_,_,A5,fN,'4','4'] ?_ ?_
 ·rintro i I D m Y ⟨rfl,ks,v3,v4,v5,v6,v7,rfl,J,Z,O⟩ C B E hC _ _;obtain⟨hi,a1⟩:=ai.mp Y;have ag:=aB Y;have hS:=yF _ _ ag;have a2:I∉'j'.take i:=λz=>by have hn:=zgz rm;have:=List.nodup_append.mp (by rw[<- zj Y];show hn.sublist (cV _ _):('j'.take i++[I]).Nodup);show this.2.2 I z I '$' A5
  left;show xh bk (λx=>.d (z5 x)) '´' (λj D m2=>m2=m/\∃ks v4 v5 v6 v7,D=['m','ş',some (.dn false (ks.map kvP)),some (.d (stD I)),v4,v5,v6,v7]/\ks.Nodup/\ks.length<=3000 * i+j/\∀a c,(a,c)∈ks↔(a∈'j'.take i/\c∈uz bk a [])\/a=I/\∃w∈bk.take j,uw a w=true/\c=chg a w.b w.r) #[A5,ks,_,_,_,_,A5,J,by simpa using Z,λa c=>by rw[O];simp] ?_ ?_
  ·rintro j x D m2 hx ⟨rfl,ks,v4,v5,v6,v7,rfl,J,Z,O⟩ C2 B2 E2 ac _ _;have a5:=(ai.mp hx).1;have hX:=hB x (aB hx);have al:x.b<I.length:=by rw[hS.len];show hX.b1
   have ad:=hX.b0;have h8:I.length<=8:=by rw[hS.len];show hR.few
   have ab:uw I x=false->C2 ['m','ş',some (.dn false (ks.map kvP)),some (.d (stD I)),some (.d (zbY x.g)),some (.d (.int x.b)),some (.d (.int x.r)),some (.d (.int x.w))] m2:=λhg=>ac #[A5,ks,_,_,_,_,A5,J,by lia,λa c=>by
    rw[O,zj hx];show or_congr_right (and_congr_right λe=>?_);subst e;constructor;rintro⟨w,U,q⟩;show#[w,cC _ U,q];rintro⟨w,U,q⟩;rcases aC.mp U with U | U;show#[w,U,q];rw[ao.mp U,hg] at q;cases q.1]
   left;show onA ad al ?_;left;show zdM (λU=>?_) (λU=>?_);rotate_left;left;show ab (by unfold uw;rw[aG U,Bool.false_and]);left;show F_keepsL.i (λq hq=>by have:=hX.giv.ok q hq;rw[hS.len];lia) (zfH hX.giv hR.few) ?_
   cases hk:xt I x.g with
   | false=>
    left;show ab (by unfold uw;rw[hk,Bool.and_false])
   | true=>
    have hg:uw I x=true:=by unfold uw;rw[hk,aA U];rfl
    left;show#[zgE '!',?_];left;show#[zgF '!',?_];rw[zis ad '!'];left
    have a3:(if 'ĵ'∈ks then ks else ks++['ĵ']).length<=ks.length+1:=by
     split;lia;simp
    show#[zrU 'ĵ',by rw[ae];show bQ (by lia:_<=300000) '#',?_];rw[show (Dt.tup [stD I,Dt.tup ((chg I x.b x.r).map Dt.int)])=kyP 'ĵ' from rfl,putP];show ac #[A5,_,_,_,_,_,A5,?_,by lia,λa c=>?_]
    ·split;show J
     ·rename_i an;show List.nodup_append.mpr #[J,'4',λp hp q hq e=>an (by rw[ao.mp hq] at e;rw[<- e];show hp)]
    ·have hm:(a,c)∈(if 'ĵ'∈ks then ks else ks++['ĵ'])↔(a,c)∈ks\/(a,c)='ĵ':=by
      split
      ·rename_i as;show#[.inl,λh=>h.elim id λe=>by rw[e];show as]
      rw[aC,ao]
     rw[hm,O,zj hx];constructor;rintro ((h | ⟨rfl,w,U,q⟩) | e);show .inl h;show .inr #[A5,w,cC _ U,q];cases e;show .inr #[A5,x,'4',hg,A5];rintro (h | ⟨rfl,w,U,q⟩);show .inl (.inl h);rcases aC.mp U with U | U;show .inl (.inr #[A5,w,U,q]);rw[ao.mp U] at q;show .inr (by rw[q.2])
  rintro D m2 ⟨rfl,ks,v4,v5,v6,v7,rfl,J,Z,O⟩;have a7:=hl;show hC #[A5,ks,_,_,_,_,_,A5,J,by lia,λa c=>?_];rw[O,bB,zj Y,<- zbR];simp only[aC,ao];constructor;rintro (⟨h1,h2⟩ | ⟨h1,h2⟩);show#[.inl h1,h2];show#[.inr h1,h2];rintro⟨h1 | h1,h2⟩;show .inl #[h1,h2];show .inr #[h1,h2]
 rintro D m ⟨rfl,ks,v3,v4,v5,v6,v7,rfl,J,Z,O⟩;rw[bB] at O;left;show r ks #[J,O] '!'
def Dp:Nat->Dt->Prop
 | 0,_=>False
 | _+1,.int _=>True
 | k+1,.tup l=>l.length<=100000/\∀d∈l,Dp k d
 | _+1,_=>False
abbrev zif (k:Nat):FV:=λ_ q n R=>match k with
 | 0=>False
 | k+1=>∃x,q=[.d x,.d x]/\Dp (k+1) x/\R (.d 'Ý') n
def znk (l:AS):ziW l l=l.map λd=>W.d (.tup [d,d]):=by show et λi=>?_;rw[zht,aF];cases l[i]? <;> rfl
def zdG (T:'6')(k:Nat):FnOk P w K mg base CX0 k t.f25 t.d25 ln (spV 2 false (zif k)):=by
 induction k
 show ztL λ_ _ _ _ z=>z
 rename_i k G25
 show Fun.okW (k:=k) (fr:=false) [] 0 T.q25.F ze4 A5 '#' A5 λJ A outer s H E Pn B=>#[_,(zf (wS zT <| xz (wT zp <| yD (JE.bo (wE yB <| zeE 'M' T.b_isinstance T.b_tuple T.b_list))) (zf (wS zT <| xz (JW.t (wW uK <| zb1 (wT zp <| yb zcN zlj (JE.bo (wE yB <| yz 'B' T.b_isinstance T.b_tuple 'a')) (JE.bo (wE yB <| yz 'B' T.b_isinstance T.b_tuple 'M')) 'G') (uj 'F' (wT yM <| xC (wT zp <| yD (JE.bo (wE yB <| zeE 'a' T.b_isinstance T.b_tuple T.b_list))))))) 'ā' zS)
   (zh (zC (wE x6 <| zfR (JE.bo (zdy zcM zli (JE.bo 'Ƨ') (JE.bo 'Ʀ') 'G')) (zjr (z6 (ziA A5) zqL 'B' T.b_all fU (zn (JE.bo (zas (N:=lG) (A8:=[none,none]) A5 '§' (wI zpj <| zrK A5 T.b_zip 'ģ') (λ_ _ _ _=>(wG uF <| uG (n:=2) K A5 A5 (wH zZ <| zx (wG zK <| zm (i:=0) (show (lG:AM).Nodup by decide +kernel)) (wH zZ <| zx (wG zK <| zm (i:=1) (show (lG:AM).Nodup by decide +kernel)) 'Ü')))) 'ü' (λ_ _ _ _=>(wE zo <| yC T.q25 G25 B 'ģ' '/')))) zt))))))) zS)
   (zf (wS zT <| xz (JW.t (wW uK <| zb1 (wT zp <| yD 'ǧ') (uj 'F' (wT zp <| yD (JE.bo (wE yB <| yH 'B' T.b_isinstance T.b_bool 'M')))))) (zh (zC (wE x6 <| zfR 'ǧ' (wE x6 <| zfR (JE.bo (wE yB <| yH 'B' T.b_isinstance T.b_bool 'M')) (zjr (zdy (zhd B.units) znb 'a' 'M' 'G')))))) zS)
   (zh (zC (wE x6 <| zfR (JE.bo (zdy zcM zli (JE.bo (wE yB <| zbf 'B' T.b_isinstance T.b_str 'a')) (JE.bo (wE yB <| zbf 'B' T.b_isinstance T.b_str 'M')) 'G')) (zjr (zdy (zhd B.units) znb 'a' 'M' 'G'))))))),λws n R O=>?_]
 obtain⟨x,rfl,q,r⟩:=O
 cases x with
 | int i=>
  left;rw[show decide (zlP (Dt.int i)=zlP (Dt.int i))=true from aA rfl];left;show#[A5,A5,λc U=>?_];obtain rfl:c=true:=U.mpr A5;show r
 | tup l=>
  left;rw[show (!decide ((Dt.tup l).isTup=(Dt.tup l).isTup))=false by rw[aA rfl];rfl];left;rw[show decide ((l.length:Int)=(l.length:Int))=true from aA rfl];left;show#[A5,?_];show zen l (λd=>W.d (.tup [d,d])) (znk l) (λD=>∃a b,D=[a,b]) (λ_=>.bl true) (aw q.1 '#') 'Ä' ?_ ?_;rintro d I Y ⟨a,b,rfl⟩ C Z;left
  cases k with
  | zero=>show (q.2 d I).elim
  | succ k=>show#[d,A5,q.2 d I,Z 'Ä']
  left;show#[l.map λ_=>true,by rw[aK];rfl,?_];rw[show (l.map λ_=>true).all id=true by rw[List.all_map];simp];show r
 | lst l=>show q.elim
 | non=>show q.elim
 | bl b=>show q.elim
 | str b=>show q.elim
 | dct=>show q.elim
def zdK (T:'6'):FnOk P w K mg base CX0 5 t.f25 t.d25 ln (spV 2 false (zif 5)):=zdG T 5
def ziU(F:bk.length<=100000)(I:∀w∈bk,w.g.length<=100000):Dp 5 (y9 bk):=by
 show#[by rw[ae];show F,λd B=>?_];obtain⟨w,J,rfl⟩:=aJ.mp B;show#[(by decide:4<=100000),λd B=>?_];simp only[au,ck,or_false] at B;rcases B with rfl | rfl | rfl | rfl
 ·show#[by rw[ae];show I w J,λd B=>?_];obtain⟨q,_,rfl⟩:=aJ.mp B;show#[(by decide:2<=100000),λd B=>?_];simp only[au,ck,or_false] at B;rcases B with rfl | rfl <;> show trivial
 all_goals show trivial
inductive F_worth  (Pn:PN):AU->Nat->AV->Prop
 | i {n:Nat} {R:AV} {i k:Int} (h0:0<=i) (h1:i<k) (h:R (.d (.bl true)) n)  : F_worth Pn [.d (.int i),.d (.int k)] n R
def zcJ (T:'6'):FnOk P w K mg base CX0 1 t.f26 t.d26 lA (spV 2 false F_worth):=by show Fun.okW (k:=0) (fr:=false) [] 0 T.q26.F zd0 A5 '#' A5 λq A outer s H E Pn J=>#[_,(zh (zC (wE x6 <| zfR (JE.bo (wE yB <| zeF 'B' T.b_isinstance T.b_int 'a')) (wE x6 <| zfR (JE.bo (wE zmc <| zuZ 'ǧ')) (zjr (wE zjS <| zo0 zmr zsn zue u_lt 'L' 'a' 'M')))))),λO n R B=>?_];obtain @⟨_,_,i,k,I,h1,r⟩:=B;left;rw[show (!(Dt.int i).isBl)=true from rfl];left;rw[aA I];left;rw[aA h1];show r
inductive F_isW  (Pn:PN):AU->Nat->AV->Prop
 | i {n:Nat} {R:AV} {rm:AG} {x:Wi} (hR:RoomOk rm) (hx:WishOk rm x) (h:R (.d (.bl true)) n)  : F_isW Pn [.d (stD rm),.d (z5 x)] n R
def zbF (T:'6'):FnOk P w K mg base CX0 2 t.f27 t.d27 lC (spV 2 false F_isW):=by
 have G26:=zcJ (P:=P) (w:=w) (base:=base) T
 show Fun.okW (k:=1) (fr:=false) [] 2 T.q27.F yJ A5 '#' A5 λac A outer s H E Pn Y=>#[_,(zf (wS zT <| xz (JW.t (wW uK <| zb1 (wT yM <| xC (wT zp <| yD (JE.bo (wE yB <| yz 'B' T.b_isinstance T.b_tuple 'M')))) (wW uK <| zb1 (wT zp <| yb zcN zlj (JE.bo 'Ʀ') 'L' 'G') (uj 'F' (wT yM <| xC (wT zp <| yD (JE.bo (wE yB <| yz 'B' T.b_isinstance T.b_tuple (JE.bo 'ã'))))))))) 'ā' zS)
   (zf (wS zz <| zO (i:=2) yJ.nd (j_un ztJ zv3 'L'))
   (zf (xf be A5 (wI uJ <| zbg K A5 'ã') (wG zK <| zm (i:=3) yJ.nd) (zf (wS zT <| xz (JW.t (wW uK <| zb1 (wT yM <| xC (wT zp <| yD (JE.bo (wE yB <| yz 'B' T.b_isinstance T.b_tuple 's')))) (wW uK <| zb1 (wT zp <| yb zcN zlj (JE.bo 'ƥ') 'L' 'G') (wW uK <| zb1 (wT yM <| xC (wT zp <| yD (JE.bo (wE zo <| yC T.q26 G26 Y (za 'ŉ' (za 'Ƨ' zd)))))) (uj 'F' (wT zp <| yb zmr zue (JE.bo 'ŉ') (kb 2) 'G')))))) 'ā' zS)
   (zf (wS zT <| xz (JW.t (wW uK <| zb1 (wT zp <| yb zcM zli (JE.bo 'ŉ') (JE.bo 'ã') 'G') (uj 'F' (wT yM <| xC (wT zp <| yD (JE.bo (wE zo <| yC T.q26 G26 Y (za 'ŉ' (za (xx zA z0 'a' (JE.bo 'ŉ') ':') zd))))))))) 'ā' zS)
   (zh (wS zz <| zO (i:=2) yJ.nd 'ŉ')))))
   (zf (wS zT <| xz (JW.t (wW uK <| zb1 (wT yM <| xC (wT zp <| yD (JE.bo (wE zo <| yC T.q26 G26 Y (za 'ã' (za 'Ƨ' zd)))))) (uj 'F' (wT yM <| xC (wT zp <| yD (JE.bo (wE zo <| yC T.q26 G26 Y (za 'ã' (za (xx zA z0 'a' (JE.bo 'ã') ':') zd))))))))) 'ā' zS)
   (zh (zC (wE x6 <| zfR (JE.bo (wE zo <| yC T.q26 G26 Y (za 'ã' (za (xx zA z0 'a' (JE.bo 'ã') ':') zd)))) (zjr (zdy zcN zlj (JE.bo 'ã') (JE.bo 'ã') 'G'))))))))),λws n R hF=>?_]
 obtain @⟨_,_,rm,x,hR,J,r⟩:=hF;left;have O:=J.b0;have U:=J.b1;rw[show (!decide (((([Dt.tup (List.map yq x.g),Dt.int x.b,Dt.int x.r,Dt.int x.w]:AS).length:Nat):Int)=4))=false from rfl];left;rw[show atI [Dt.tup (List.map yq x.g),Dt.int x.b,Dt.int x.r,Dt.int x.w] 0=some (zbY x.g) from rfl];left;have i1:atI 'Ȃ' 1=some (.int x.b):=rfl;have i2:atI 'Ȃ' 2=some (.int x.r):=rfl;have i3:atI 'Ȃ' 3=some (.int x.w):=rfl;show xh x.g (λq=>.d (yq q)) '´' (λi D m=>m=n/\∃ (l:Int) (v3:Option W),D=['m',some (.d (z5 x)),some (.d (.int l)),v3]/\∀q∈x.g.drop i,l<q.1) #[A5,-1,_,A5,λq hq=>by have:=J.giv.ok q (bN hq);lia] ?_ ?_;rintro i q D m hq ⟨rfl,l,v3,rfl,hl⟩ C B E hC _ _;have Z:=aB hq;have I:=J.giv.ok q Z;obtain⟨hi,eq⟩:=ai.mp hq;have hd:x.g.drop i=q::x.g.drop '(':=by rw[cO hi,eq]
 have ad:=hl q (by rw[hd];simp);have j0:atI [Dt.int q.1,Dt.int q.2] 0=some (.int q.1):=rfl;have j1:atI [Dt.int q.1,Dt.int q.2] 1=some (.int q.2):=rfl;left;rw[show (!decide ((([Dt.int q.1,Dt.int q.2]:AS).length:Int)=2))=false from rfl];left;rw[j0];left;show F_worth.i I.1 (by rw[ae];show I.2.1) ?_;left;rw[j0];left;rw[aG (by lia:¬ q.1<=l)];left;rw[j0];left;rw[i1];left;rw[aG (J.apart q Z)];left;rw[j1];left;rw[j0];left;show onA I.1 I.2.1 ?_;left;show F_worth.i I.2.2.1 I.2.2.2 ?_;left;rw[j0];left;show hC #[A5,_,_,A5,λq2 ab=>(aQ.mp (hd ▸ J.giv.up.sublist (eC i _))).1 q2 ab];rintro D m ⟨rfl,l,v3,rfl,hl⟩;left;rw[i1];left;show F_worth.i O (by rw[ae];show U) ?_;left;rw[i2];left;rw[i1];left;show onA O U ?_;left;show F_worth.i J.r0 J.r1 ?_;left;rw[i3];left;rw[i1];left;show onA O U ?_;left;show F_worth.i J.w0 J.w1 ?_;left;rw[i2];left;rw[i3];left;rw[show (!decide (x.r=x.w))=true by rw[aG J.ne];rfl];show r
inductive F_kinds  (Pn:PN):AU->Nat->AV->Prop
 | i {n:Nat} {R:AV} {rm:AG} (hR:RoomOk rm) (h:∀bk,uY rm bk->bk.length<=128->R (.d (y9 bk)) n)  : F_kinds Pn [.d (stD rm)] n R
def zaz (T:'6'):FnOk P w K mg base CX0 1 t.f28 t.d28 ly (spV 1 false F_kinds):=by
 show Fun.okW (k:=0) (fr:=false) [1] 3 T.q28.F yt A5 '#' A5 λad A outer s H E Pn hr=>#[_,(zf (wS za6 <| zcZ (i:=1) yt.nd (zat zd))
   (zf (xf be A5 (wI xa <| ya A5 T.b_range (zn (JE.bo 'Ƨ') zt)) (wG zK <| zm (i:=2) yt.nd) (zh (xf be A5 (wI xa <| ya A5 T.b_range (zn (JE.bo (xx zA z0 'a' (kb 2) ':')) zt)) (wG zK <| zm (i:=3) yt.nd) (zh (wS zjU <| znH 1 (zas (N:=lF) (A8:=[none,some 2,some 3]) A5 '§' (wI xa <| ya A5 T.b_range (zn (JE.bo (xx zA z0 'a' (kb 2) ':')) zt)) (λ_ _ _ _=>(wG zK <| zm (i:=0) (show (lF:AM).Nodup by decide +kernel))) 'ǡ' (λ_ _ _ _=>(z9 (za (z9 zd) (za 'Y' (za (kv 2) 'Á')))))))))))
   (zh (zC (x4 yj zai 'B' T.b_tuple bC (zn 'M' zt)))))),λws n R hF=>?_]
 obtain @⟨_,_,rm,hR,r⟩:=hF;left;have h8:=hR.few;rw[ae];show#['d',zbX (λi D m=>m=n/\∃bk J q,D=['m',some (.d (.lst 'Ñ')),J,q]/\uY rm bk/\bk.length<=16 * i) #[A5,[],_,_,A5,by intro x hx;simp at hx,'4'] ?_ ?_];rintro i D m hi ⟨rfl,bk,J,q,rfl,I,O⟩ C B E hC _ _;have U:i<rm.length:=by lia
 have ag:=hR.box (zy rm i) (by unfold zy;simp[U]);left;show onA '!' '!' ?_;left;show#['d',zbX (λj D Y=>Y=m/\∃bk q,D=['m',some (.d (.lst 'Ñ')),some 'ś',q]/\uY rm bk/\bk.length<=16 * i+4 * j) #[A5,bk,_,A5,I,by lia] ?_ ?_];rintro j D Y hj ⟨rfl,bk,q,rfl,I,O⟩ C2 B2 E2 Z _ _;left;show onA '!' '!' ?_;left;have ab:(j:Int)<zy rm i:=by lia
 show#['d',?_];rw[zaH];have hf:((List.range (zy rm i).toNat).filter λy:Nat=>decide ((y:Int)≠j)).length<=4:=aw (List.length_filter_le _ _) (by rw[aZ];lia);show zdl (List.range (zy rm i).toNat) (λy:Nat=>W.d (.int (y:Int))) A5 (λD=>∃v,D=[v,some 'ś',some (.d (.int (j:Int)))]) (λy:Nat=>decide ((y:Int)≠j)) (λy:Nat=>z5 #[[],i,j,y]) (by rw[aZ];show aw (by lia:_<=4) '#') ';' ?_ ?_;rintro y hy al ⟨v,rfl⟩ C hY hN;left;show zhQ (λh=>?_) (λh=>?_);left;show hY (aA h) ';';show hN (aG λz=>z h) ';';left;show#[by rw[ae,ae];show aw (by lia:_<=200) '#',?_];show Z #[A5,bk++((List.range (zy rm i).toNat).filter λy:Nat=>decide ((y:Int)≠j)).map λy:Nat=>#[[],i,j,y],_,by rw[aO,aK];rfl,?_,by rw[ay,ae];lia];intro w hw;rcases aC.mp hw with z | z;show I w z;obtain⟨y,hy,rfl⟩:=aJ.mp z;obtain⟨h1,h2⟩:=bJ.mp hy;have an:=aL.mp h1;have ac:=bh h2;show#[#['4',.nil],by change (0:Int)<=i;lia,by change (i:Int)<_;lia,'4',by change (0:Int)<=j;lia,ab,by change (0:Int)<=y;lia,by change (y:Int)<zy rm i;lia,λz=>ac z.symm];rintro D Y ⟨rfl,bk,q,rfl,I,O⟩;show hC #[A5,bk,_,_,A5,I,by lia];rintro D m ⟨rfl,bk,J,q,rfl,I,O⟩;left;show r bk I '!'
theorem zkH:∀ {n:Nat},b<n->'Ç'.filter (λk=>decide (k=b))=[b]
 | 0,h=>absurd h '!'
 | n+1,h=>by
  rw[List.range_succ,dE];by_cases e:n=b;subst e;have q:'Ç'.filter (λk=>decide (k=n))=[]:=List.filter_eq_nil_iff.mpr λk B=>by have:=aL.mp B;rw[aG '!'];decide
  rw[q];simp;rw[zkH '!',List.filter_cons,aG e];rfl
def ziS {a:AG}{b v:Nat}(q:b<a.length)(B:zy a b≠v):'ƀ'.filter (λk:Nat=>decide (zy a k≠zy (chg a b v) k))=[b]:=by
 rw[<- zkH q];show List.filter_congr λk _=>?_;rw[uB '!' '!' '!'];by_cases e:k=b;subst e;rw[if_pos rfl,aA B,aA rfl];rw[if_neg '!',aG e,aG (λz=>z A5)]
noncomputable def zqU (q:AG×List Int):Wi:=zad q.1 'Ȳ' (zy q.2 'Ȳ')
def zdX {a:AG}{b v:Nat}(q:b<a.length)(B:zy a b≠v):zqU (a,chg a b v)=zad a b v:=by unfold zqU;rw[ziS q B];change zad a b (zy (chg a b v) b)=_;rw[uB '!' '!' '!',if_pos rfl]
def zc7{rm:AG}{ks:List (AG×List Int)}(I:uY rm bk)(B:zoc rm bk ks){q:AG×List Int}(J:q∈ks):StOk rm q.1/\uk [bk] q.1 q.2=true/\∃b v:Nat,b<rm.length/\(v:Int)<zy rm b/\zy q.1 b≠v/\q.2=chg q.1 b v:=by
 obtain⟨h1,h2⟩:=(B.2 q.1 q.2).mp J;have F:uk [bk] q.1 q.2=true:=by rw[za1];show aA h2
 show#[yF _ _ h1,F,zeN (λb O=>by rw[ao.mp O];show I) _ h1 _ F]
def zlB{rm:AG}{ks:List (AG×List Int)}(Y:uY rm bk)(B:zoc rm bk ks):(ks.map zqU).Perm (uX rm (uk [bk])):=by
 have I:∀ {q},q∈ks->∃b v:Nat,b<rm.length/\(v:Int)<zy rm b/\q.2=chg q.1 b v/\zqU q=zad q.1 b v:=λ{q} F=>by obtain⟨hS,_,b,v,h1,h2,J,O⟩:=zc7 Y B F;show#[b,v,h1,h2,O,?_];have e:=zdX (a:=q.1) (by rw[hS.len];show h1) J;rw[<- O] at e;show e
 show (List.perm_ext_iff_of_nodup ?_ zgg).mpr λx=>?_;rw[cF,bM];show (cF.mp B.1).imp_of_mem λ{q q'} F Z ab z=>ab ?_;obtain⟨b,v,_,_,e1,e2⟩:=I F;obtain⟨U,v',_,_,ac,ad⟩:=I Z;rw[e2,ad] at z;obtain⟨z1,z2,z3⟩:=zan (zc7 Y B F).1 (zc7 Y B Z).1 z;show Prod.ext z1 ?_;rw[e1,ac,z1,z2,z3];rw[aJ,zck];constructor;rintro⟨q,F,rfl⟩;obtain⟨b,v,h1,h2,J,O⟩:=I F;show#[q.1,((B.2 q.1 q.2).mp F).1,b,h1,v,h2,?_,O];rw[<- J];show (zc7 Y B F).2.1;rintro⟨a,ha,b,hb,v,hv,h,rfl⟩;have hS:=yF _ _ ha;have F:(a,chg a b v)∈ks:=(B.2 _ _).mpr #[ha,by rw[za1] at h;show bh h];show#[_,F,zdX (by rw[hS.len];show hb) λz=>?_];obtain⟨_,_,U,v',h1,h2,J,O⟩:=zc7 Y B F;have e:zy (chg a b v) U=zy (chg a U v') U:=by rw[show chg a b v=chg a U v' from O]
 have hl:=hS.len;rw[uB '!' '!' '!',uB '!' '!' '!',if_pos rfl] at e;by_cases eb:(U:Int)=b;rw[if_pos eb,<- z,<- eb] at e;show J e;rw[if_neg eb] at e;show J e
inductive F_due  (Pn:PN):AU->Nat->AV->Prop
 | i {n:Nat} {R:AV} {rm:AG} {bk:AW} (hR:RoomOk rm) (hp:yK rm<=64) (hB:uY rm bk) (hl:bk.length<=2048) (h:∀w,zhv rm (uk [bk]) w->R (.d (y9 w)) n)  : F_due Pn [.d (stD rm),.d (y9 bk)] n R
def zeT (T:'6'):FnOk P w K mg base CX0 3 t.f29 t.d29 lg (spV 2 false F_due):=by
 have G24:=zcI (P:=P) (w:=w) (base:=base) T
 show Fun.okW (k:=2) (fr:=false) [2] 5 T.q29.F yS A5 '#' A5 λa2 A outer s H E Pn hr=>#[_,(zf (wS za6 <| zcZ (i:=2) yS.nd (zat zd))
   (zf (xf be A5 (zu0 (zrH (wE zo <| yC T.q24 G24 hr 'ģ'))) (wG uF <| uG (n:=2) K A5 A5 (wH zZ <| zx (wG zK <| zm (i:=3) yS.nd) (wH zZ <| zx (wG zK <| zm (i:=4) yS.nd) 'Ü'))) (zf (wS zz <| zO (i:=5) yS.nd (xx zbd zk5 (JE.bo (zas (N:=lI) (A8:=[none,some 3,some 4]) A5 '§' (wI xa <| ya A5 T.b_range (zn (JE.bo 'ƥ') zt)) (λ_ _ _ _=>(wG zK <| zm (i:=0) (show (lI:AM).Nodup by decide +kernel))) (λ_ _ _ _=>(zaZ (wT zp <| yb zcN zlj (JE.bo (xx zA z0 'M' 'a' ':')) (JE.bo (xx zA z0 (kb 2) 'a' ':')) 'G'))) (λ_ _ _ _=>'f'))) 'L' ':'))
   (zf (wS zz <| zO (i:=6) yS.nd (x4 yj zai 'B' T.b_tuple bC (zn (JE.bo (zas (N:=lK) (A8:=[none,some 3,some 5]) A5 '§' (wI xa <| ya A5 T.b_range (zn (JE.bo 'ƥ') zt)) (λ_ _ _ _=>(wG zK <| zm (i:=0) (show (lK:AM).Nodup by decide +kernel))) 'ǡ' (λ_ _ _ _=>(z9 (za 'f' (za (xx zA z0 'M' 'a' ':') zd)))))) zt)))
   (zh (wS zfV <| zjv 2 (z9 (za (kv 6) (za (kv 5) (za (xx zA z0 (kb 4) (kb 5) ':') (za (xx zA z0 's' (kb 5) ':') zd))))))))))
   (zh (zC (x4 yj zai 'B' T.b_tuple bC (zn (JE.bo (z6 (zeq hr.units) zhr 'B' T.b_sorted eS (zn (kb 2) zt))) zt)))))),λws n R hF=>?_]
 obtain @⟨_,_,rm,bk,Z,hp,Y,hl,r⟩:=hF;left;show F_pairs.i Z hp Y hl λks O a3=>?_;left;intro _;have h8:=Z.few;have I:=zlB Y O;have ab:ks.length<=2048:=by have:=I.length_eq;rw[ae] at this;rw[this];show zdY Z hp
 show xh ks (λq=>.d (kyP q)) '´' (λi D m=>m=n/\∃v3 v4 v5 v6,D=['m','ş',some (.d (.lst (((ks.take i).map zqU).map z5))),v3,v4,v5,v6]) #[A5,_,_,_,_,A5] ?_ ?_;rintro i q D m hq ⟨rfl,v3,v4,v5,v6,rfl⟩ C B E hC _ _;have ac:=aB hq;have a4:=(ai.mp hq).1;obtain⟨hS,_,b,v,hb,hv,J,e⟩:=zc7 Y O ac;have ad:=hS.len;obtain⟨a,c⟩:=q;dsimp only at hS ad J e;subst e;have a5:(chg a b v).length=a.length:=zft '!' '!';unfold kyP;left;rw[ae];show#['d',?_];rw[bf,zaH];show zdl 'ƀ' (λk:Nat=>W.d (.int (k:Int))) A5 (λD=>∃U,D=[U,some (.d (stD a)),some (.d (stD (chg a b v)))]) (λk:Nat=>decide (zy a k≠zy (chg a b v) k)) (λk:Nat=>.int (k:Int)) (by rw[aZ];show aw (by lia:a.length<=8) '#') ';' ?_ ?_;rintro k hk ag ⟨U,rfl⟩ C hY hN;have al:=aL.mp hk;left;show onA '!' '!' ?_;left;show onA '!' '!' ?_;left;show zhQ (λh=>?_) (λh=>?_);show hY (aA h) ';';show hN (aG λz=>z h) ';';rw[ziS '!' J];left;rw[show atI (List.map (λk:Nat=>Dt.int (k:Int)) [b]) 0=some (Dt.int (b:Int)) from rfl];left;rw[ae];show#['d',?_];rw[bf,zaH];show zdl 'ƀ' (λk:Nat=>W.d (.int (k:Int))) A5 (λD=>∃U,D=[U,some (.d (stD a)),some (.d (.int (b:Int)))]) (λk:Nat=>decide ((k:Int)≠b)) (λk:Nat=>yq ((k:Int),zy a k)) (by rw[aZ];show aw (by lia:a.length<=8) '#') ';' ?_ ?_;rintro k hk ag ⟨U,rfl⟩ C hY hN;have al:=aL.mp hk;left;show zhQ (λh=>?_) (λh=>?_);left;show onA '!' '!' ?_;left;show hY (aA h) ';';show hN (aG λz=>z h) ';';rw[show ('ƀ'.filter λk:Nat=>decide ((k:Int)≠b)).map (λk:Nat=>yq ((k:Int),zy a k))=(zbG a b).map yq by unfold zbG;rw[aK];rfl];left;show onA '!' '!' ?_;rw[uB '!' '!' '!',if_pos rfl];left;show onA '!' '!' ?_;left;show#[by rw[ae,ae,bi];show bQ (by lia:_<=2048) '#',?_];show hC #[A5,some (.d (stD a)),some (.d (stD (chg a b v))),some (.d (.int (b:Int))),some (.d (zbY (zbG a b))),?_];rw[zj hq,aO,aO,az,dX,az,dX,zdX '!' J];rfl;rintro D m ⟨rfl,v3,v4,v5,v6,rfl⟩;rw[bB];left;have an:(uX rm (uk [bk])).Nodup:=zgg;have as:uY rm (ks.map zqU):=λw hw=>zkI (zeN λb hb=>by rw[ao.mp hb];show Y) w (I.mem_iff.mp hw);show#[by rw[ae,ae];show aw ab '#',#[_,zcl as (I.symm.nodup an)],λl' a0 a1=>?_];left;obtain⟨w,rfl,hw⟩:=zah a0;show r w #[hw.trans I,a1]
def zr3 {α q:Type}{BA:Prop}(C:α->q->Prop)(P:α->q->Prop)(h:(∀a b,C a b->P a b)->BA)(r:∀a b,C a b->P a b):BA:=h r
def zr9 (T:'6')(I:base.BuiltinsAt mg t.PT):FnOk P w K mg base CX0 8 t.f30 t.d30 lm (zfa K t.PT):=by
 have zij:=zmn (P:=P) (w:=w) (base:=base) T;have G15:=zml (P:=P) (w:=w) (base:=base) T;have G0:FnOk P w K mg base CX0 1 t.f0 t.d0 lm (zm6 K):=zf2 T;have G1:=z7 (P:=P) (w:=w) (base:=base) T;have G16:=zdJ (P:=P) (w:=w) (base:=base) T;have G17:=zcG (P:=P) (w:=w) (base:=base) T;have G18:=zaA (P:=P) (w:=w) (base:=base) T;have G19:=u4 (P:=P) (w:=w) (base:=base) T;have G23:=zdH (P:=P) (w:=w) (base:=base) T;have G25:=zdK (P:=P) (w:=w) (base:=base) T;have G27:=zbF (P:=P) (w:=w) (base:=base) T;have G28:=zaz (P:=P) (w:=w) (base:=base) T;have G29:=zeT (P:=P) (w:=w) (base:=base) T
 show zr7 (S:=[]) (k:=7) (r:=12) (lq:=(PyProof.Rows.envOfC "law" (zb zgh) 0 0 .none).qual ++ "<lambda>") [] T.q30.F xg A5 A5 '#' λbx A outer s H E Pn q ag=>#[_,_,_,A5,(xH (i:=1) xg.nd A5 'º' (zsW T.q0 G0 q (zB (qv 0) yu))),(zf (xf be A5 (wI xa <| ya A5 T.b_range (zn 'L' zt)) (wG zK <| zm (i:=2) xg.nd) (zf (wS zz <| zO (i:=3) xg.nd (wE zo <| yC T.q16 G16 q (za 'Y' 'õ')))
   (zf (zjw (wE zo <| yC T.q23 G23 q (za 'Y' 'Ľ')) (wG uF <| uG (n:=2) K A5 A5 (wH zZ <| zx (wG zK <| zm (i:=4) xg.nd) (wH zZ <| zx (wG zK <| zm (i:=5) xg.nd) 'Ü'))))
   (zf (wS zT <| xz (wT zp <| yb zcM zli 'Ǳ' 'L' 'G') (zh (wS zz <| zO (i:=4) xg.nd (wE zo <| yC T.q28 G28 q 'Ľ'))) zS)
   (zf (wS zz <| zO (i:=6) xg.nd (wE zo <| yC T.q29 G29 q (za (kv 3) (za (kv 4) zd))))
   (zf (wS zz <| zO (i:=7) xg.nd (wE zo <| yC T.q15 G15 q (za (kv 3) (za (kv 4) zd))))
   (zf (wS zT <| xz (JW.t (wW uK <| zb1 (wT yM <| xC (wT zp <| yD (JE.bo (wE zo <| yC T.q25 G25 q (za (kv 7) (za (kv 6) zd)))))) (uj 'F' (wT yM <| xC (wT zp <| yD (JE.bo (z6 (ziA A5) zqL 'B' T.b_all fU (zn (JE.bo (zas (N:=lP) (A8:=[none,some 3]) A5 '§' (wI uJ <| zbg K A5 (kv 7)) (λ_ _ _ _=>(wG zK <| zm (i:=0) (show (lP:AM).Nodup by decide +kernel))) 'ü' (λ_ _ _ _=>(wE zo <| yC T.q27 G27 q (za 'Y' 'Á'))))) zt)))))))) 'ā' zS)
   (zf (xf be A5 (wI za5 <| zaY K A5 (zat (za (wE zme <| zrJ (kb 4)) (za (zaP yO ut (kb 4) (JE.bo (wE xN <| zcE (kb 4) xL (wO yU <| xM 'L')))) (za (kv 7) zd))))) (wG zK <| zm (i:=8) xg.nd) (zh (wS zT <| xz (wT yM <| xC (wT zp <| yD (JE.bo (wE zo <| yC T.q25 G25 q (za (wE zo <| yC T.q15 G15 q (za (kv 3) (za (kv 8) zd))) (za (kv 6) zd)))))) 'ā' zS)))
   (zf (wS zz <| zO (i:=9) xg.nd (wE zo <| yC T.q17 G17 q (za 'Y' zd)))
   (zf (zjw (wE zo <| yC T.q18 G18 q (za 'Y' (za (kv 9) zd))) (wG uF <| uG (n:=3) K A5 A5 (wH zZ <| zx (wG zK <| zm (i:=10) xg.nd) (wH zZ <| zx (wG zK <| zm (i:=11) xg.nd) (wH zZ <| zx (wG zK <| zm (i:=12) xg.nd) 'Ü')))))
   (zf (wS zz <| zO (i:=13) xg.nd (wE xN <| zcE (JE.bo (z9 (za (z9 (za (wE zo <| yC T.q19 G19 q (za 'Y' (za (kv 9) (za (kv 10) 'õ')))) (za (kv 10) (za (kv 11) (za (kv 12) zd))))) zd))) xL (wO yU <| xM 'Ǳ')))
   (zf (wS zz <| zO (i:=13) xg.nd (xx zbd zk5 (JE.bo (zat (za (kv 13) (za zuY (za (zat zd) 'õ'))))) 'Ǳ' ':'))
   (zh (wS zT <| xz (wT yM <| xC (wT zp <| yD (JE.bo (zjs (N:=["_law_great_here","_law_more"]) (A8:=[some 9,some 13]) (k:=5) A5 (λ_=>rfl) (zcA T) q '#' T.q5.m T.q5.F.kp '§' '#' A5 A5 T.lam I (ag.symm.trans T.lamc) A5 (λ_ _ _ _=>rfl) T.q15 zij '#' A5 (λ_ _ _ _ _ _ _ _ b2=>'ģ'))))) 'ā' zS))))))))))))))
   (zh (zC (zdy (zhd q.units) znb (JE.bo (wE zo <| yC T.q15 G15 q (za (z9 (za zi 'õ')) (za (z9 zd) zd)))) (JE.bo (z9 zd)) 'G')))),λp c ns al=>?_]
 subst al;have U:IsQ #['·',zh5 t.PT 'ƒ'] p:=#['Ä',zmz];have hJ:(#['·',zh5 t.PT 'ƒ']:PN).J=zh5 t.PT 'ƒ':=rfl;generalize (#['·',zh5 t.PT 'ƒ']:PN)=Pn at U hJ;show ztc ?_;left;show#['d',zbX (λi D m=>m<=2000 * i/\i<=3/\∃v2 v3 v4 v5 v6 v7 v8 v9 va vb vc vd,D=[none,some (.pen p),v2,v3,v4,v5,v6,v7,v8,v9,va,vb,vc,vd]) #[by lia,by lia,_,_,_,_,_,_,_,_,_,_,_,_,A5] ?_ ?_]
 ·rintro i D m hi ⟨hm,an,v2,v3,v4,v5,v6,v7,v8,v9,va,vb,vc,vd,rfl⟩ C B E hC _ _;left;show F_mkR.i U A5 λrm m1 hR hp b4=>?_;left;show F_book.i U hR λbk b x y m2 I hl b0 b1 x0 x1 y0 y1 b5 b6=>?_;left;have ab:∀ {bk:AW},uY rm bk->∀w∈bk,w.g.length<=100000:=λI w hw=>aw (zfH (I w hw).giv hR.few) '#';refine' zr3 (λ(bk:AW) (m3:Nat)=>uY rm bk/\bk.length<=128/\m3<=m+1000) _ (λzu=>?_) ?_;rotate_left;show tk U λu u0 u1=>?_;left;show zdM 'ª' 'ª';left;show F_kinds.i hR λas a0 a1=>?_;left;generalize ac:m2+1=m4;show zu as m4 #[a0,a1,by lia];left;generalize ac:m2+1=m4;show zu bk m4 #[I,by lia,by lia];clear I hl;rintro bk m3 ⟨I,hl,b7⟩;have a2:∀ {x:AW},uY rm x->∀b∈[x],uY rm b:=λY b hb=>by rw[ao.mp hb];show Y
  left;show F_due.i hR hp I '!' λdu hd=>?_;obtain⟨Z,a3⟩:=zpd (a2 I) hd;have a4:du.length<=2048:=by rw[hd.1.length_eq];show zdY hR hp
  left;show F_full.i hR hp I λw1 a5=>?_;obtain rfl:w1=du:=zg0 a5 hd λ_ _ _ _=>rfl;left;show#[_,A5,ziU '!' (ab Z),?_];left;show zen w1 (λx=>.d (z5 x)) '´' (λD=>∃v,D=[v,'m']) (λ_=>.bl true) (aw a4 '#') ';' ?_ ?_;rintro x Y b8 ⟨v,rfl⟩ C hC;left;show F_isW.i hR (Z x Y) ?_;left;show hC ';';left;show#[w1.map λ_=>true,by rw[aK];rfl,?_];rw[show (w1.map λ_=>true).all id=true by rw[List.all_map];simp];left;have a7:ux 'Ñ' none (some 9)=(bk.take 9).map z5:=by rw[show (9:Int)=((9:Nat):Int) from rfl,zgH,List.map_take]
  rw[a7];show#[by rw[ae,ae,bi];show aw (by lia:_<=300) '#',?_];left
  have l3:∀z∈[bk.reverse,bk++bk.take 9,w1],uY rm z/\∀a∈yg 't',∀c,c∈uz z a []↔c∈uz bk a []:=λz hz=>by
   have ad:(∀x,x∈z↔x∈bk)->uY rm z/\∀a∈yg 't',∀c,c∈uz z a []↔c∈uz bk a []:=λh=>
    #[λx Y=>I x ((h x).mp Y),λa _ c=>by rw[zbR,zbR];show exists_congr λx=>and_congr_left λ_=>h x]
   simp only[au,ck,or_false] at hz;rcases hz with rfl | rfl | rfl;show ad λx=>dj;show ad λx=>by rw[aC];show#[λh=>h.elim id bG,.inl]
   show#[Z,λa ha c=>by rw[a3 a ha c,za1,b9]]
  show xh [bk.reverse,bk++bk.take 9,w1] (λz=>.d (y9 z)) (by simp[y9]) (λk D m'=>m'=m3/\∃v8,D=[none,some (.pen p),some 'ś','m','ş','ȝ',some (.d (y9 w1)),some (.d (y9 w1)),v8,v9,va,vb,vc,vd]) #[A5,_,A5] ?_ ?_;rintro k z D m' hz ⟨rfl,v8,rfl⟩ C2 B2 E2 bb _ _;obtain⟨bc,bd⟩:=l3 z (aB hz);left;show F_full.i hR hp bc λw2 bm=>?_;obtain rfl:w2=w1:=zg0 bm hd λa ha c _=>by rw[za1,za1,bR,b9,b9];show bd a ha c
  left;show#[_,A5,ziU '!' (ab Z),?_];left;show bb #[A5,_,A5];rintro D m' ⟨rfl,v8,rfl⟩;left;show F_great.i U λbs O bt=>?_;left;show F_kind.i U O λb3 x3 y3 ca cd ch ci cn co _=>?_;left;show F_mkGv.i U O '!' '!' λg m4 hG _ ac=>?_;left;show tk U λu u0 u1=>?_;left;show tk U λe e0 e1=>?_;left;show zpu (L:=[_,_,_,_]) e0 e1 λd hd=>?_;left;show#[hJ,#[A5,A5,bs,d,A5,O.box,bt],?_];left;show hC #[by lia,by lia,_,_,_,_,_,_,_,_,_,_,_,_,A5]
 rintro D m ⟨hm,an,v2,v3,v4,v5,v6,v7,v8,v9,va,vb,vc,vd,rfl⟩;left;have O:RoomOk [2,2]:='¾';show F_full.i (rm:=[2,2]) (b:=[]) O '#' (by intro x Y;simp at Y) λw hw=>?_;have e0:w=[]:=List.eq_nil_iff_forall_not_mem.mpr λx Y=>by obtain⟨st,_,b,_,v,_,h,_⟩:=zck.mp (hw.1.mem_iff.mp Y);rw[za1] at h;obtain⟨w,hw,_⟩:=zbR.mp (bh h);cases hw
 subst e0;left;show#[(eqW (bk:=[])).2,(eqW (bk:=[])).2,λc hc=>?_];obtain rfl:c=true:=hc.mpr A5;rfl
end
def Dm {K:AH}{h:Heap}{mg:AI}{x:Str}{st:Stmt}{ps:AM}{f:Addr}{I kV dc B q ct:Value}{J F:Option Addr}{O:Array AJ}(X:K.In h)(BA:h.Ns mainGlobals mg)(a:PySem.W.nsIn K mainGlobals x=some (some '½'))(l:K.lookup f=some #[I,J,.func 'Ǥ',O])(c:PySem.W.codeIn K q x=true)(k:'ǅ')(b:∀ (kV dc B:Value) (F:Option Addr) (q ct:Value) (us:AN),us.length=ps.length->bindArgs 'Ǥ' #[us,[]]=pure (ps.zip us)):Dfn K mg x st ps f 'Ǥ':=#[znD l c k,(znD l c k).binds b,eD X BA a]
def DmD{K:AH}{h:Heap}{mg:AI}{x:Str}{st:Stmt}{ps:AM}{ds:AN}{f T:Addr}{O kV dc B q ct U:Value}{Y F I:Option Addr}{its:AK}(X:K.In h)(BA:h.Ns mainGlobals mg)(a:PySem.W.nsIn K mainGlobals x=some (some '½'))(l:K.lookup f=some #[O,Y,.func 'Ɠ',Z])(c:PySem.W.codeIn K q x=true)(k:'ǅ')(t:K.lookup T=some #[U,I,.seq its n2,J])(b:∀us:AN,(us++[]).length=ps.length->∃k:Option AK->Sem (List (Str×Value)),bindArgs 'Ɠ' #[us,[]]=seqItems? (.ref T) >>= k/\k (some its)=pure (ps.zip (us++[])))(e:∀us:AN,(us++ds).length=ps.length->∃k:Option AK->Sem (List (Str×Value)),bindArgs 'Ɠ' #[us,[]]=seqItems? (.ref T) >>= k/\k (some its)=pure (ps.zip (us++ds))):DfnD K mg x st ps ds f 'Ɠ':=#[zoJ l c k,znt l A5 t b,znt l A5 t e,eD X BA a]
def Mm(X:K.In h)(BA:h.Ns mainGlobals mg)(a:PySem.W.nsIn K mainGlobals x=some (some '¡'))(e:C=BB):mg x=some (.ref BB):=e ▸ eD X BA a
def Ym{i:Int}(X:K.In h)(BA:h.Ns mainGlobals mg)(a:PySem.W.nsIn K mainGlobals x=some (some (.int i u))):∃v,ye 'P' v/\mg x=some v:=#[_,';',eD X BA a]
def fin {l:PySem.W.OpenLaw}{w:Ab}{K:AH}{mg:AI}{fa:Addr}{t:Ad}(q:mg "law" = some (.ref fa))(T:'6')(b:∀ (s:AZ) (v:Value),BindsTo s t.d30 #[[v],[]] [("_law_script",v)]):∃fd:Ac,(∀ (s:AZ) (v:Value),BindsTo s fd #[[v],[]] [("_law_script",v)])/\(∀h:Heap,K.In h->∃c,PySem.W.CodeHd h c t.PT)/\∀base:Heap,K.In base->base.Ns mainGlobals mg->base.BuiltinsAt mg t.PT->FnOk l.prog w K mg base CX0 8 fa fd lm (zfa K t.PT):=by have e:=q.symm.trans T.q30.m;cases e;show#[_,b,λh X=>#[_,T.lam.hd h X],λbase _ _ B=>zr9 T B]
def walk{l:PySem.W.OpenLaw}{q:Aa}{B:AM}{XP:(AI)->Heap->Prop}{YP:Ab->Heap->Prop}{d:DefRec}{K:Params->AH}(O:l.most=some 63)(I:d.params.defaults=[])(U:∀ (w:Ab) (h:Heap),YP w h->'¨'.In h/\h.get? T=some 'ù')(J:∀w:Ab,'¨'.lookup T=none)(F:∀ (w:Ab) (mg:AI) (fa:Addr) (h:Heap),'¨'.In h->h.Ns mainGlobals mg->mg d.name=some (.ref fa)->
   ∃fd:Ac,(∀ (s:AZ) (u:Value),BindsTo s fd #[[u],[]] [("_law_script",u)])/\(∀h:Heap,'¨'.In h->∃c,PySem.W.CodeHd h c T)/\∀base:Heap,'¨'.In base->base.Ns mainGlobals mg->base.BuiltinsAt mg T->FnOk l.prog w '¨' mg base CX0 8 fa fd lm (zfa '¨' T)) :
  PySem.W.WalkO q B XP YP l.row.toRowW d [] (λf vs=>PySem.call f vs):=
 L2.zng (T:=T) (n:=63) (k:=8) (x := "_law_script") (CX:=λ_=>CX0) (sp:=λw=>zfa '¨' T) O '#' I #[A5,by ext,by ext,rfl] U J F (λ_ _ a ns Y Z hS=>#[a,ns,A5,hS,Y,Z,λ_ h=>#[A5,h]]) λ_ _ _ _ _ z=>z
end Law
end
open PySem PySem.W PyProof.Rows
theorem PySem.W.Fast.te13052408679150730464:True:=.intro
theorem PySem.W.Fast.te13590782946482404596:True:=.intro
set_option maxRecDepth 100000 in
set_option maxHeartbeats 0 in
theorem PySem.Challenge.cw_allelse_k54_full_books_holds : PySem.Challenge.rw_allelse_k54_full_books.Holds := by
 w_on;refine holds_law (by decide +kernel) λ_=>?_;k_head;(case hw=>w_witness2)
 k_fill
 refine Law.walk (l:=PySem.Challenge.rw_allelse_k54_full_books) rfl rfl (λw h Y=>⟨PySem.W.km_in_of Y,PySem.W.km_tabs_of Y _ (List.mem_singleton.mpr rfl)⟩) ?KT ?F
 (case KT=>intro w;rfl)
 case F=>
  intro w mg fa h KX G hmg;refine' Law.fin (t:=⟨_,_,_,_,_,_,_,_,_,_,_,_,_,_,_,_,_,_,_,_,_,_,_,_,_,_,_,_,_,_,_,_,_,_,_,_,_,_,_,_,_,_,_,_,_,_,_,_,_,_,_,_,_,_,_,_,_,_,_,_,_,_,_,_,_,_,_,_,_,_,_,_,_,_,_⟩) hmg ⟨?D0,?D1,?D2,?D3,?D4,?D5,?D6,?D7,?D8,?D9,?D10,?D11,?D12,?D13,?D14,?D15,?D16,?D17,?D18,?D19,?D20,?D21,?D22,?D23,?D24,?D25,?D26,?D27,?D28,?D29,?D30,?z_ValueError,?z_sorted,?z_tuple,?z_range,?z_all,?z_isinstance,?z_len,?z_list,?z_bool,?z_int,?z_enumerate,?z_abs,?z_str,?z_zip,?m_TooMany,?m_WishError,?m_HasRing,?m_IsBetter,?m_NotSettled,?m_NotKept,?m_NoWish,?m_NoBook,?m_NoText,?m_Full,?m_NoStanding,?er,?xc,?lam,?lamc,?y_MOST_OF_SMALL⟩ λs v=>?b
  (case D0 | D1 | D2 | D3 | D4 | D5 | D6 | D7 | D8 | D9 | D11 | D12 | D13 | D14 | D15 | D16 | D17 | D18 | D19 | D20 | D21 | D22 | D23 | D24 | D25 | D26 | D27 | D28 | D29 | D30=>(dsimp only;refine' Law.Dm (by assumption) (by assumption) ?da ?dl ?dc ?dk ?db;(case da=>k_is);(case dl=>k_is);(case dc=>k_is);(case dk=>k_is);(case db=>(intro _ _ _ _ _ _ us hl;first | (obtain⟨_,e⟩:=L2.us_1 hl;subst e;rfl) | (obtain⟨_,_,e⟩:=L2.us_2 hl;subst e;rfl) | (obtain⟨_,_,_,e⟩:=L2.us_3 hl;subst e;rfl) | (obtain⟨_,_,_,_,e⟩:=L2.us_4 hl;subst e;rfl)))))
  (case D10=>(dsimp only;refine' Law.DmD (by assumption) (by assumption) ?da ?dl ?dc ?dk ?dt ?db ?de;(case da=>k_is);(case dl=>k_is);(case dc=>k_is);(case dk=>k_is);(case dt=>k_is);(case db=>(intro us hl;first | (obtain⟨_,_,_,_,e⟩:=L2.us_4 (show us.length=4 by rw[List.append_nil] at hl;exact hl);subst e;exact⟨_,rfl,rfl⟩)));(case de=>(intro us hl;first | (obtain⟨_,_,_,e⟩:=L2.us_3 (show us.length=3 by rw[List.length_append] at hl;exact Nat.succ.inj hl);subst e;exact⟨_,rfl,rfl⟩)))))
  (case z_ValueError | z_sorted | z_tuple | z_range | z_all | z_isinstance | z_len | z_list | z_bool | z_int | z_enumerate | z_abs | z_str | z_zip=>(refine' PySem.W.mg_none_of (by assumption) (by assumption) ?dz;(case dz=>k_is)))
  (case y_MOST_OF_SMALL=>(refine' Law.Ym (by assumption) (by assumption) ?dz;(case dz=>k_is)))
  (case m_TooMany | m_WishError | m_HasRing | m_IsBetter | m_NotSettled | m_NotKept | m_NoWish | m_NoBook | m_NoText | m_Full | m_NoStanding=>(dsimp only;refine' Law.Mm (by assumption) (by assumption) ?dz ?dy;(case dz=>k_is);(case dy=>exact rfl)))
  (case er=>(dsimp only;refine' ⟨⟨?e1,?e2,?e3,?e4⟩,⟨?f1,?f2,?f3,?f4⟩,PySem.W.mg_of (by assumption) (by assumption) ?g1,PySem.W.mg_of (by assumption) (by assumption) ?g2,?g3,?g4,?g5,?g6⟩;all_goals (first | k_is | kernel_rfl)))
  (case xc=>(dsimp only;refine' ⟨PySem.W.mg_of (by assumption) (by assumption) ?h1,?h2⟩;all_goals (first | k_is | kernel_rfl)))
  (case lamc=>rfl)
  (case lam=>(dsimp only;exact⟨λh X=>PySem.W.codeHd_of_K X (by kernel_rfl),by decide⟩))
  (case b=>exact .of_eq rfl)


import PyProof.Rows.All
import Wide.All
import OpenK.AllK
import Wide.FinOn
import Lean
import PyProof.EqAt
import PyProof.EqKinds
import PyProof.TupleCall
import PySem.Challenge.RW_allelse_k54_full_books
local macro_rules|`(#[$xs,*])=>`(⟨$xs,*⟩)
local macro_rules|`(#v[$xs,*])=>`(List.toArray [$xs,*])
set_option Elab.async false
set_option linter.all false
set_option maxRecDepth 100000
set_option maxHeartbeats 4000000
section
local macro_rules | `(tactic| show $e)=>`(tactic|refine $e)
local macro_rules | `(tactic| ext)=>`(tactic|decide)
local macro_rules | `(tactic| right)=>`(tactic|simp_all)
open PySem PySem.Spec
abbrev AA:=Value->Shared->Prop
abbrev AB:=List (Addr×Obj)
abbrev AE:=List (List Int×Addr)
abbrev AF:=List (List Int)
abbrev AG:=List Int
abbrev AH:=PySem.W.Frag
abbrev AI:=Str->Option Value
abbrev AJ:=Option Value
abbrev AK:=Array Value
abbrev AL:=Addr->Prop
abbrev AM:=List Str
abbrev AN:=List Value
abbrev AO:=List Expr
abbrev AQ:=Option Int
abbrev AR:=List Nat
abbrev AY:=List Addr
abbrev AZ:=Shared
abbrev Aa:=Program
abbrev Ab:=World
abbrev Ac:=FuncData
abbrev Ae:=Around
abbrev Ag(p:Program)(w:World)(A:Around){α:Type}:=@wpAny α (model p w) A
abbrev Ah(x:Str):Prop:=(x==("__debug__":Str))=false
abbrev Ai:Str:="standing"
abbrev Aj:Str:="room"
abbrev Ak:Str:="_law_room_here"
abbrev Am:Str:="_law_book_here"
abbrev An:Str:="_law_pen_here"
abbrev Ao:Str:="_law_box"
abbrev Ap:Str:="_law_given_here"
abbrev Aq:Str:="_law_found"
abbrev Ar:Str:="book"
abbrev As:Str:="_law_worth_here"
abbrev At:Str:="_law_one"
abbrev Au:Str:="_law_many"
abbrev Av:Str:="_law_thing"
abbrev Aw:Str:="_law_worse"
abbrev Ax:Str:="_law_better"
abbrev Ay:Str:="_law_other"
abbrev Az:Str:="_law_at"
abbrev A1:Str:="_law_asked"
theorem A5{α:Sort u}{a:α}:a=a:=rfl
set_option hygiene false
set_option compiler.extract_closed false
local macro_rules
|`(tactic|fail"c")=>`(tactic|(show ⟨rfl, by decide +kernel, rfl⟩))
|`(tactic|fail"f")=>`(tactic|(show ⟨rfl, rfl, rfl, by decide +kernel, rfl, by decide +kernel, by decide +kernel⟩))
|`(tactic|fail"l")=>`(tactic|(first | show Or.inl rfl | show Or.inr rfl | assumption))
|`(tactic|fail"v")=>`(tactic|(first | show Or.inl rfl | show Or.inr (Or.inl rfl) | show Or.inr (Or.inr rfl)))
local macro_rules|`('A')=>`(forIn ifs true λc r=>if r=true then do let ok <- isTrue c env (eval c env);pure (ForInStep.yield ok) else pure (ForInStep.yield r))
local macro_rules|`('@')=>`(JE.bo (wE zo<|yC T.q1 G1 O (za (kv 0) (za zi zd))))
local macro_rules|`('?')=>`(bw (aa (aE (turn n s hI) (λr s₁ h₁=>?_) λ_ _ h'=>h'.elim)))
local macro_rules|`('>')=>`(aE h₂ (λ_ s₃ h₃=>aa (aE h₃ (λok s₄ h₄=>?_) λ_ _ h'=>h'.elim)) λ_ _ h'=>h'.elim)
local macro_rules|`('=')=>`(Bf CX0 P w K mg base N qual (zb st) f B A outer s H E)
local macro_rules|`('<')=>`(.Call (.Name x p) (e::es) [] pos)
local macro_rules|`(';')=>`(X.env.qual ++ "<lambda>")
local macro_rules|`(':')=>`(.ListComp elt [#[t1,i1,f1,0],#[t2,i2,f2,0],#[t3,i3,f3,0]] scope pos)
local macro_rules|`('9')=>`(#[target,iter,ifs,0])
local macro_rules|`('8')=>`(model X'.prog X'.w)
local macro_rules|`('7')=>`(#[λA G H D n Q R E P hf k=>?_])
local macro_rules|`('6')=>`(by decide +kernel)
local macro_rules|`('5')=>`(model X.prog X.w)
local macro_rules|`('4')=>`(ns.map V.int)
local macro_rules|`('3')=>`((tk prog w).hash k)
local macro_rules|`('2')=>`(a.toList++b.toList)
local macro_rules|`('1')=>`({ s with heap:=h' })
local macro_rules|`('0')=>`(Option Nat)
local macro_rules|`('/')=>`(model prog w)
local macro_rules|`('-')=>`(λb=>A b\/b=acc)
local macro_rules|`(',')=>`(arrOf st)
local macro_rules|`('+')=>`(.lst xs)
local macro_rules|`('*')=>`(λ_ _=>rfl)
local macro_rules|`(')')=>`(zk X scope N C s H ex)
local macro_rules|`('(')=>`(zQ M A8)
local macro_rules|`('&')=>`(Inv X A6 G H s)
local macro_rules|`('%')=>`(λ_ _=>False)
local macro_rules|`('$')=>`(by simp)
local macro_rules|`('#')=>`(by ext)
local macro_rules|`('!')=>`(by lia)
set_option hygiene true
set_option compiler.extract_closed true
namespace L2
open PyProof.Rows
variable{α κ:Type}{w:Ab}{h' base:Heap}{e c value:Expr}{A6:AB}{s:AZ}{N ps:AM}{j:Nat}{E:AA}{K:AH}{es:AO}{C dx:Addr}{mA:AI}{prog:Aa}{name qual:Str}{pos' tpos p apos:Pos}{fd:Ac}{scope:Scope}
abbrev h_(x:Str):Prop:=(x==("__classdict__":Str))=false
abbrev aa:=@wpAny_bind
abbrev ae:=@wpAny_pure
abbrev af:=@List.length_map
abbrev ah:=@Heap.get?_push_of_some
abbrev ai:=@List.getElem?_eq_some_iff
abbrev aj:=@List.mem_cons_of_mem
abbrev ak:=@Nat.le_refl
abbrev am:=@List.getElem?_eq_getElem
abbrev ao:=@List.mem_singleton
abbrev aq:=@List.mem_cons_self
abbrev ar:=@Heap.get?_push_size
abbrev au:=@List.mem_cons
abbrev av:=@Nat.le_trans
abbrev aw:=@Heap.lt_size
abbrev ax:=@List.map_cons
abbrev ay:=@List.length_append
abbrev az:=@List.mem_of_getElem?
abbrev aA:=@List.mem_append
abbrev aB:=@Bool.false_ne_true
abbrev aC:=@List.append_assoc
abbrev aD:=@decide_eq_true
abbrev aE:=@wpAny_mono
abbrev aF:=@List.getElem?_map
abbrev aG:=@List.getElem?_set_ne
abbrev aH:=@List.mem_map
abbrev aI:=@Option.map_eq_some_iff
abbrev aJ:=@decide_eq_false
abbrev aK:=@List.map_map
abbrev aL:=@List.mem_range
abbrev aM:=@Array.length_toList
abbrev aN:=@Bool.false_eq_true
abbrev aO:=@Bool.and_eq_true
abbrev aP:=@List.map_append
abbrev aQ:=@Nat.zero_le
abbrev aR:=@List.pairwise_cons
abbrev aS:=@List.length_cons
abbrev aT:=@Nat.lt_of_lt_of_le
abbrev aU:=@List.size_toArray
abbrev aV:=@List.take_append_drop
abbrev aW:=@wpAny_call_entry
abbrev aX:=@Array.getElem?_eq_getElem
abbrev aY:=@Nat.ne_of_lt
abbrev aZ:=@List.length_range
abbrev a6:=@Array.toList_append
abbrev a8:=@List.mem_append_right
abbrev a9:=@List.eq_nil_of_length_eq_zero
abbrev ba:=@List.getElem?_set_self
abbrev be:=@of_decide_eq_true
abbrev bf:=@PassesOwn.never
abbrev bg:=@Int.toNat_natCast
abbrev bh:=@wpAny_newObj_type
abbrev bi:=@List.length_take
abbrev bj:=@List.getElem_mem
abbrev bn:=@Heap.SameBut.update
abbrev bp:=@List.getElem?_append_right
abbrev bq:=@List.getD_eq_getElem?_getD
abbrev br:=@List.pairwise_append
abbrev bu:=@List.all_eq_true
abbrev bv:=@List.filterMap_cons
abbrev bw:=@wpAny_standAt
abbrev bz:=@List.take_of_length_le
abbrev bA:=@PySem.boot_len
abbrev bB:=@wpAny_askSetting
abbrev bC:=@List.take_length
abbrev bD:=@PyProof.Rows.boot_tuple
abbrev bE:=@List.getElem?_append_left
abbrev bF:=@Int.toNat_of_nonneg
abbrev bG:=@List.dropLast_concat_getLast
abbrev bH:=@List.mem_of_mem_take
abbrev bJ:=@Heap.get?_update_self
abbrev bK:=@List.mem_filter
abbrev bL:=@Option.some.inj
abbrev bM:=@wpAny_setState_of
abbrev bN:=@List.pairwise_map
abbrev bO:=@List.mem_of_mem_drop
abbrev bP:=@wpAny_field
abbrev bQ:=@wpAny_holding
abbrev bR:=@Nat.lt_of_le_of_lt
abbrev bS:=@Bool.eq_iff_iff
abbrev bT:=@PySem.W.kia_one
abbrev bU:=@List.append_nil
abbrev bV:=@List.find?_cons
abbrev bW:=@wpAny_setField
abbrev bX:=@decide_eq_false_iff_not
abbrev bY:=@Array.toList_push
abbrev bZ:=@Array.mem_toList_iff
abbrev b9:=@decide_eq_true_iff
abbrev cb:=@Heap.get?_update_other
abbrev ce:=@List.pairwise_iff_getElem
abbrev cg:=@List.length_set
abbrev cj:=@List.all_cons
abbrev ck:=@List.not_mem_nil
abbrev cm:=@List.getElem?_take_of_lt
abbrev cq:=@Array.getElem?_toList
abbrev cr:=@PyProof.Rows.boot_isinstance
abbrev cw:=@PySem.F.slot_dict_keyiterator_next
abbrev cy:=@sizeLine_eq
abbrev cz:=@Int.emod_lt_of_pos
abbrev cA:=@Obj.data_mapFields
abbrev cB:=@Bool.and_true
abbrev cC:=@List.mem_append_left
abbrev cD:=@wpAny_rule
abbrev cE:=@List.mem_iff_getElem
abbrev cF:=@List.nodup_iff_pairwise_ne
abbrev cG:=@eq_of_beq
abbrev cH:=@decide_eq_true_eq
abbrev cI:=@Nat.lt_irrefl
abbrev cJ:=@wpAny_seqItems
abbrev cK:=@List.drop_eq_getElem_cons
abbrev cL:=@Classical.byContradiction
abbrev cN:=@wpAny_isInstance
abbrev cO:=@beq_self_eq_true
abbrev cP:=@List.cons_append
abbrev cQ:=@wpAny_typeNameOfWhole_keyiter
abbrev cR:=@List.getElem?_cons_succ
abbrev cS:=@Nat.le_of_lt
abbrev cT:=@wpS_forRange
abbrev cU:=@wpAny_truthy_bool
abbrev cV:=@List.take_sublist
abbrev cW:=@Nat.lt_trichotomy
abbrev cY:=@wpAny_loadPart_at
abbrev cZ:=@PyProof.Rows.callWith_type1
abbrev c7:=@PySem.mem_of_lookup
abbrev c8:=@Int.emod_nonneg
abbrev c9:=@F.slot_tuple_iterator_next
abbrev dg:=@Array.getElem?_eq_some_iff
abbrev dh:=@List.getElem_inj
abbrev di:=@List.mem_reverse
abbrev dj:=@List.getElem_map
abbrev dq:=@wpAny_pyIter_tuple
abbrev dw:=@List.mem_filterMap
abbrev dB:=@List.any_cons
abbrev dC:=@wpAny_typeOf
abbrev dD:=@List.map_inj_right
abbrev dE:=@List.filter_append
abbrev dF:=@Heap.size_push
abbrev dG:=@List.nodup_cons
abbrev dH:=@AutoSeq1.wpAny_loadPart'
abbrev dJ:=@Nat.not_lt_zero
abbrev dL:=@Nat.le_of_lt_succ
abbrev dM:=@wpAny_attempt
abbrev dN:=@Int.le_refl
abbrev dO:=@Bool.not_true
abbrev dP:=@wpAny_forIn_list
abbrev dQ:=@List.pairwise_lt_range
abbrev dR:=@wpAny_Call_Name_kw
abbrev dS:=@codeAny_mono
abbrev dU:=@List.map_nil
abbrev dW:=@wpAny_specialOf
abbrev dX:=@codeAny_loop
abbrev dY:=@Obj.isFreed_of_fields
abbrev dZ:=@List.cons.injEq
abbrev ee:=@PySem.W.kqd_lay
abbrev ef:=@PySem.W.kqd_eqv
abbrev eh:=@PySem.F.typeOf_object_class
abbrev el:=@Option.isSome_map
abbrev em:=@List.ext_getElem?
abbrev en:=@List.reverse_cons
abbrev et:=@Array.getElem_mem
abbrev eu:=@Bool.not_eq_true'
abbrev ev:=@wpS_modify
abbrev ez:=@List.drop_sublist
abbrev eA:=@PySem.W.mg_of
abbrev eC:=@Calls.Name_function_global
abbrev eD:=@Array.getElem_toList
abbrev eE:=@List.drop_zero
abbrev eF:=@List.drop_drop
abbrev eG:=@PySem.F.args_dict_keyiterator_next_1
abbrev eI:=@List.length_drop
abbrev eJ:=@wpAny_noted
abbrev eK:=@List.length_pos_iff
abbrev eL:=@PySem.F.entry_dict_keyiterator_next
abbrev eM:=@List.map_congr_left
abbrev eO:=@Nat.ne_of_gt
abbrev eP:=@PySem.F.args_tuple_add_2
abbrev eQ:=@PyProof.Rows.boot_sorted
abbrev eR:=@wpAny_passesOwn
abbrev eS:=@PySem.F.entry_tuple_add
abbrev eU:=@PySem.F.plainAttrs_list
abbrev eV:=@List.pairwise_singleton
abbrev eW:=@List.contains_cons
abbrev eX:=@Nat.min_eq_left
abbrev eY:=@codeAny_of_tree
abbrev eZ:=@wpAny_onRaise
abbrev ff:=@Nat.add_assoc
abbrev fg:=@Array.forIn_toList
abbrev fj:=@List.nil_append
abbrev fq:=@List.getElem_range
abbrev fB:=@PySem.W.cellsFrom_some
abbrev fD:=@PySem.F.slot_tuple_add
abbrev fE:=@codeAny_compStart_list
abbrev fF:=@PySem.W.kitx_list
abbrev fG:=@PySem.W.kitx_dict
abbrev fH:=@Calls.spliced_nil
abbrev fJ:=@Obj.cls_mapFields
abbrev fK:=@eqIsQuiet_byValue
abbrev fL:=@List.flatMap_cons
abbrev fM:=@List.nodup_nil
abbrev fN:=@isSubtype_stop
abbrev fO:=@List.Perm.refl
abbrev fP:=@List.Perm.append_left
abbrev fQ:=@List.pairwise_reverse
abbrev fR:=@List.pairwise_flatMap
abbrev fS:=@PyProof.Rows.boot_abs
abbrev fT:=@PyProof.Rows.boot_all
abbrev fU:=@wpAny_execs_cons
abbrev fV:=@Array.toList_inj
abbrev fW:=@List.mem_flatMap
abbrev fX:=@PySem.W.Looks.at
abbrev fY:=@Nat.pow_le_pow_right
abbrev fZ:=@List.drop_eq_nil_iff
abbrev gb:=@PySem.W.looks_findIn
abbrev ge:=@Paired.length
abbrev gf:=@F.args_tuple_iterator_next_1
abbrev gg:=@List.cons.inj
abbrev gh:=@listUpdate_at
abbrev gm:=@Nat.not_lt
abbrev gn:=@PySem.W.hideAll_get
abbrev gq:=@wpAny_execs_nil
abbrev gr:=@List.of_mem_zip
abbrev gu:=@beq_eq_false_iff_ne
abbrev gA:=@List.forIn_cons
abbrev gB:=@F.entry_tuple_iterator_next
abbrev gD:=@List.take_left'
abbrev gE:=@Heap.get?_update_ne
abbrev gF:=@wpAny_setEntries_of
abbrev gG:=@entry_list_sort
abbrev gH:=@F.slot_zip_next
abbrev gI:=@wpAny_isSubtype_exc
abbrev gJ:=@List.flatMap_append
abbrev gK:=@PySem.W.of_hideAll
abbrev gL:=@Calls.spliced_cons
abbrev gO:=@Array.append_empty
abbrev gQ:=@List.getElem?_drop
abbrev gR:=@Bool.not_eq_false'
abbrev gS:=@Nat.zero_add
abbrev gU:=@List.zip_cons_cons
abbrev gW:=@Nat.succ_pos
abbrev gX:=@wpAny_tupleItemsOf
abbrev gY:=@wpAny_fieldsOf
abbrev gZ:=@slot_list_sort
abbrev g8:=@args_list_sort
abbrev g9:=@Nat.add_le_add
abbrev hZ:=@wpAny_pyIter_list
abbrev ii:=@List.getElem_take
abbrev ij:=@List.reverse_perm
abbrev ik:=@bne_self_eq_false
abbrev il:=@Nat.mod_lt
abbrev im:=@Nat.lt_succ_of_le
abbrev io:=@wpAny_pyIter_slot
abbrev ip:=@wpAny_dictEntries
abbrev iq:=@wpAny_handled
abbrev ir:=@wpAny_newList
abbrev iu:=@Int.lt_irrefl
abbrev iw:=@noFill_tuple_add
abbrev iy:=@Nat.min_le_right
abbrev iz:=@Array.toList_map
abbrev iA:=@List.nodup_range
abbrev iB:=@List.ext_getElem
abbrev iC:=@List.any_eq_true
abbrev iD:=@Nat.sub_zero
abbrev iE:=@Nat.add_zero
abbrev iF:=@listItems_at
abbrev iG:=@List.any_map
abbrev iH:=@beq_iff_eq
abbrev Key:=Sum Int Str
def Cw:Key->Value->Bool
 | .inl k,v=>Value.isInt k v
 | .inr x,v=>Value.isStrOf x v
def keyH (w:Ab):Key->Int
 | .inl k=>hashInt k
 | .inr x=>hashStr w x
theorem zP:∀ {k:Key} {v:Value},Cw k v=true->(∃i t,k=Sum.inl i/\v=Value.int i t)\/(∃x t,k=Sum.inr x/\v=Value.str x t)
 | .inl i,v,h=>by obtain⟨t,e⟩:=Value.isInt_shape (k:=i) (v:=v) h;show .inl #[i,t,A5,e]
 | .inr x,v,h=>by obtain⟨t,e⟩:=Value.isStrOf_shape (x:=x) (v:=v) h;show .inr #[x,t,A5,e]
def Ju (i:Int)(t:Tok):Cw (.inl i) (.int i t)=true:=by simp[Cw,Value.isInt]
def OE (x:Str)(t:Tok):Cw (.inr x) (.str x t)=true:=by simp[Cw,Value.isStrOf]
def OF (a b:Int):decide ((Sum.inl a:Key)=Sum.inl b)=(a==b):=by grind
def OG (a b:Str):decide ((Sum.inr a:Key)=Sum.inr b)=decide (a=b):=by grind
def OH (a:Int)(b:Str):decide ((Sum.inl a:Key)=Sum.inr b)=false:=rfl
def OI (a:Str)(b:Int):decide ((Sum.inr a:Key)=Sum.inl b)=false:=rfl
def zV (prog:Aa)(w:Ab):PySem.KeyKind prog w Key where
 is:=Cw
 hash:=keyH w
 inj:=λv a b J I=>by
  rcases zP J with ⟨i,t,rfl,rfl⟩ | ⟨x,t,rfl,rfl⟩;rcases zP I with ⟨j,u,rfl,e⟩ | ⟨y,u,rfl,e⟩;injection e with B _;rw[B];show nomatch e;rcases zP I with ⟨j,u,rfl,e⟩ | ⟨y,u,rfl,e⟩;show nomatch e;injection e with B _;rw[B]
 byValue:=λk v h=>by rcases zP h with ⟨i,t,rfl,rfl⟩ | ⟨x,t,rfl,rfl⟩ <;> rfl
 pyHash:=λF h=>by
  rcases zP F with ⟨i,t,rfl,rfl⟩ | ⟨x,t,rfl,rfl⟩;show wpAny_pyHash_int h;show wpAny_pyHash_str h
 eqBool:=λO F h=>by
  rcases zP O with ⟨i,t,rfl,rfl⟩ | ⟨x,t,rfl,rfl⟩;rcases zP F with ⟨j,u,rfl,rfl⟩ | ⟨y,u,rfl,rfl⟩;rw[OF] at h;show wpAny_eqBool_int h;rw[OH] at h;show SeqAt.EqAt.int_str i t y u _ _ _ _ h;rcases zP F with ⟨j,u,rfl,rfl⟩ | ⟨y,u,rfl,rfl⟩;rw[OI] at h;show SeqAt.EqAt.str_int x t j u _ _ _ _ h;rw[OG] at h;show wpAny_eqBool_str h
 «strs»:=λk x t v h=>by
  rcases zP h with ⟨i,u,rfl,e⟩ | ⟨y,u,rfl,e⟩;show nomatch e
  ·injection e with B _;subst B;cases v <;> rfl
def OJ (prog:Aa)(w:Ab)(i:Int)(t:Tok):(zV prog w).is (.inl i) (.int i t)=true:=Ju i t
def OL (prog:Aa)(w:Ab)(x:Str)(t:Tok):(zV prog w).is (.inr x) (.str x t)=true:=OE x t
inductive V where
 | non | bl (b:Bool) | int (i:Int) | str (x:Str) | byt (b:Array UInt8) | flt (b:UInt64) | ref (a:Addr) | ty (n:String)
 deriving DecidableEq
abbrev AT:=List V
def ye:V->Value->Prop
 | .non,u=>u=Value.none
 | .bl b,u=>u=Value.bool b
 | .int i,u=>∃t,u=Value.int i t
 | .str x,u=>∃t,u=Value.str x t
 | .byt b,u=>∃t,u=Value.bytes b t
 | .flt b,u=>∃t,u=Value.float b t
 | .ref a,u=>u=Value.ref a
 | .ty n,u=>u=Value.type n
abbrev yf:AT->AN->Prop:=Paired ye
def yf.length(r:yf xs us):xs.length=us.length:=ge r
theorem yf.get:∀ {xs:AT} {us:AN} {i:Nat} {x:V},yf xs us->xs[i]?=some x->∃u,us[i]?=some u/\ye x u
 | _,_,_,_,.nil,e=>by simp at e
 | _,_,0,_,.cons r _,e=>by right
 | _,_,i+1,x,.cons _ t,e=>by
  obtain⟨u,h1,h2⟩:=yf.get (i:=i) (x:=x) t (by simpa using e);right
theorem yf.append:∀ {xs ys:AT} {us B:AN},yf xs us->yf ys B->yf (xs++ys) (us++B)
 | _,_,_,_,.nil,s=>s
 | _,_,_,_,.cons r t,s=>.cons r (yf.append t s)
theorem yf.take:∀ {xs:AT} {us:AN} (n:Nat),yf xs us->yf (xs.take n) (us.take n)
 | _,_,0,_=>.nil
 | _,_,_+1,.nil=>.nil
 | _,_,n+1,.cons r t=>.cons r (yf.take n t)
theorem yf.drop:∀ {xs:AT} {us:AN} (n:Nat),yf xs us->yf (xs.drop n) (us.drop n)
 | _,_,0,r=>r
 | _,_,_+1,.nil=>.nil
 | _,_,n+1,.cons _ t=>yf.drop n t
def BI:Option V->AJ->Prop
 | some v,some u=>ye v u
 | none,none=>True
 | _,_=>False
def KV:List (κ×V)->List (κ×Value)->Prop:=Paired λp q=>p.1=q.1/\ye p.2 q.2
def kV:Key->V
 | .inl i=>.int i
 | .inr x=>.str x
inductive HO where
  | lst (xs:AT)
  | tup (xs:AT)
  | dK (A7:List (Key×V)) | dT (A7:List (List Key×V))
  | set (S:Int->Bool) (n:Nat)
  | ins (C dx:Addr) (fs:List (Str×V))
  | own (x:Addr)
  | xd (fs:List (Str×V))
  | met (f x:Addr)
  | rng (lo hi:Int)
  | frz (o:Obj) (u:HO)
  | tbl (ps:AK)
  | ext (φ:Heap->Prop)
abbrev Hp:=Addr->Option HO
def upd (H:Hp)(a:Addr)(o:HO):Hp:=λb=>if b=a then some o else H b
variable{H H':Hp}
def zg:upd H a o a=some o:=by unfold upd;rw[if_pos rfl]
def zc(h:b≠a):upd H a o b=H b:=by unfold upd;rw[if_neg h]
def Dy{a b:Addr}{o u:HO}(h:H a=some o)(h':H b=some u)(d:o≠u):a≠b:=by grind
def ze{a b:Addr}{o:HO}(h:H a=some o)(h':H b=none):a≠b:=by grind
def uw (h:Heap)(a:Addr)(B:AK):Prop:=∃o,h.get? a=some o/\o.cls = .type "tuple" /\ (∃n,o.data = .seq B n)/\o.dict=none
def uw.tup(x:uw h a B):IsTup h a B:=let ⟨o,h1,h2,h3,_⟩:=x;#[o,h1,h2,h3]
def uw.lt(x:uw h a B):a<h.objs.size:=x.tup.lt
def uw.new (h:Heap)(B:AK):uw (h.push { cls:=.type "tuple",data:=.seq B }) h.objs.size B:=#[_,ar _ A5,A5,#[_,A5],A5]
section
variable(P:Aa)(w:Ab)
def zJ (H:Hp)(h:Heap)(a:Addr):HO->Prop
 | .lst xs=>xs.length<=sizeLine/\∃B n,yf xs B/\h.get? a=some { cls:=.type "list",data:=.seq B.toArray n }
 | .tup xs=>xs.length<=sizeLine/\∃B:AN,yf xs B/\uw h a B.toArray
 | .dK A7=>A7.length<=sizeLine/\(a==sysModules)=false/\∃vs,KV A7 vs/\h.DictOf (zV P w) a vs
 | .dT A7=>A7.length<=sizeLine/\(a==sysModules)=false/\∃xs:List (List Key×Addr×Value),
   Paired (λp q=>p.1=q.1/\H q.2.1=some (.tup (p.1.map kV))/\ye p.2 q.2.2) A7 xs/\
   ∃o es ep,h.get? a=some o/\o.ExactDict/\o.data = .dict es ep/\es.toList=xs.map (entryOfKey (tupleKind (zV P w)))/\(xs.map (·.1)).Nodup
 | .set S n=>h.SetOf (intKind P w) a S n
 | .ins C dx fs=>H dx=some (.own a)/\fs.length<=1000/\dx≠a/\h.get? a=some (PySem.W.instObj C dx)/\
   ∃mA,h.Ns1 dx mA/\(∀f,BI (fs.lookup f) (mA f))/\PySem.Within mA (fs.map (·.1))
 | .own _=>∃o,h.get? a=some o
 | .xd fs=>∃mA,h.Ns1 a mA/\∀f,BI (fs.lookup f) (mA f)
 | .rng lo hi=>∃t u v,h.get? a=some { cls:=.type "range",data:=.fields #v[.int lo t,.int hi u,.int 1 v] }
 | .frz o u=>h.get? a=some o/\zJ H h a u
 | .tbl ps=>h.get? a=some { cls:=.none,data:=.fields ps }
 | .met f x=>h.get? a=some (PySem.W.methodObj (.ref f) (.ref x))
 | .ext F=>F h/\(∃o,h.get? a=some o)/\∀h1 h2:Heap,F h1->(∀o,h1.get? a=some o->h2.get? a=some o)->F h2
def HOk (H:Hp)(h:Heap):Prop:=∀a o,H a=some o->zJ P w H h a o
end
section
variable{P:Aa}{h:Heap}{a:Addr}{o:HO}
def zJ.lt (x:zJ P w H h a o):a<h.objs.size:=by
 cases o with
 | lst xs=>obtain⟨_,_,_,_,e⟩:=x;show aw e
 | tup xs=>obtain⟨_,_,_,p⟩:=x;show p.lt
 | dK A7=>obtain⟨_,_,_,_,o,_,_,e,_⟩:=x;show aw e
 | dT A7=>obtain⟨_,_,_,_,o,_,_,e,_⟩:=x;show aw e
 | set S n=>obtain⟨o,_,_,_,e,_⟩:=x;show aw e
 | ins C dx fs=>obtain⟨_,_,_,e,_⟩:=x;show aw e
 | own y=>obtain⟨_,e⟩:=x;show aw e
 | xd fs=>obtain⟨_,⟨_,_,_,e,_⟩,_⟩:=x;show aw e
 | rng lo hi=>obtain⟨_,_,_,e⟩:=x;show aw e
 | frz ob u=>obtain⟨e,_⟩:=x;show aw e
 | tbl ps=>show aw (show h.get? a=some _ from x)
 | met f y=>show aw (show h.get? a=some _ from x)
 | ext B=>obtain⟨_,⟨_,e⟩,_⟩:=x;show aw e
theorem Paired.mapP{I:Type}{F BA:α->I->Prop}:∀ {l₁:List α} {B:List I},Paired F l₁ B->(∀a b,F a b->BA a b)->Paired BA l₁ B
 | _,_,.nil,_=>.nil
 | _,_,.cons r t,f=>.cons (f _ _ r) (Paired.mapP t f)
def Paired.imp'{I:Type}{F BA:α->I->Prop}(f:∀a b,F a b->BA a b){l₁:List α}{B:List I}(r:Paired F l₁ B):Paired BA l₁ B:=Paired.mapP r f
def zJ.stay (x:zJ P w H h a o)(k:∀b u,(b=a\/H b=some (.own a))->h.get? b=some u->h'.get? b=some u)(I:∀b,H b=some (.own a)->H' b=some (.own a))(J:∀b xs,H b=some (.tup xs)->H' b=some (.tup xs)):zJ P w H' h' a o:=by
 induction o with
 | lst xs=>obtain⟨z,B,n,r,e⟩:=x;show#[z,B,n,r,k _ _ (.inl A5) e]
 | tup xs=>obtain⟨z,B,r,ob,e,c⟩:=x;show#[z,B,r,ob,k _ _ (.inl A5) e,c]
 | dK A7=>obtain⟨z,y,vs,r,ob,es,ep,e,c⟩:=x;show#[z,y,vs,r,ob,es,ep,k _ _ (.inl A5) e,c]
 | dT A7=>
  obtain⟨z,y,xs,r,ob,es,ep,e,c⟩:=x;show#[z,y,xs,Paired.mapP r λp q z=>#[z.1,J _ _ z.2.1,z.2.2],ob,es,ep,k _ _ (.inl A5) e,c]
 | set S n=>obtain⟨ob,es,ep,t,e,c⟩:=x;show#[ob,es,ep,t,k _ _ (.inl A5) e,c]
 | ins C dx fs=>
  obtain⟨d,z,O,e,mA,⟨F,es,ep,U,c⟩,r⟩:=x;show#[I _ d,z,O,k _ _ (.inl A5) e,mA,#[F,es,ep,k _ _ (.inr d) U,c],r]
 | own y=>obtain⟨ob,e⟩:=x;show#[ob,k _ _ (.inl A5) e]
 | xd fs=>obtain⟨mA,⟨F,es,ep,e,c⟩,r⟩:=x;show#[mA,#[F,es,ep,k _ _ (.inl A5) e,c],r]
 | rng lo hi=>obtain⟨t,u,v,e⟩:=x;show#[t,u,v,k _ _ (.inl A5) e]
 | frz ob u Y=>obtain⟨e,q⟩:=x;show#[k _ _ (.inl A5) e,Y q]
 | tbl ps=>
  have e:h.get? a=some { cls:=.none,data:=.fields ps }:=x;show k a _ (.inl A5) e
 | met f y=>
  have e:h.get? a=some (PySem.W.methodObj (.ref f) (.ref y)):=x;show k a _ (.inl A5) e
 | ext φ=>obtain⟨p,⟨o,e⟩,st⟩:=x;show#[st _ _ p λo q=>k _ _ (.inl A5) q,#[o,k _ _ (.inl A5) e],st]
def HOk.lt (x:HOk P w H h)(e:H a=some o):a<h.objs.size:=(x a o e).lt
def HOk.fresh (x:HOk P w H h)(e:h.objs.size<=a):H a=none:=by
 cases q:H a with
 | none=>rfl
 | some u=>show absurd (aT (x.lt q) e) (cI _)
def HOk.kept (x:HOk P w H h)(k:∀b u,h.get? b=some u->h'.get? b=some u):HOk P w H h':=λa o e=>
 (x a o e).stay (λb u _ q=>k b u q) (λ_ q=>q) λ_ _ q=>q
def HOk.laid (x:HOk P w H h)(k:∀b u,h.get? b=some u->h'.get? b=some u)(hp:h.objs.size<=a)(B:zJ P w (upd H a o) h' a o):HOk P w (upd H a o) h':=λb u e=>by
 have F:=x.fresh hp;by_cases I:b=a;subst I;rw[zg] at e;cases e;show B;rw[zc I] at e;show (x b u e).stay (λc v _ q=>k c v q) (λc q=>by rw[zc (ze q F)];show q) λc xs q=>by rw[zc (ze q F)];show q
end
def Rd (H:Hp)(a:Addr)(u:HO):Prop:=H a=some u\/∃o,H a=some (.frz o u)
def Rd.ok(r:Rd H a u)(x:HOk P w H h):zJ P w H h a u:=by
 rcases r with r | ⟨o,r⟩;show x a u r;obtain⟨_,q⟩:=x a _ r;show q
def Mut:Option HO->Prop
 | some (.lst _)=>True
 | some (.dK _)=>True
 | some (.dT _)=>True
 | some (.set _ _)=>True
 | some (.ins _ _ _)=>True
 | some (.ext _)=>True
 | _=>False
section
variable{P:Aa}{h:Heap}{x e:Addr}{o':HO}
def HOk.write (ok:HOk P w H h)(I:Mut (H x))(he:e=x\/H e=some (.own x))(k:∀b u,b≠e->h.get? b=some u->h'.get? b=some u)(J:∃u,h'.get? e=some u)(O:zJ P w (upd H x o') h' x o'):HOk P w (upd H x o') h':=λb u q=>by
 have B:∀c y,H c=some (.own y)->c≠x:=λc y r z=>by subst z;rw[r] at I;show I
 have F:∀c xs,H c=some (.tup xs)->c≠x:=λc xs r z=>by subst z;rw[r] at I;show I
 by_cases Y:b=x;subst Y;rw[zg] at q;cases q;show O;rw[zc Y] at q;by_cases U:b=e
 have q':H b=some (.own x):=by
  grind
 rw[q] at q';cases q';obtain⟨v,hv⟩:=J;show#[v,by rw[U];show hv];show (ok b u q).stay (λc v hc r=>k c v ?_ r) (λc r=>by rw[zc (B c b r)];show r) λc xs r=>by rw[zc (F c xs r)];show r
 grind
end
structure Un (fs ex:AY)(H H':Hp)(h h':Heap):Prop where
 keep:∀b o,h.get? b=some o->H b=none->b∉fs->b∉ex->h'.get? b=some o
 slot:∀b o,h.get? b=some o->H b=none->b∈fs->b∉ex->∃sl,h'.get? b=some { o with slots:=sl }
 free:∀b o,h.get? b=some o->H b=none->b∉ex->H' b=none
 there:∀b o,h.get? b=some o->b∉ex->∃o',h'.get? b=some o'
 tups:∀b xs,H b=some (.tup xs)->H' b=some (.tup xs)
 frzs:∀b o u,H b=some (.frz o u)->H' b=some (.frz o u)
 tbls:∀b ps,H b=some (.tbl ps)->∃more,H' b=some (.tbl (ps++more))
section
variable{fs ex:AY}{H1:Hp}{h h1:Heap}{a x e:Addr}{o:HO}
def Un.any(u:Un fs ex H H1 h h1)(q:h.get? b=some ob)(n:H b=none)(B:b∉ex):∃I,h1.get? b=some { ob with slots:=I }:=by
 by_cases F:b∈fs;show u.slot b ob q n F B;show#[ob.slots,u.keep b ob q n F B]
def Un.kept (k:∀b u,h.get? b=some u->h'.get? b=some u):Un fs ex H H h h':=
 #[λb ob q _ _ _=>k b ob q,λb ob q _ _ _=>#[ob.slots,k b ob q],λ_ _ _ n _=>n,λb ob q _=>#[ob,k b ob q],λ_ _ q=>q,λ_ _ _ q=>q,λ_ ps q=>#[#v[],by rw[q];simp]]
def Un.refl:Un fs ex H H h h:=Un.kept λ_ _ q=>q
def Un.laid (k:∀b u,h.get? b=some u->h'.get? b=some u)(hp:h.objs.size<=a)(B:H a=none):Un fs ex H (upd H a o) h h' where
 keep:=λb u q _ _ _=>k b u q
 slot:=λb u q _ _ _=>#[u.slots,k b u q]
 free:=λb u q n _=>by rw[zc (aY (aT (aw q) hp))];show n
 there:=λb u q _=>#[u,k b u q]
 tups:=λb xs q=>by rw[zc (ze q B)];show q
 frzs:=λb u xs q=>by rw[zc (ze q B)];show q
 tbls:=λb ps q=>#[#v[],by rw[zc (ze q B),q];simp]
def Un.write (B:Mut (H x))(U:e=x\/H e=some (.own x))(k:∀b u,b≠e->h.get? b=some u->h'.get? b=some u)(J:∃u,h'.get? e=some u):Un fs ex H (upd H x o) h h':=by
 have O:∀b,H b=none->b≠x:=λb n z=>by subst z;rw[n] at B;show B
 have I:∀b,H b=none->b≠e:=λb n z=>by grind
 have F:∀b u,H b=some u->¬ Mut (some u)->b≠x:=λb u q nm z=>by subst z;rw[q] at B;show nm B
 show#[λb u q n _ _=>k b u (I b n) q,λb u q n _ _=>#[u.slots,k b u (I b n) q],λb u q n _=>by rw[zc (O b n)];show n,λb u q _=>?_,
  λb xs q=>by rw[zc (F b _ q λz=>z)];show q,λb u xs q=>by rw[zc (F b _ q λz=>z)];show q,λb ps q=>#[#v[],by rw[zc (F b _ q λz=>z),q];simp]]
 grind
end
def trk (h:Heap)(H:Hp):AY:=(List.range h.objs.size).filter λa=>(H a).isSome
def BW (h:Heap)(H:Hp):Heap:=PySem.W.hideAll h (trk h H)
def OM (h:Heap)(H:Hp):(BW h H).objs.size=h.objs.size:=PySem.W.hideAll_size _ _
def ON(e:h.get? b=some o)(n:H b=none):(BW h H).get? b=some o:=
 gn _ e λB=>by
  have q:(H b).isSome=true:=(bK.mp B).2;right
def OO(e:(BW h H).get? b=some o):h.get? b=some o/\H b=none:=by
 have B:h.get? b=some o:=gK (trk h H) e;show#[B,?_]
 cases q:H b with
 | none=>rfl
 | some x=>
  have F:b∈trk h H:=bK.mpr #[aL.mpr (aw B),by simp[q]];have z:(BW h H).get? b=none:=PySem.W.hideAll_none (trk h H) F;grind
def OP (g h:Heap)(L:Addr):AB:=(List.range h.objs.size).filterMap λa=>if a=L\/(g.get? a).isSome=true then none else (h.get? a).map λo=>(a,o)
def zu (g h:Heap)(L d:Addr):AB:=(OP g h L).filter λp=>decide (p.1≠d)
structure Mod (K:AH)(mg:AI)(base:Heap):Prop where
 kin:K.In base
 glob:base.Ns mainGlobals mg
 blt:∃mb,base.Ns builtinsNs mb/\∀x:Str,x ≠ "__name__" -> mb x=bootBuiltins x
 nolimit:base.NoLimit
structure Cx where
 prog:Aa
 w:Ab
 K:AH
 mg:AI
 base:Heap
 A:Ae
 N:AM
 s₀:AZ
 H₀:Hp
 env:Env
 outer:List Env
 stack:List Env
 ex:AY
 fn:Str->Bool
 calm:Bool
 pn:AB
 xe:AA
abbrev gy(a:Expr)(b:List Expr)(X:Cx):Prop:=starEach (a::b) X.env=(false,eval a X.env)::starEach b X.env
abbrev gM(iter:Expr)(X:Cx):Prop:=∀x,foldedSetIterable iter X.env x=pure x
abbrev g_(x:Str)(X:Cx):Prop:=X.fn x=true\/X.env.scope.names.lookup x=some .local
abbrev ig(a:Expr)(X:Cx):Prop:=starEach [a] X.env=[(false,eval a X.env)]
abbrev iI(p:Pos)(a:List Expr)(X:Cx):Prop:=(backTo p (starEach a X.env)).any (·.1)=false
abbrev Af (X:Cx):=@wpAny α '5' X.A
def frs (l:List Env):AY:=l.filterMap (·.frame)
abbrev Cx.fs (X:Cx):AY:=frs X.outer
def Vis (B:Scope)(x:Str):Prop:=B.names.lookup x=some .local\/B.names.lookup x=some .cell\/B.names.lookup x=some .free
def Loc (B:Scope)(x:Str):Prop:=B.names.lookup x=some .local\/B.names.lookup x=some .cell
def Look (env:Env)(h:Heap)(m:AI)(x:Str)(u:Value):Prop:=
 (env.kindOf x=some .local/\m x=some u)\/((env.kindOf x=some .cell\/env.kindOf x=some .free)/\∃c,env.cells.lookup x=some c/\h.IsCell c (some u))
structure Cx.Ok (X:Cx):Prop where
 mod:Mod X.K X.mg X.base
 kind:X.env.scope.kind = .function
 glob:X.env.globals=mainGlobals
 blt:X.env.builtins=builtinsNs
 above:X.s₀.heap.objs.size<=X.env.locals
 inj:∀x y c,X.env.cells.lookup x=some c->X.env.cells.lookup y=some c->x=y
 has:∀x,(X.env.kindOf x=some .cell\/X.env.kindOf x=some .free)->∃c,X.env.cells.lookup x=some c
 cab:∀x c,X.fn x=true->X.env.cells.lookup x=some c->X.s₀.heap.objs.size<=c
 hd:X.calm=true->X.A.handled=none
 frames:X.A.frames=some X.stack
 stk:X.stack=X.outer\/(X.stack=X.env::X.outer/\X.env.frame=some X.env.locals)
 exf:∀b∈X.ex,b≠X.env.locals/\∀x c,X.env.cells.lookup x=some c->c≠b
 bs:∀b o,X.base.get? b=some o->X.s₀.heap.get? b=some o/\X.H₀ b=none
 bsz:X.base.objs.size<=X.s₀.heap.objs.size
 noex:∀b o,X.base.get? b=some o->b∉X.ex
 exfs:∀b∈X.ex,b∉X.fs
 funs:X.s₀.heap.FunFrames X.base X.outer
 frf:∀b∈X.fs,X.H₀ b=none
structure Inv (X:Cx)(A6:AB)(G:List (Option V))(H:Hp)(s:AZ):Prop where
 ok:X.Ok
 os:s.os=X.s₀.os
 bare:AllBare s.gens
 base:Un X.fs X.ex X.H₀ H X.s₀.heap s.heap
 loc:∃m,s.heap.Ns X.env.locals m/\∀ (i:Nat) (x:Str) (v:V),X.N[i]?=some x->G[i]?=some (some v)->Vis X.env.scope x->∃u,ye v u/\Look X.env s.heap m x u
 cell:∀x c,X.env.cells.lookup x=some c->∃v,s.heap.IsCell c v
 free:H X.env.locals=none
 freeC:∀x c,X.env.cells.lookup x=some c->H c=none
 pin:∀p∈X.pn++A6,s.heap.get? p.1=some p.2/\H p.1=none/\p.1≠X.env.locals/\p.1∉X.fs/\∀v,p.2.data≠.cell v
 hok:HOk X.prog X.w H s.heap
 len:G.length=X.N.length
section
variable{X:Cx}{G:List (Option V)}
def Cx.Ok.nofr(B:X.Ok)(e:X.base.get? b=some o):b∉X.fs:=λF=>by
 have:=(B.funs.mem F).1;grind
def Inv.bs (I:'&'):∀b o,X.base.get? b=some o->s.heap.get? b=some o/\H b=none:=λb o e=>
 #[I.base.keep b o (I.ok.bs b o e).1 (I.ok.bs b o e).2 (I.ok.nofr e) (I.ok.noex b o e),I.base.free b o (I.ok.bs b o e).1 (I.ok.bs b o e).2 (I.ok.noex b o e)]
def Inv.bk (I:'&'):∀b o,X.base.get? b=some o->s.heap.get? b=some o:=λb o e=>(I.bs b o e).1
def Inv.mod (I:'&'):Mod X.K X.mg X.base:=I.ok.mod
def Inv.kIn (I:'&'):X.K.In s.heap:=I.ok.mod.kin.keeps I.bk
def Inv.lt (I:'&'):X.env.locals<s.heap.objs.size:=let ⟨_,hn,_⟩:=I.loc;hn.lt
def Inv.sz (I:'&'):X.s₀.heap.objs.size<=s.heap.objs.size:=av I.ok.above (cS I.lt)
def Inv.nofs (I:'&'){a:Addr}(h:s.heap.objs.size<=a):a∉X.fs:=λB=>by obtain⟨_,o,F,_⟩:=I.ok.funs.mem B;show absurd (aT (aw F) (av I.sz h)) (cI _)
def Inv.cne (I:'&'):∀x c,X.env.cells.lookup x=some c->c≠X.env.locals:=λx c e z=>by
 obtain⟨v,o,J,O⟩:=I.cell x c e;obtain⟨m,⟨o',es,ep,B,F,_⟩,_⟩:=I.loc;grind
def Inv.funs (I:'&'):s.heap.FunFrames X.base X.outer:=by
 have all:∀l,(∀b∈frs l,b∈X.fs)->X.s₀.heap.FunFrames X.base l->s.heap.FunFrames X.base l:=by
  intro l
  induction l with
  | nil=>intro _ _;trivial
  | cons env r J=>
   intro hs O;obtain⟨U,⟨L,o,hf,Y,ho,hd⟩,hr⟩:=O;have B:L∈X.fs:=hs L (by unfold frs;rw[bv,hf];show aq);obtain⟨sl,e⟩:=I.base.slot L o ho (I.ok.frf L B) B λz=>I.ok.exfs L z B;show#[U,#[L,_,hf,Y,e,hd],J (λb F=>hs b (by unfold frs;rw[bv,hf];show aj _ F)) hr]
 show all X.outer (λ_ F=>F) I.ok.funs
def Inv.stack (I:'&'):s.heap.FunFrames X.base X.stack:=by
 rcases I.ok.stk with e | ⟨e,hf⟩;rw[e];show I.funs;rw[e];obtain⟨m,B,_⟩:=I.loc;show .cons (by rw[I.ok.kind];decide) hf B ?_ I.funs;show Heap.get?_none_of_le (av I.ok.bsz I.ok.above)
def Inv.stkSub (I:'&'):∀b∈frs X.stack,b∈X.env.locals::X.fs:=λb B=>by
 rcases I.ok.stk with e | ⟨e,hf⟩;grind;rw[e] at B;unfold frs at B;rw[bv,hf] at B;show B
def Inv.stkFree (I:'&'):∀b∈frs X.stack,H b=none:=λb B=>by
 rcases au.mp (I.stkSub b B) with e | B;rw[e];show I.free;obtain⟨_,o,F,_⟩:=I.ok.funs.mem B;show I.base.free b o F (I.ok.frf b B) λz=>I.ok.exfs b z B
def Inv.step{g':Array GenState}{t':Nat}{d':Drawn}{ch:AY}(I:'&')(F:∀b∈ch,(b∈X.ex\/X.s₀.heap.objs.size<=b)/\b≠X.env.locals/\(∀x c,X.env.cells.lookup x=some c->c≠b)/\∀p∈X.pn++A6,p.1≠b)(U:∀b o,b≠X.env.locals->b∉X.fs->b∉ch->s.heap.get? b=some o->H b=none->h'.get? b=some o)(Y:∀b o,b≠X.env.locals->b∈X.fs->b∉ch->s.heap.get? b=some o->H b=none->∃sl,h'.get? b=some { o with slots:=sl })(J:∀b o,b∉ch->s.heap.get? b=some o->H b=none->H' b=none)(an:∀b o,b∉ch->s.heap.get? b=some o->∃o',h'.get? b=some o')(ad:∀b xs,H b=some (.tup xs)->H' b=some (.tup xs))(ag:∀b o u,H b=some (.frz o u)->H' b=some (.frz o u))(a1:∀b ps,H b=some (.tbl ps)->∃more,H' b=some (.tbl (ps++more)))(ns:∀m,s.heap.Ns X.env.locals m->h'.Ns X.env.locals m)(as:HOk X.prog X.w H' h')(hg:AllBare g'):
  Inv X A6 G H' { s with heap:=h',gens:=g',drawn:=d',toks:=t' }:=by
 have al:∀b o,X.s₀.heap.get? b=some o->b≠X.env.locals:=λb o e=>aY (aT (aw e) I.ok.above)
 have ab:∀b o,X.s₀.heap.get? b=some o->b∉X.ex->b∉ch:=λb o e B hb=>by
  rcases (F b hb).1 with z | z;show B z;show absurd (aT (aw e) z) (cI _)
 have O:∀x c,X.env.cells.lookup x=some c->∀v,s.heap.IsCell c v->h'.IsCell c v:=by
  rintro x c e v ⟨o,ho,hd⟩;have ac:c∉ch:=λz=>(F c z).2.2.1 x c e A5;by_cases hc:c∈X.fs;obtain⟨sl,q⟩:=Y c o (I.cne x c e) hc ac ho (I.freeC x c e);show#[_,q,hd];show#[o,U c o (I.cne x c e) hc ac ho (I.freeC x c e),hd]
 show#[I.ok,I.os,hg,#[λb o e n hb B=>?_,λb o e n hb B=>?_,λb o e n B=>?_,λb o e B=>?_,λb xs e=>ad b xs (I.base.tups b xs e),λb o xs e=>ag b o xs (I.base.frzs b o xs e),λb ps e=>?_],?_,λx c e=>?_,?_,λx c e=>?_,λp hp=>?_,as,I.len];show U b o (al b o e) hb (ab b o e B) (I.base.keep b o e n hb B) (I.base.free b o e n B);obtain⟨sl,e1⟩:=I.base.slot b o e n hb B;obtain⟨a0,e2⟩:=Y b _ (al b o e) hb (ab b o e B) e1 (I.base.free b o e n B);show#[a0,e2];obtain⟨o',e1⟩:=I.base.there b o e B;show J b o' (ab b o e B) e1 (I.base.free b o e n B);obtain⟨o',e1⟩:=I.base.there b o e B;right;obtain⟨m1,e1⟩:=I.base.tbls b ps e;grind;obtain⟨m,hn,hl⟩:=I.loc;show#[m,ns m hn,λi x v e1 e2 e3=>?_];obtain⟨u,r,l⟩:=hl i x v e1 e2 e3;show#[u,r,?_];rcases l with l | ⟨k,c,e,z⟩;show .inl l;show .inr #[k,c,e,O x c e _ z];obtain⟨v,z⟩:=I.cell x c e;show#[v,O x c e v z];obtain⟨m,⟨o,_,_,ho,_⟩,_⟩:=I.loc;show J _ o (λz=>(F _ z).2.1 A5) ho I.free;obtain⟨v,o,ho,hd⟩:=I.cell x c e;show J c o (λz=>(F c z).2.2.1 x c e A5) ho (I.freeC x c e);obtain⟨e,n,ne,nf,d⟩:=I.pin p hp;have ac:p.1∉ch:=λz=>(F p.1 z).2.2.2 p hp A5;right
def Inv.un(I:'&')(u:Un X.fs [] H H' s.heap h')(F:HOk X.prog X.w H' h'):Inv X A6 G H' { s with heap:=h',toks:=t' }:=by
 obtain⟨m,⟨o,es,ep,U,r⟩,_⟩:=id I.loc;obtain⟨sl,Y⟩:=u.any U I.free '$';show I.step (g':=s.gens) (d':=s.drawn) (ch:=[]) (λ_ z=>nomatch z) (λb o _ J _ e n=>u.keep b o e n J '$') (λb o _ J _ e n=>u.slot b o e n J '$') (λb o _ e n=>u.free b o e n '$') (λb o _ e=>u.there b o e '$') u.tups u.frzs u.tbls (λm' hm=>by obtain⟨o',es',O,B,r'⟩:=hm;rw[U] at B;cases B;show#[_,es',O,Y,r']) F I.bare
def Inv.call(I:'&')(u:Un (frs X.stack) ch H H' s.heap h')(O:HOk X.prog X.w H' h')(hg:AllBare g')(F:∀b∈ch,(b∈X.ex\/X.s₀.heap.objs.size<=b)/\b≠X.env.locals/\(∀x c,X.env.cells.lookup x=some c->c≠b)/\∀p∈X.pn++A6,p.1≠b):
  Inv X A6 G H' { s with heap:=h',gens:=g',drawn:=d',toks:=t' }:=by
 obtain⟨m,⟨o,es,ep,ho,r⟩,_⟩:=id I.loc;obtain⟨sl,U⟩:=u.any ho I.free λz=>(F _ z).2.1 A5;show I.step (ch:=ch) F (λb o U hb B e n=>u.keep b o e n (λz=>(au.mp (I.stkSub b z)).elim U hb) B) (λb o _ _ B e n=>u.any e n B) (λb o B e n=>u.free b o e n B) (λb o B e=>u.there b o e B) u.tups u.frzs u.tbls (λm' hm=>by obtain⟨o',es',Y,J,r'⟩:=hm;rw[ho] at J;cases J;show#[_,es',Y,U,r']) O hg
def Inv.turned(I:'&')(k:∀b o,b≠it->s.heap.get? b=some o->h'.get? b=some o)(J:H it=none)(F:it≠X.env.locals)(h1:it∈X.ex\/X.s₀.heap.objs.size<=it)(h2:∀x c,X.env.cells.lookup x=some c->c≠it)(O:∀p∈X.pn++A6,p.1≠it):Inv X A6 G H { s with heap:=h',toks:=t' }:=by
 have U:∀b u,H b=some u->b≠it:=λb u e z=>by rw[z,J] at e;cases e
 show I.step (g':=s.gens) (d':=s.drawn) (ch:=[it]) (λb Y=>?_) (λb o _ _ B e _=>k b o (λz=>B (by simp[z])) e) (λb o _ _ B e _=>#[o.slots,k b o (λz=>B (by simp[z])) e]) (λ_ _ _ _ n=>n)
  (λb o B e=>#[o,k b o (λz=>B (by simp[z])) e]) (λ_ _ e=>e) (λ_ _ _ e=>e) (λb ps e=>#[#v[],by rw[e];simp]) (λm hm=>?_) (λb u e=>?_) I.bare
 have e:b=it:=by simpa using Y
 subst e;show#[h1,F,h2,O];obtain⟨o,es,ep,ho,r⟩:=hm;show#[o,es,ep,k _ o (Ne.symm F) ho,r];show (I.hok b u e).stay (λc v B q=>k c v ?_ q) (λ_ q=>q) λ_ _ q=>q;grind
def Inv.tok (I:'&')(t:Nat):Inv X A6 G H { s with toks:=t }:=I.un (h':=s.heap) (t':=t) Un.refl I.hok
def Inv.kept(I:'&')(k:∀b u,s.heap.get? b=some u->h'.get? b=some u):Inv X A6 G H { s with heap:=h',toks:=t' }:=I.un (Un.kept k) (I.hok.kept k)
def Inv.laid{a:Addr}(I:'&')(k:∀b u,s.heap.get? b=some u->h'.get? b=some u)(hp:s.heap.objs.size<=a)(B:zJ X.prog X.w (upd H a o) h' a o):
  Inv X A6 G (upd H a o) { s with heap:=h',toks:=t' }:=I.un (Un.laid k hp (I.hok.fresh hp)) (I.hok.laid k hp B)
def Inv.write{e:_}(I:'&')(J:Mut (H x))(O:e=x\/H e=some (.own x))(k:∀b u,b≠e->s.heap.get? b=some u->h'.get? b=some u)(B:∃u,h'.get? e=some u)(F:zJ X.prog X.w (upd H x o) h' x o):Inv X A6 G (upd H x o) { s with heap:=h',toks:=t' }:=I.un (Un.write J O k B) (I.hok.write J O k B F)
def Inv.pins_of(I:'&')(h:∀p∈B,s.heap.get? p.1=some p.2/\H p.1=none/\p.1≠X.env.locals/\p.1∉X.fs/\∀v,p.2.data≠.cell v):Inv X B G H s:=
 #[I.ok,I.os,I.bare,I.base,I.loc,I.cell,I.free,I.freeC,λp hp=>(aA.mp hp).elim (λz=>I.pin p (cC _ z)) (h p),I.hok,I.len]
def Jw (B:N.Nodup){i:Nat}{x:Str}(a:N[i]?=some x)(b:N[j]?=some x):i=j:=by obtain⟨h1,F⟩:=ai.mp a;obtain⟨h2,I⟩:=ai.mp b;show (dh B).mp (F.trans I.symm)
def Jx(I:'&')(hN:X.N.Nodup)(hi:X.N[i]?=some x)(J:Loc X.env.scope x)(r:ye v u)(h:∀s',Inv X A6 (G.set i (some v)) H s'->(∃a,Heap.SameBut a s.heap s'.heap/\(a=X.env.locals\/X.env.cells.lookup x=some a))->Q () s')(hf:g_ x X:=by fail"l"):wpAny M A (storeName X.env x u) Q E s:=by
 obtain⟨m,hn,hl⟩:=id I.loc;have ad:(X.env.scope.kind==.class || (X.env.scope.kind==.module&&X.env.locals != X.env.globals))=false:=by rw[I.ok.kind];rfl
 have Y:i<G.length:=by rw[I.len];show (ai.mp hi).1
 have ab:=I.cne
 have B:∀ {a:Addr} {h':Heap},(∃o,s.heap.get? a=some o/\H a=none)->Heap.SameBut a s.heap h'->HOk X.prog X.w H h':=λ{a h'} ha hs b ob e=>by
  obtain⟨_,_,an⟩:=ha;show (I.hok b ob e).stay (λc w' O q=>(hs.2 c ?_).trans q) (λ_ q=>q) λ_ _ q=>q;grind
 rcases J with hk | hk;show wpAny_storeName_local hk hn (λh' as hs=>?_) ad;obtain⟨oL,_,_,a0,_⟩:=id hn;show h _ #[I.ok,I.os,I.bare,#[λb o e n hb J=>?_,λb o e n hb J=>?_,I.base.free,λb o e J=>?_,I.base.tups,I.base.frzs,I.base.tbls],#[_,as,λj y v' F U e3=>?_],λy c e=>?_,I.free,I.freeC,λp hp=>?_,B #[oL,a0,I.free] hs,by simpa using I.len] #[_,hs,.inl A5];show (hs.2 b (aY (aT (aw e) I.ok.above))).trans (I.base.keep b o e n hb J);obtain⟨sl,F⟩:=I.base.slot b o e n hb J;show#[sl,(hs.2 b (aY (aT (aw e) I.ok.above))).trans F];obtain⟨o',F⟩:=I.base.there b o e J;show#[o',(hs.2 b (aY (aT (aw e) I.ok.above))).trans F];by_cases hj:j=i;subst hj;rw[hi] at F;cases F;rw[ba Y] at U;cases U;show#[u,r,.inl #[hk,by simp]];rw[aG (Ne.symm hj)] at U;obtain⟨u',r',q⟩:=hl j y v' F U e3;show#[u',r',?_];rcases q with ⟨k,e⟩ | ⟨k,c,e,z⟩;show .inl #[k,?_];have:y≠x:=λe=>hj (Jw hN F (e ▸ hi));simp[this,e];show .inr #[k,c,e,z.sameBut hs (ab y c e)];obtain⟨w',z⟩:=I.cell y c e;show#[w',z.sameBut hs (ab y c e)];obtain⟨e,n,ne,nf,d⟩:=I.pin p hp;show#[(hs.2 p.1 ne).trans e,n,ne,nf,d]
 have ac:X.fn x=true:=by
  grind
 obtain⟨c,O⟩:=I.ok.has x (.inl hk);obtain⟨w',z⟩:=I.cell x c O;show wpAny_storeName_cell I.ok.kind hk O z (λh' ag hs=>?_);obtain⟨oc,a1,a2⟩:=id z;show h '1' #[I.ok,I.os,I.bare,#[λb o e n hb J=>?_,λb o e n hb J=>?_,I.base.free,λb o e J=>?_,I.base.tups,I.base.frzs,I.base.tbls],#[m,hn.sameBut hs (Ne.symm (ab x c O)),λj y v' F U e3=>?_],λy c' e=>?_,I.free,I.freeC,λp hp=>?_,B #[oc,a1,I.freeC x c O] hs,by simpa using I.len] #[c,hs,.inr O];show (hs.2 b (aY (aT (aw e) (I.ok.cab x c ac O)))).trans (I.base.keep b o e n hb J);obtain⟨sl,F⟩:=I.base.slot b o e n hb J;show#[sl,(hs.2 b (aY (aT (aw e) (I.ok.cab x c ac O)))).trans F];obtain⟨o',F⟩:=I.base.there b o e J;show#[o',(hs.2 b (aY (aT (aw e) (I.ok.cab x c ac O)))).trans F];by_cases hj:j=i;subst hj;rw[hi] at F;cases F;rw[ba Y] at U;cases U;show#[u,r,.inr #[.inl hk,c,O,ag]];rw[aG (Ne.symm hj)] at U;obtain⟨u',r',q⟩:=hl j y v' F U e3;show#[u',r',?_];rcases q with q | ⟨k,c',e,z'⟩;show .inl q;show .inr #[k,c',e,z'.sameBut hs ?_];rintro rfl;show hj (Jw hN F (I.ok.inj _ _ _ e O ▸ hi));by_cases al:c'=c;subst al;show#[_,ag];obtain⟨w2,z2⟩:=I.cell y c' e;show#[w2,z2.sameBut hs al];obtain⟨e,n,ne,nf,d⟩:=I.pin p hp;show#[(hs.2 p.1 ?_).trans e,n,ne,nf,d];intro q;right
def FY(I:'&')(B:X.N.Nodup)(hi:X.N[i]?=some x)(F:Loc X.env.scope x)(r:ye v u)(h:∀s',Inv X A6 (G.set i (some v)) H s'->Q () s')(hf:g_ x X:=by fail"l"):wpAny M A (storeName X.env x u) Q E s:=
 Jx I B hi F r (λs' I' _=>h s' I') hf
def Inv.call'(I:'&')(J:s'.os=s.os)(u:Un (frs X.stack) ch H H' s.heap s'.heap)(B:HOk X.prog X.w H' s'.heap)(O:AllBare s'.gens)(F:∀b∈ch,(b∈X.ex\/X.s₀.heap.objs.size<=b)/\b≠X.env.locals/\(∀x c,X.env.cells.lookup x=some c->c≠b)/\∀p∈X.pn++A6,p.1≠b):Inv X A6 G H' s':=by
 obtain⟨h',g',d',t',o'⟩:=s';have e:o'=s.os:=J;subst e;show I.call (g':=g') (t':=t') (d':=d') u B O F
end
abbrev XK:=Value->Option Addr->Hp->Prop
abbrev St:=List (Option V)
abbrev VK:=V->Hp->Prop
abbrev TE:=St->Hp->VK->Prop
variable{X:Cx}{G:St}{te tv td:TE}
abbrev TT:=St->Hp->(Bool->Hp->Prop)->Prop
abbrev TA:=St->Hp->(AT->Hp->Prop)->Prop
structure Ends where
 nx:St->Hp->Prop
 rt:VK
 bk:St->Hp->Prop:=λ_ _=>False
 ct:St->Hp->Prop:=λ_ _=>False
abbrev TS:=Ends->St->Hp->Prop
def EP (X:Cx)(A6:AB)(G:St)(Q:VK)(u:Value)(s':AZ):Prop:=∃v H',Inv X A6 G H' s'/\ye v u/\Q v H'
def TP (X:Cx)(A6:AB)(G:St)(Q:Bool->Hp->Prop)(b:Bool)(s':AZ):Prop:=∃H',Inv X A6 G H' s'/\Q b H'
def AP (X:Cx)(A6:AB)(G:St)(Q:AT->Hp->Prop)(us:AN)(s':AZ):Prop:=∃vs H',Inv X A6 G H' s'/\yf vs us/\Q vs H'
def SP (X:Cx)(A6:AB)(BB:Ends)(f:Flow)(s':AZ):Prop:=
 match f with
 | .next=>∃ B H',Inv X A6 B H' s'/\BB.nx B H'
 | .brk=>∃ B H',Inv X A6 B H' s'/\BB.bk B H'
 | .cont=>∃ B H',Inv X A6 B H' s'/\BB.ct B H'
 | .ret u=>∃v B H',Inv X A6 B H' s'/\ye v u/\BB.rt v H'
def PE (X:Cx)(e:Expr)(t:TE):Prop:=
 ∀A6 s G H Q,Inv X A6 G H s->t G H Q->Af X (eval e X.env) (EP X A6 G Q) X.xe s
def PT (X:Cx)(e:Expr)(t:TT):Prop:=
 ∀A6 s G H Q,Inv X A6 G H s->t G H Q->Af X (isTrue e X.env (eval e X.env)) (TP X A6 G Q) X.xe s
def PW (X:Cx)(e:Expr)(t:TT):Prop:=
 ∀B A6 s G H Q,Inv X A6 G H s->t G H Q->Af X (isTrue e X.env B) (TP X A6 G Q) X.xe s
def PW.pt(h:PW X e t):PT X e t:=h _
def PA (X:Cx)(es:AO)(t:TA):Prop:=
 ∀pos A6 s G H Q,Inv X A6 G H s->t G H Q->Af X (spliced (backTo pos (starEach es X.env))) (AP X A6 G Q) X.xe s
def PS (X:Cx)(st:Stmt)(t:TS):Prop:=
 ∀A6 s G H BB,Inv X A6 G H s->t BB G H->Af X (exec st X.env) (SP X A6 BB) X.xe s
def PSs (X:Cx)(st:List Stmt)(t:TS):Prop:=
 ∀A6 s G H BB,Inv X A6 G H s->t BB G H->Af X (execs st X.env) (SP X A6 BB) X.xe s
def thn{t:Sem α}{Q Q':α->AZ->Prop}(h:wpAny M A t Q E s)(B:∀a s,Q a s->Q' a s):wpAny M A t Q' E s:=aE h B λ_ _ x=>x
section
def BX (i:Nat):TE:=λG H Q=>∃v,G[i]?=some (some v)/\Q v H
def tC (v:V):TE:=λ_ H Q=>Q v H
def FZ{i:Nat}{x:Str}{pos:Pos}(O:X.N[i]?=some x)(U:Vis X.env.scope x)(F:Ah x:=by ext)(J:h_ x:=by ext):PE X (.Name x pos) (BX i):=by
 intro A6 s G H Q I h;obtain⟨v,e,h⟩:=h;obtain⟨m,Y,hl⟩:=I.loc;obtain⟨u,r,l⟩:=hl i x v O e U;have fin:EP X A6 G Q u s:=#[v,H,I,r,h];rcases l with ⟨B,hm⟩ | ⟨B,c,hc,hcell⟩;show wpAny_Name (wpAny_loadName_local I.ok.kind B Y hm fin) F;rcases B with B | B;show wpAny_Name (wpAny_loadName_cell I.ok.kind B hc hcell fin) F;show wpAny_Name (wpAny_loadName_free I.ok.kind B hc hcell fin J) F
def Jy{i j pos}:PE X (.Constant (.int i) j pos) (tC (.int i)):=λ_ _ _ H _ I h=>wpAny_Constant_int #[.int i,H,I.tok _,#[_,A5],h]
def OQ{b j pos}:PE X (.Constant (.bool b) j pos) (tC (.bl b)):=λ_ _ _ H _ I h=>Constant_bool #[.bl b,H,I,A5,h]
def OR{j pos}:PE X (.Constant .none j pos) (tC .non):=λ_ _ _ H _ I h=>Constant_none #[.non,H,I,A5,h]
def OS{x j pos}:PE X (.Constant (.str x) j pos) (tC (.str x)):=λ_ _ _ H _ I h=>Calls.Constant_str #[.str x,H,I.tok _,#[_,A5],h]
def Gl (X:Cx)(x:Str):Prop:=X.env.kindOf x=some .globalImplicit
def Er{x:Str}{u:Value}{Q:AA}(I:'&')(B:Gl X x)(F:X.mg x=some u)(h:Q u s)(J:Ah x:=by ext):Af X (eval (.Name x pos) X.env) Q E s:=
 eC I.ok.kind B (Calls.loadGlobal_global (by rw[I.ok.glob];show I.mod.glob.keeps I.bk) F h) J
def C4{x:Str}{u:Value}{pos:Pos}{Q:AA}(I:'&')(B:Gl X x)(F:X.mg x=none)(J:bootBuiltins x=some u)(h:Q u s)(O:x ≠ "__name__" := by ext)(U:Ah x:=by ext):Af X (eval (.Name x pos) X.env) Q E s:=by
 obtain⟨Y,h1,h2⟩:=I.mod.blt;show eC I.ok.kind B (Calls.loadGlobal_builtin (by rw[I.ok.glob];show I.mod.glob.keeps I.bk) F (by rw[I.ok.blt];show h1.keeps I.bk) ((h2 x O).trans J) h) U
def OT{x:Str}{v:V}{u:Value}{pos:Pos}(B:Gl X x)(F:X.mg x=some u)(r:ye v u)(J:Ah x:=by ext):PE X (.Name x pos) (tC v):=
 λ_ _ _ H _ I h=>Er I B F #[v,H,I,r,h] J
def OU{x:Str}{v:V}{u:Value}{pos:Pos}(B:Gl X x)(F:X.mg x=none)(J:bootBuiltins x=some u)(r:ye v u)(O:x ≠ "__name__" := by ext)(U:Ah x:=by ext):PE X (.Name x pos) (tC v):=
 λ_ _ _ H _ I h=>C4 I B F J #[v,H,I,r,h] O U
variable{a b:Expr}{ta tb:TE}{pos:Pos}
def PC (X:Cx)(op:CmpOp)(a b:Expr)(t:TE):Prop:=
 ∀A6 s G H Q,Inv X A6 G H s->t G H Q->
  Af X (eval a X.env) (λv B=>Af X (eval b X.env) (λu F=>Af X (compareOp op v u) (EP X A6 G Q) X.xe F) X.xe B) X.xe s
def Jz(b:Expr)(h:op≠.In)(h2:op≠.NotIn):behindInMarks op b=false:=by
 have B:(op==CmpOp.In)=false:=by cases op <;> first | rfl | show absurd A5 h
 have F:(op==CmpOp.NotIn)=false:=by cases op <;> first | rfl | show absurd A5 h2
 cases b <;> simp[behindInMarks,B,F]
def F0 (ta:TE):TE:=λG H Q=>ta G H λx H1=>Q (.bl (decide (x = .non))) H1
def ye.none_iff(r:ye x v):(v==Value.none)=decide (x = .non):=by
 cases x with
 | non=>cases r;rfl
 | bl _=>cases r;rfl
 | int _=>obtain⟨t,rfl⟩:=r;rfl
 | str _=>obtain⟨t,rfl⟩:=r;rfl
 | byt _=>obtain⟨t,rfl⟩:=r;rfl
 | flt _=>obtain⟨t,rfl⟩:=r;rfl
 | ref _=>cases r;rfl
 | ty _=>cases r;rfl
def OV{j pos'}(B:PE X a ta):PC X .Is a (.Constant .none j pos') (F0 ta):=by intro A6 s G H Q I h;show thn (B A6 s G H _ I h) ?_;rintro v s1 ⟨x,H1,I1,F,J⟩;show Constant_none (is_none_gen #[.bl _,H1,I1,by rw[F.none_iff];rfl,J])
def tB (t:TE):TT:=λG H Q=>t G H λx H1=>∃c,x = .bl c/\Q c H1
def OW(h:PC X op a b t)(h1:behindInMarks op b=false:=by first | show Jz _ '#' '#' | rfl):PT X (.Compare a [op] [b] pos) (tB t):=by intro A6 s G H Q I B;show wpAny_isTrue_Compare1 (thn (h A6 s G H _ I B) λv s1 h1=>thn h1 λu O h2=>thn h2 λc U ⟨x,H1,I1,F,J⟩=>?_) h1;obtain⟨d,rfl,q⟩:=J;cases F;show cU #[H1,I1,q]
def OX(h:PE X e t)(he:∀whole,isTrue e X.env whole=(do let v <- whole;standAt e.pos;holding [v] (truthy v)):=by intro _;rfl):PT X e (tB t):=by intro A6 s G H Q I hw;show isTrue_plain (thn (h A6 s G H _ I hw) λv s1 ⟨x,H1,I1,r1,q1⟩=>?_) (he _);obtain⟨d,rfl,q⟩:=q1;cases r1;show cU #[H1,I1,q]
variable{tA tB':TT}{zu:AO}
def F3 (t u:TT):TT:=λG H Q=>t G H λc H1=>if c=true then u G H1 Q else Q false H1
def tOr (t u:TT):TT:=λG H Q=>t G H λc H1=>if c=true then Q true H1 else u G H1 Q
def tNot (t:TT):TT:=λG H Q=>t G H λc H1=>Q (!c) H1
def OY (B:PT X a tA):PW X (.BoolOp .And [a] pos) tA:=by
 intro F A6 s G H Q I h;show isTrue_and (thn (B A6 s G H Q I h) λc s1 e=>?_)
 cases c with
 | true=>show isTrue_and_nil e
 | false=>show e
def OZ (B:PT X a tA):PW X (.BoolOp .Or [a] pos) tA:=by
 intro F A6 s G H Q I h;show isTrue_or (thn (B A6 s G H Q I h) λc s1 e=>?_)
 cases c with
 | false=>show isTrue_or_nil e
 | true=>show e
def O0 (F:PT X a tA)(J:PW X (.BoolOp .And (b::zu) pos) tB'):PW X (.BoolOp .And (a::b::zu) pos) (F3 tA tB'):=by
 intro O A6 s G H Q I h;show isTrue_and (thn (F A6 s G H _ I h) ?_);rintro c s1 ⟨H1,I1,B⟩
 cases c with
 | true=>show J O A6 s1 G H1 Q I1 B
 | false=>show#[H1,I1,B]
def O1 (F:PT X a tA)(J:PW X (.BoolOp .Or (b::zu) pos) tB'):PW X (.BoolOp .Or (a::b::zu) pos) (tOr tA tB'):=by
 intro O A6 s G H Q I h;show isTrue_or (thn (F A6 s G H _ I h) ?_);rintro c s1 ⟨H1,I1,B⟩
 cases c with
 | true=>show#[H1,I1,B]
 | false=>show J O A6 s1 G H1 Q I1 B
def O2 (B:PT X a tA):PT X (.UnaryOp .Not a pos) (tNot tA):=by intro A6 s G H Q I h;show isTrue_not (B A6 s G H (λc H1=>Q (!c) H1) I h)
def JC (ta tb:TE):TE:=λG H Q=>ta G H λx H1=>∃c,x = .bl c/\if c=true then tb G H1 Q else Q (.bl false) H1
def JD (ta:TE):TE:=λG H Q=>ta G H λx H1=>∃c,x = .bl c/\Q (.bl (!c)) H1
def O3{op}(h:PE X a t):PE X (.BoolOp op [a] pos) t:=λA6 s G H Q I B=>BoolOp_one (h A6 s G H Q I B)
def O4 (F:PE X a ta)(J:PE X (.BoolOp .And (b::zu) pos) tb):PE X (.BoolOp .And (a::b::zu) pos) (JC ta tb):=by
 intro A6 s G H Q I h;show BoolOp_and (thn (F A6 s G H _ I h) ?_);rintro v s1 ⟨x,H1,I1,O,B⟩;obtain⟨c,rfl,B⟩:=B;cases O;show cU ?_
 cases c with
 | true=>show J A6 s1 G H1 Q I1 B
 | false=>show#[.bl false,H1,I1,A5,B]
def O5 (F:PE X a ta):PE X (.UnaryOp .Not a pos) (JD ta):=by intro A6 s G H Q I h;show UnaryOp_ (thn (F A6 s G H _ I h) ?_);rintro v s1 ⟨x,H1,I1,J,B⟩;obtain⟨c,rfl,B⟩:=B;cases J;show not_of (cU #[.bl (!c),H1,I1,A5,B])
def tIf (t:TT)(ta tb:TE):TE:=λG H Q=>t G H λc H1=>if c=true then ta G H1 Q else tb G H1 Q
def O6(F:PT X c tA)(J:PE X a ta)(O:PE X b tb):PE X (.IfExp c a b pos) (tIf tA ta tb):=by
 intro A6 s G H Q I h;show wpAny_IfExp (thn (F A6 s G H _ I h) ?_);rintro d s1 ⟨H1,I1,B⟩
 cases d with
 | true=>show J A6 s1 G H1 Q I1 B
 | false=>show O A6 s1 G H1 Q I1 B
end
def SqL (K:AH)(H:Hp)(a:Addr)(xs:AT):Prop:=
 Rd H a '+'\/
  ∃o B n,K.lookup a=some o/\o.cls = .type "list" /\ o.dict=none/\o.data = .seq B n/\B.size<=sizeLine/\yf xs B.toList
def SqT (K:AH)(H:Hp)(a:Addr)(xs:AT):Prop:=
 Rd H a (.tup xs)\/
  ∃o B n,K.lookup a=some o/\o.cls = .type "tuple" /\ o.data = .seq B n/\B.size<=sizeLine/\yf xs B.toList
def absV:Value->Option V
 | .none=>some .non
 | .bool b=>some (.bl b)
 | .int i _=>some (.int i)
 | .str x _=>some (.str x)
 | .bytes b _=>some (.byt b)
 | .float b _=>some (.flt b)
 | .ref a=>some (.ref a)
 | .type n=>some (.ty n)
 | _=>none
def ye.abs(r:ye x u):absV u=some x:=by
 cases x with
 | non=>cases r;rfl
 | bl _=>cases r;rfl
 | int _=>obtain⟨t,rfl⟩:=r;rfl
 | str _=>obtain⟨t,rfl⟩:=r;rfl
 | byt _=>obtain⟨t,rfl⟩:=r;rfl
 | flt _=>obtain⟨t,rfl⟩:=r;rfl
 | ref _=>cases r;rfl
 | ty _=>cases r;rfl
def ye.inj(r:ye x u)(q:ye y u):x=y:=bL (r.abs.symm.trans q.abs)
theorem yf.inj:∀ {xs ys:AT} {us:AN},yf xs us->yf ys us->xs=ys
 | _,_,_,.nil,.nil=>rfl
 | _,_,_,.cons r t,.cons B t'=>by rw[r.inj B,yf.inj t t']
section
variable{a:Addr}{xs ys:AT}
def SqL.of (h:H a=some '+'):SqL K H a xs:=.inl (.inl h)
def SqT.of (h:H a=some (.tup xs)):SqT K H a xs:=.inl (.inl h)
def Inv.list (I:'&')(h:SqL X.K H a xs):∃B:AN,yf xs B/\PlainL s.heap a B.toArray/\xs.length<=sizeLine:=by
 rcases h with h | ⟨o,B,n,hk,hc,hd,hs,hz,r⟩;obtain⟨z,B,n,r,e⟩:=h.ok I.hok;show#[B,r,#[_,n,e,A5,A5,A5],z];show#[B.toList,r,#[o,n,I.kIn a o hk,hc,hd,by simpa using hs],?_];have e:=r.length;grind
def Inv.tuple (I:'&')(h:SqT X.K H a xs):∃B:AN,yf xs B/\IsTup s.heap a B.toArray/\xs.length<=sizeLine:=by
 rcases h with h | ⟨o,B,n,hk,hc,hs,hz,r⟩;obtain⟨z,B,r,p⟩:=h.ok I.hok;show#[B,r,p.tup,z];show#[B.toList,r,#[o,I.kIn a o hk,hc,n,by simpa using hs],?_];have e:=r.length;grind
def Inv.list_inj (I:'&')(h:SqL X.K H a xs)(h':SqL X.K H a ys):xs=ys:=by
 obtain⟨B,r,⟨o,n,e,_,_,d⟩,_⟩:=I.list h;obtain⟨its',J,⟨o',U,F,_,_,d'⟩,_⟩:=I.list h';rw[e] at F;cases F;rw[d] at d';injection d' with O _;have:B=its':=by simpa using congrArg Array.toList O
 subst this;show r.inj J
def Inv.tuple_inj (I:'&')(h:SqT X.K H a xs)(h':SqT X.K H a ys):xs=ys:=by
 obtain⟨B,r,⟨o,e,_,n,d⟩,_⟩:=I.tuple h;obtain⟨its',J,⟨o',F,_,U,d'⟩,_⟩:=I.tuple h';rw[e] at F;cases F;rw[d] at d';injection d' with O _;have:B=its':=by simpa using congrArg Array.toList O
 subst this;show r.inj J
end
abbrev Cx.wish (X:Cx)(E:AA):Cx:={ X with xe:=E }
abbrev Cx.nox (X:Cx):Cx:=X.wish λ_ _=>False
def Cx.Ok.wish (B:X.Ok)(E:AA):(X.wish E).Ok:=
 #[B.mod,B.kind,B.glob,B.blt,B.above,B.inj,B.has,B.cab,B.hd,B.frames,B.stk,B.exf,B.bs,B.bsz,B.noex,B.exfs,B.funs,B.frf]
def Cx.Ok.unwish(B:(X.wish E).Ok):X.Ok:=
 #[B.mod,B.kind,B.glob,B.blt,B.above,B.inj,B.has,B.cab,B.hd,B.frames,B.stk,B.exf,B.bs,B.bsz,B.noex,B.exfs,B.funs,B.frf]
def Inv.wish (I:'&')(E:AA):Inv (X.wish E) A6 G H s:=#[I.ok.wish E,I.os,I.bare,I.base,I.loc,I.cell,I.free,I.freeC,I.pin,I.hok,I.len]
def Inv.unwish (I:Inv (X.wish E) A6 G H s):Inv X A6 G H s:=#[I.ok.unwish,I.os,I.bare,I.base,I.loc,I.cell,I.free,I.freeC,I.pin,I.hok,I.len]
def SP.unwish(h:SP (X.wish E) A6 BB f s'):SP X A6 BB f s':=by
 cases f with
 | next=>obtain⟨B,H',I,q⟩:=h;show#[B,H',I.unwish,q]
 | brk=>obtain⟨B,H',I,q⟩:=h;show#[B,H',I.unwish,q]
 | cont=>obtain⟨B,H',I,q⟩:=h;show#[B,H',I.unwish,q]
 | ret u=>obtain⟨v,B,H',I,r,q⟩:=h;show#[v,B,H',I.unwish,r,q]
def PSs.nox{st:List Stmt}(h:PSs X.nox st t):PSs X st t:=λA6 s G H BB I B=>
 aE (h A6 s G H BB (I.wish _) B) (λ_ _ q=>q.unwish) λ_ _ z=>False.elim z
section
variable{st:Stmt}{zu:List Stmt}{t u:TS}{pos:Pos}
def JF:TS:=λBB G H=>BB.nx G H
def F4 (t u:TS):TS:=λBB G H=>t { BB with nx:=u BB } G H
def O7:PSs X [] JF:=λ_ _ G H _ I h=>gq #[G,H,I,h]
def O8 (h1:PS X st t)(h2:PSs X zu u):PSs X (st::zu) (F4 t u):=by
 intro A6 s G H BB I h;show fU (thn (h1 A6 s G H { BB with nx:=u BB } I h) λf s1 q=>?_)
 cases f with
 | next=>
  obtain⟨B,H',I',q⟩:=q;show h2 A6 s1 B H' BB I' q
 | ret v=>show q
 | brk=>show q
 | cont=>show q
def O9 (h1:PS X st t):PSs X [st] t:=by
 intro A6 s G H BB I h;show fU (thn (h1 A6 s G H BB I h) λf s1 q=>?_)
 cases f with
 | next=>show gq q
 | ret v=>show q
 | brk=>show q
 | cont=>show q
def Inv.quiet(I:'&'):interactive X.env=false:=by simp[interactive,I.ok.kind]
def F5 (te:TE):TS:=λBB G H=>te G H λ_ H1=>BB.nx G H1
def JH (B:PE X e te)(hs:swapsWith e none pos.line X.env=pure false:=by rfl):PS X (.Expr e pos) (F5 te):=by intro A6 s G H BB I h;show wpAny_Expr_any (thn (B A6 s G H _ I h)<|by rintro v s1 ⟨x,H1,I1,J,F⟩;show#[G,H1,I1,F]) I.quiet hs
def Es (te:TE):TS:=λBB G H=>te G H BB.rt
def JJ (B:PE X e te):PS X (.Return (some e) pos) (Es te):=by intro A6 s G H BB I h;show wpAny_Return_some (thn (B A6 s G H _ I h)<|by rintro v s1 ⟨x,H1,I1,F,J⟩;show#[x,G,H1,I1,F,J])
def tIfS (c:TT)(t u:TS):TS:=λBB G H=>c G H λb H1=>if b=true then t BB G H1 else u BB G H1
def O_(F:PT X c tc)(J:PSs X a t)(O:PSs X b u):PS X (.If c a b pos) (tIfS tc t u):=by
 intro A6 s G H BB I h;show wpAny_If (thn (F A6 s G H _ I h) ?_);rintro d s1 ⟨H1,I1,B⟩
 cases d with
 | true=>show J A6 s1 G H1 BB I1 B
 | false=>show O A6 s1 G H1 BB I1 B
def Pa:TS:=λ_ _ _=>False
def Et:PSs X A9 Pa:=λ_ _ _ _ _ _ h=>h.elim
end
abbrev TG:=V->St->Hp->(St->Hp->Prop)->Prop
abbrev TGs:=AT->St->Hp->(St->Hp->Prop)->Prop
def PG (X:Cx)(B:Expr)(t:TG):Prop:=
 ∀A6 s G H v u Q,Inv X A6 G H s->ye v u->t v G H Q->
  Af X (assign B X.env u) (λ_ s'=>∃ F H',Inv X A6 F H' s'/\Q F H') X.xe s
def PGs (X:Cx)(ts:AO)(t:TGs):Prop:=
 ∀A6 s G H vs us Q,Inv X A6 G H s->yf vs us->t vs G H Q->
  Af X (assignInOrder ((assignEach ts X.env).map (·.2)) us) (λ_ s'=>∃ B H',Inv X A6 B H' s'/\Q B H') X.xe s
section
variable{pos:Pos}
def BJ (i:Nat):TG:=λv G H Q=>Q (G.set i (some v)) H
def Pb(B:X.N.Nodup)(hi:X.N[i]?=some x)(F:Loc X.env.scope x)(hf:g_ x X:=by fail"l"):PG X (.Name x pos) (BJ i):=by intro A6 s G H v u Q I r h;show wpAny_assign_Name (FY I B hi F r (λs' I'=>#[_,H,I',h]) hf)
def gNil:TGs:=λvs G H Q=>vs=[]/\Q G H
def JK (t:TG)(u:TGs):TGs:=λvs G H Q=>∃v r,vs=v::r/\t v G H λB H'=>u r B H' Q
def Pc:PGs X [] gNil:=by intro A6 s G H vs us Q I r h;obtain⟨e,h⟩:=h;subst e;cases r;show assignInOrder_nil #[G,H,I,h]
def Pd(h1:PG X e t)(h2:PGs X es u)(hs:(assignEach (e::es) X.env).map (·.2)=assign e X.env::(assignEach es X.env).map (·.2):=by rfl):PGs X (e::es) (JK t u):=by
 intro A6 s G H vs us Q I r h;obtain⟨v,U,F,h⟩:=h;subst F
 cases r with
 | cons r J=>
  rw[hs];show assignInOrder_cons (thn (h1 A6 s G H _ _ _ I r h) ?_);rintro _ s1 ⟨B,H1,I1,O⟩;show h2 A6 s1 B H1 _ _ Q I1 J O
def F6 (K:AH)(n:Nat)(t:TGs):TG:=λv G H Q=>∃a xs,v = .ref a/\SqT K H a xs/\xs.length=n/\t xs G H Q
def Pe{k:Nat}{t:TGs}{n:Nat}(O:X.calm=true)(h:PGs X es t)(U:(assignEach es X.env).length=n:=by rfl)(B:(assignEach es X.env).findIdx? (·.1)=none:=by rfl):PG X (.Tuple es k pos) (F6 X.K n t):=by
 intro A6 s G H v u Q I r F;obtain⟨a,xs,Y,hq,hl,F⟩:=F;subst Y;cases r;obtain⟨ab,J,ht,hz⟩:=I.tuple hq;show assign_Tuple_tuple (I.ok.hd O) ht (by simp[U,<- hl,J.length]) B λh' hx=>?_;have I1:Inv X A6 G H '1':=I.kept (t':=s.toks) λb o e=>hx b o (aY (aw e)) e;show h A6 _ G H xs _ Q I1 (by simpa using J) F
def BK (te:TE)(g:TG):TS:=λBB G H=>te G H λx H1=>g x G H1 BB.nx
def Pf(B:PE X e te)(F:PG X tg g)(hs:swapsWithSole [tg] e pos.line X.env=pure false:=by rfl)(J:swappedStores [tg] e X.env=pure none:=by rfl)(h1:(assignEach [tg] X.env).map (·.2)=[assign tg X.env]:=by rfl):PS X (.Assign [tg] e pos) (BK te g):=by
 intro A6 s G H BB I h;show wpAny_Assign_stores (thn (B A6 s G H _ I h) λv s1 ⟨x,H1,I1,O,U⟩=>?_) hs J;rw[h1];show thn (F A6 s1 G H1 x v _ I1 O U) λ_ Y q=>q
def Pg(B:X.N.Nodup)(hi:X.N[i]?=some x)(F:Loc X.env.scope x)(J:PE X e te)(hs:swapsWith e (some (.Name x pos')) pos.line X.env=pure false:=by rfl)(hf:g_ x X:=by fail"l"):
  PS X (.Assign [.Name x pos'] e pos) (BK te (BJ i)):=by
 intro A6 s G H BB I h;show wpAny_Assign_Name (thn (J A6 s G H _ I h) λv s1 ⟨y,H1,I1,O,U⟩=>?_) hs;show FY I1 B hi F O (λY I2=>#[_,H1,I2,U]) hf
end
structure It where
 go:Nat->Hp->Prop
 yld:Nat->Hp->V->Hp->Prop
 stop:Nat->Hp->Prop
def Bq (X:Cx)(A6:AB)(H:Hp)(b:Addr):Prop:=
 H b=none/\b≠X.env.locals/\b∉X.fs/\(b∈X.ex\/X.s₀.heap.objs.size<=b)/\(∀x c,X.env.cells.lookup x=some c->c≠b)/\∀p∈X.pn++A6,p.1≠b
def Inv.fpOk{b:Addr}(I:'&')(B:s.heap.objs.size<=b)(F:H' b=none):Bq X A6 H' b:=by
 show#[F,eO (aT I.lt B),I.nofs B,.inr (av I.sz B),λx c e z=>?_,λp hp z=>?_];obtain⟨v,q⟩:=I.cell x c e;show absurd (aT q.lt (by rw[z];show B)) (cI _);show absurd (aT (aw (I.pin p hp).1) (by rw[z];show B)) (cI _)
structure Turn (P:Aa)(w:Ab)(K:AH)(tg:Expr)(J:It)(fp:AY)(it:Addr)(tn:Nat->Heap->Prop):Prop where
 mem:it∈fp
 obj:∀i h,tn i h->∀b∈fp,∃o,h.get? b=some o/\∀v,o.data≠.cell v
 keep:∀i h h',tn i h->(∀b∈fp,∀o,h.get? b=some o->h'.get? b=some o)->tn i h'
 item:∀ (X:Cx),X.prog=P->X.w=w->X.K=K->X.calm=true->∀ (i:Nat) (A6:AB) (s:AZ) (G:St) (H:Hp) (E:AA),Inv X A6 G H s->(∀b∈fp,Bq X A6 H b)->tn i s.heap->J.go i H->
  wpAny (model P w) X.A (pyNext (.ref it)) (λr s1=>∃u,r=some u/\
   wpAny (model P w) X.A (letOwnedTupleGo tg (.ref it) u) (λ_ s2=>∃x H',Inv X A6 G H' s2/\ye x u/\J.yld i H x H'/\tn (i+1) s2.heap/\∀b∈fp,H' b=none) E s1) E s
 done:∀ (X:Cx),X.prog=P->X.w=w->X.K=K->X.calm=true->∀ (i:Nat) (A6:AB) (s:AZ) (G:St) (H:Hp) (E:AA),Inv X A6 G H s->(∀b∈fp,Bq X A6 H b)->tn i s.heap->J.stop i H->
  wpAny (model P w) X.A (pyNext (.ref it)) (λr s1=>r=none/\Inv X A6 G H s1) E s
 self:∀ (A:Ae) (i:Nat) (s:AZ) (Q:AA) (E:AA),tn i s.heap->Q (.ref it) s->wpAny (model P w) A (pyIter (.ref it)) Q E s
abbrev TI:=St->Hp->(It->Hp->Prop)->Prop
def PIE (X:Cx)(A6:AB)(G:St)(tg:Expr)(R:It->Hp->Prop)(B:Value)(F:AZ):Prop:=
 ∃it I O J H',B = .ref it/\Inv X A6 G H' F/\Turn X.prog X.w X.K tg J I it O/\O 0 F.heap/\(∀b∈I,Bq X A6 H' b)/\R J H'
def PI (X:Cx)(tg iter:Expr)(wi:TI):Prop:=
 ∀A6 s G H R,Inv X A6 G H s->wi G H R->
  Af X (eval iter X.env) (λv s1=>Af X (pyIter v) (PIE X A6 G tg R) X.xe s1) X.xe s
def Eu(F:s.heap.get? it=some o)(I:o.cls = .type n)(J:o.data = .fields vs)(O:["enumerate","zip","dict_itemiterator","dict_reverseitemiterator","odict_iterator","itertools.zip_longest","itertools.pairwise"].contains n=false)(B:Q () s):wpAny M A (letOwnedTupleGo tg (.ref it) u) Q E s:=by
 unfold letOwnedTupleGo
 cases tg <;> first
  | show ae B
  | (cases u <;> first
    | show ae B
    | (show aa (wpAny_load F ?_)
       rw[I,J];change wpAny M A (if (["enumerate","zip","dict_itemiterator","dict_reverseitemiterator","odict_iterator","itertools.zip_longest","itertools.pairwise"].contains n&&vs[0]?==some (rawInt _))=true then _ else _) Q E s;rw[if_neg '!'];show ae B))
def Itl (K:AH)(a:Addr):It:=
 #[λi H=>∃xs x,SqL K H a xs/\xs[i]?=some x,λi H x H'=>H'=H/\∀xs,SqL K H a xs->xs[i]?=some x,λi H=>∃xs,SqL K H a xs/\xs.length<=i]
def Itt (K:AH)(a:Addr):It:=
 #[λi H=>∃xs x,SqT K H a xs/\xs[i]?=some x,λi H x H'=>H'=H/\∀xs,SqT K H a xs->xs[i]?=some x,λi H=>∃xs,SqT K H a xs/\xs.length<=i]
def Itr (lo:Int)(n:Nat):It:=#[λi _=>i<n,λi H x H'=>H'=H/\x = .int (lo+i),λi _=>n<=i]
def Ph{P:Aa}(a it:Addr):Turn P w K tg (Itl K a) [it] it (λi h=>h.IsListIter it a i) where
 mem:=by simp
 obj:=λi h st b B=>by
  have e:b=it:=by simpa using B
  subst e;obtain⟨o,e,c,d⟩:=st;right
 keep:=λi h h' st k=>st.at λo e=>k it '$' o e
 item:=by intro X O U Y hc i A6 s G H E I hf st hg;subst O U Y;obtain⟨xs,x,J,hx⟩:=hg;obtain⟨ab,rv,p,hz⟩:=I.list J;obtain⟨u,hu,ru⟩:=rv.get hx;obtain⟨f0,f1,f2,f3,f4,f5⟩:=hf it '$';show wpAny_pyNext_list_item st p.isList (x:=u) (by simpa using hu) λh' F sb=>?_;have I1:Inv X A6 G H '1':=I.turned (t':=s.toks) (λb o B e=>(sb.2 b B).trans e) f0 f1 f3 f4 f5;obtain⟨o,e,c,d⟩:=id F;show#[u,A5,Eu (s:='1') e c d '#' #[x,H,I1,ru,#[A5,λys hy=>by rw[I.list_inj hy J];show hx],F,λb B=>(hf b B).1]]
 done:=by intro X O U Y hc i A6 s G H E I hf st hg;subst O U Y;obtain⟨xs,J,hx⟩:=hg;obtain⟨ab,rv,p,hz⟩:=I.list J;obtain⟨f0,f1,f2,f3,f4,f5⟩:=hf it '$';have hl:=rv.length;show wpAny_pyNext_list_end (I.ok.hd hc) st p.isList (by simp;lia) λh' eb=>#[A5,I.turned (t':=s.toks) (λb o B e=>eb b o B e) f0 f1 f3 f4 f5]
 self:=λ_ _ _ _ _ st h=>wpAny_pyIter_listiter st h
def Pi{P:Aa}(a it:Addr):Turn P w K tg (Itt K a) [it] it (λi h=>h.IsTupleIter it a i) where
 mem:=by simp
 obj:=λi h st b B=>by
  have e:b=it:=by simpa using B
  subst e;obtain⟨o,e,c,d⟩:=st;right
 keep:=λi h h' st k=>st.at λo e=>k it '$' o e
 item:=by intro X U Y hK hc i A6 s G H E I hf st hg;subst U Y hK;obtain⟨xs,x,O,hx⟩:=hg;obtain⟨F,rv,p,hz⟩:=I.tuple O;obtain⟨u,hu,ru⟩:=rv.get hx;obtain⟨f0,f1,f2,f3,f4,f5⟩:=hf it '$';show wpAny_pyNext_tuple_item st (show s.heap.IsTuple a F.toArray from p) (x:=u) (by simpa using hu) λh' J sb=>?_;have I1:Inv X A6 G H '1':=I.turned (t':=s.toks) (λb o B e=>(sb.2 b B).trans e) f0 f1 f3 f4 f5;obtain⟨o,e,c,d⟩:=id J;show#[u,A5,Eu (s:='1') e c d '#' #[x,H,I1,ru,#[A5,λys hy=>by rw[I.tuple_inj hy O];show hx],J,λb B=>(hf b B).1]]
 done:=by intro X U Y hK hc i A6 s G H E I hf st hg;subst U Y hK;obtain⟨xs,O,hx⟩:=hg;obtain⟨F,rv,p,hz⟩:=I.tuple O;obtain⟨f0,f1,f2,f3,f4,f5⟩:=hf it '$';have hl:=rv.length;show wpAny_pyNext_tuple_end (I.ok.hd hc) st (show s.heap.IsTuple a F.toArray from p) (by simp;lia) λh' eb=>#[A5,I.turned (t':=s.toks) (λb o B e=>eb b o B e) f0 f1 f3 f4 f5]
 self:=λ_ _ _ _ _ st h=>wpAny_pyIter_tupleiter st h
def Pj{P:Aa}(it:Addr)(lo:Int)(n:Nat):Turn P w K tg (Itr lo n) [it] it (λi h=>IsRangeIter h it (lo+(i:Nat)*1) ((n:Int)-(i:Nat)) 1) where
 mem:=by simp
 obj:=λi h st b B=>by right
 keep:=λi h h' st k=>k it '$' _ st
 item:=by intro X J O U Y i A6 s G H E I hf st hg;subst J O U;obtain⟨f0,f1,f2,f3,f4,f5⟩:=hf it '$';have W:=Walks.range (prog:=X.prog) (w:=X.w) (I.ok.hd Y) it lo 1 n;show W.item i s _ _ hg st λv h' tk hv F kk=>?_;obtain⟨t,rfl⟩:=hv;have I1:Inv X A6 G H { s with heap:=h',toks:=tk }:=I.turned (λb o B e=>kk b o (by simpa using B) e) f0 f1 f3 f4 f5;show#[_,A5,Eu (s:={ s with heap:=h',toks:=tk }) (n := "range_iterator") F A5 A5 '#' #[.int (lo+i),H,I1,#[t,?_],#[A5,A5],F,λb B=>(hf b B).1]];rw[Int.mul_one]
 done:=by intro X J O U Y i A6 s G H E I hf st hg;subst J O U;obtain⟨f0,f1,f2,f3,f4,f5⟩:=hf it '$';show wpAny_pyNext_range_end (I.ok.hd Y) st (by have:n<=i:=hg;lia) λh' eb=>#[A5,I.turned (t':=s.toks) (λb o B e=>eb b o B e) f0 f1 f3 f4 f5]
 self:=λ_ _ _ _ _ st h=>wpAny_pyIter_rangeiter st h
section
variable{tg:Expr}
def F7 (K:AH)(tl:TE):TI:=λG H R=>tl G H λx H1=>∃a,x = .ref a/\(∃xs,SqL K H1 a xs)/\R (Itl K a) H1
def F8 (K:AH)(tl:TE):TI:=λG H R=>tl G H λx H1=>∃a,x = .ref a/\(∃xs,SqT K H1 a xs)/\R (Itt K a) H1
def Pk(B:PE X l tl):PI X tg l (F7 X.K tl):=by
 intro A6 s G H R I h;show thn (B A6 s G H _ I h) ?_;rintro v s1 ⟨x,H1,I1,F,J⟩;obtain⟨a,e,⟨xs,O⟩,q⟩:=J;subst e;cases F;obtain⟨U,rv,p,hz⟩:=I1.list O;show hZ p.isList ?_;show#[s1.heap.objs.size,[s1.heap.objs.size],_,_,H1,A5,I1.kept (t':=s1.toks) λb o e=>ah _ e,Ph a _,#[_,ar _ A5,A5,A5],λb Y=>?_,q];have e:b=s1.heap.objs.size:=by simpa using Y
 subst e;show I1.fpOk (ak _) (I1.hok.fresh (ak _))
def Pl(F:PE X l tl):PI X tg l (F8 X.K tl):=by
 intro A6 s G H R I h;show thn (F A6 s G H _ I h) ?_;rintro v s1 ⟨x,H1,I1,J,O⟩;obtain⟨a,e,⟨xs,U⟩,q⟩:=O;subst e;cases J;obtain⟨B,rv,p,hz⟩:=I1.tuple U;show dq (show s1.heap.IsTuple a B.toArray from p) ?_;show#[s1.heap.objs.size,[s1.heap.objs.size],_,_,H1,A5,I1.kept (t':=s1.toks) λb o e=>ah _ e,Pi a _,#[_,ar _ A5,A5,A5],λb Y=>?_,q];have e:b=s1.heap.objs.size:=by simpa using Y
 subst e;show I1.fpOk (ak _) (I1.hok.fresh (ak _))
def Po{R:It->Hp->Prop}{lo hi:Int}{t u v:Tok}(I:'&')(h1:-(2 ^ 62)<=lo)(h2:lo<2 ^ 62)(B:-(2 ^ 62)<=hi)(F:hi<2 ^ 62)(q:R (Itr lo (hi-lo).toNat) H):Af X (pyIter (.ref s.heap.objs.size)) (PIE X A6 G tg R) E { s with heap:=s.heap.push { cls:=.type "range",data:=.fields #v[.int lo t,.int hi u,.int 1 v] },toks:=tk }:=by
 show wpAny_pyIter_range (IsRange.new ..) (small_one h1 h2 B F) ?_;have I1:Inv X A6 G H { s with heap:=s.heap.push { cls:=.type "range",data:=.fields #v[.int lo t,.int hi u,.int 1 v] },toks:=tk }:=I.kept λb o e=>ah _ e
 show#[(s.heap.push { cls:=.type "range",data:=.fields #v[.int lo t,.int hi u,.int 1 v] }).objs.size,[(s.heap.push { cls:=.type "range",data:=.fields #v[.int lo t,.int hi u,.int 1 v] }).objs.size],_,_,H,A5,
  I1.kept (t':=tk) λb o e=>ah _ e,Pj _ lo (hi-lo).toNat,?_,λb J=>?_,q]
 ·have O:lo+((0:Nat):Int)*1=lo:=by simp
  have U:(((hi-lo).toNat:Nat):Int)-((0:Nat):Int)=Builtin.Range.rangeSize lo hi 1:=by rw[rangeSize_one];split <;> lia
  rw[O,U];show ar _ A5
 have e:b=(s.heap.push { cls:=.type "range",data:=.fields #v[.int lo t,.int hi u,.int 1 v] }).objs.size:=by simpa using J
 subst e;show I1.fpOk (ak _) (I1.hok.fresh (ak _))
def JL (ta:TA):TI:=λG H R=>ta G H λvs H1=>∃j:Int,vs=[.int j]/\-(2 ^ 62)<=j/\j<2 ^ 62/\R (Itr 0 j.toNat) H1
def Pq(F:Gl X "range")(J:X.mg "range" = none)(O:PA X [a] ta)(hs:ig a X:=by rfl):PI X tg (.Call (.Name "range" p) [a] [] pos) (JL ta):=by
 intro A6 s G H R I h;show Call_ (C4 I F J boot_range (cZ (thn (O pos A6 s G H _ I h) λus s1 ⟨vs,H1,I1,U,B⟩=>?_) hs A5));obtain⟨j,e,B,Y,q⟩:=B;subst e
 cases U with
 | cons r rr=>
  cases rr;obtain⟨t,rfl⟩:=r;show call_range_1 (Po I1 '!' '!' B Y (by simpa using q))
def F9 (wi:TI)(g:TG)(tb:TS):TS:=λBB G H=>wi G H λJ H1=>∃W:Nat->Nat->St->Hp->Prop,(∃m,W 0 m G H1)/\∀i m G H,W i m G H->
 (J.stop i H/\BB.nx G H)\/(J.go i H/\∃N:St->Hp->Prop,(∀ B H',N B H'->∃I,I<m/\W (i+1) I B H')/\∀x H',J.yld i H x H'->g x G H' λF H2=>tb { BB with nx:=N,ct:=N,bk:=BB.nx } F H2)
def Dz (B:AY)(h:Heap):AB:=B.filterMap λb=>(h.get? b).map λo=>(b,o)
def F_(F:b∈B)(e:h.get? b=some o):(b,o)∈Dz B h:=dw.mpr #[b,F,by rw[e];rfl]
def Pr{p:_}(hp:p∈Dz B h):p.1∈B/\h.get? p.1=some p.2:=by
 obtain⟨b,F,e⟩:=dw.mp hp
 cases q:h.get? b with
 | none=>rw[q] at e;cases e
 | some o=>
  grind
def Inv.pinned{B:AY}(I:'&')(hf:∀b∈B,Bq X A6 H b)(J:∀b∈B,∃o,s.heap.get? b=some o/\∀v,o.data≠.cell v):Inv X (A6++Dz B s.heap) G H s:=
 I.pins_of λp hp=>(aA.mp hp).elim (λz=>I.pin p (a8 _ z)) λz=>by
  obtain⟨F,e⟩:=Pr z;obtain⟨O,f1,f2,_⟩:=hf p.1 F;obtain⟨o,U,d⟩:=J p.1 F;right
def Inv.unpinned{pl:AB}(I:Inv X (A6++pl) G H s):Inv X A6 G H s:=I.pins_of λp hp=>I.pin p (a8 _ (cC _ hp))
def Ps(hp:PassesOwn '5' X.A X.env X.xe)(hc:X.calm=true)(hi:PI X tg iter wi)(hg:PG X tg g)(F:PSs X body tb)(hs:gM iter X:=by intro _;rfl):PS X (.For tg iter body [] pos) (F9 wi g tb):=by
 intro A6 s G H BB I h;show wpAny_For (thn (hi A6 s G H _ I h) λv s1 h1=>thn h1 λa1 s2 h2=>?_) hs;obtain⟨it,fp,tn,J,H2,e,I2,T,an,f2,W,⟨m0,w0⟩,ad⟩:=h2;subst e;have O:∀ {H':Hp},(∀b∈fp,H' b=none)->∀b∈fp,Bq X A6 H' b:=λhn b F=>#[hn b F,(f2 b F).2];show codeAny_forLoop_any (λn s'=>∃i U H',Inv X A6 U H' s'/\tn i s'.heap/\(∀b∈fp,H' b=none)/\W i n U H') ?_ m0 #[0,G,H2,I2,an,λb F=>(f2 b F).1,w0];rintro n s3 ⟨i,Y,H3,I3,ag,al,w3⟩;rcases ad i n Y H3 w3 with ⟨stop,qn⟩ | ⟨go,N,hN,step⟩
 ·show eR hp (thn (T.done X A5 A5 A5 hc i A6 s3 Y H3 X.xe I3 (O al) ag stop) ?_);rintro r s4 ⟨hr,I4⟩;subst hr;show gq #[Y,H3,I4,qn]
 ·show eR hp (thn (T.item X A5 A5 A5 hc i A6 s3 Y H3 X.xe I3 (O al) ag go) ?_);rintro r s4 ⟨u,hr,h4⟩;subst hr;show eR hp (thn h4 ?_);rintro _ s5 ⟨x,H5,I5,r5,y5,ac,as⟩;have I5':=I5.pinned (O as) (T.obj _ _ ac);show eR hp (thn (hg _ s5 Y H5 x u _ I5' r5 (step x H5 y5)) ?_);rintro _ s6 ⟨a0,H6,I6,q6⟩;show eR hp (thn (F _ s6 a0 H6 _ I6 q6) λf s7 q7=>?_);have ab:∀ {B:St} {H7:Hp},Inv X (A6++Dz fp s5.heap) B H7 s7->N B H7->∃m,m<n/\∃i U H',Inv X A6 U H' s7/\tn i s7.heap/\(∀b∈fp,H' b=none)/\W i m U H':=λ{B H7} I7 n7=>by obtain⟨m',hm,w7⟩:=hN B H7 n7;show#[m',hm,i+1,B,H7,I7.unpinned,T.keep _ _ _ ac λb F o e=>(I7.pin (b,o) (a8 _ (a8 _ (F_ F e)))).1,λb F=>?_,w7];obtain⟨o,e,d⟩:=T.obj _ _ ac b F;show (I7.pin (b,o) (a8 _ (a8 _ (F_ F e)))).2.1
  cases f with
  | next=>obtain⟨B,H7,I7,n7⟩:=q7;show ab I7 n7
  | cont=>obtain⟨B,H7,I7,n7⟩:=q7;show ab I7 n7
  | brk=>obtain⟨B,H7,I7,q7⟩:=q7;show#[B,H7,I7.unpinned,q7]
  | ret v=>obtain⟨x7,B,H7,I7,r7,q7⟩:=q7;show#[x7,B,H7,I7.unpinned,r7,q7]
end
def Pt{a:Addr}{xs:AT}{g:TG}{tb:TS}{BB:Ends}(Pv:Nat->St->Hp->Prop)(O:Pv 0 G H)(U:∀i G H,i<=xs.length->Pv i G H->SqL K H a xs)(hs:∀i x G H,xs[i]?=some x->Pv i G H->g x G H λB H2=>tb { BB with nx:=Pv (i+1),ct:=Pv (i+1),bk:=BB.nx } B H2)(Y:∀ G H,Pv xs.length G H->BB.nx G H):
  ∃W:Nat->Nat->St->Hp->Prop,(∃m,W 0 m G H)/\∀i m G H,W i m G H->
   ((Itl K a).stop i H/\BB.nx G H)\/((Itl K a).go i H/\∃N:St->Hp->Prop,(∀ F H',N F H'->∃J,J<m/\W (i+1) J F H')/\∀x H',(Itl K a).yld i H x H'->g x G H' λB H2=>tb { BB with nx:=N,ct:=N,bk:=BB.nx } B H2):=by
 show#[λi m G H=>m=xs.length-i/\i<=xs.length/\Pv i G H,#[xs.length,by simp,aQ _,O],?_];rintro i m G H ⟨rfl,hi,p⟩;have q:=U i G H hi p;by_cases I:i<xs.length;show .inr #[#[xs,xs[i],q,by simp[I]],Pv (i+1),λF H' p'=>#[xs.length-(i+1),by lia,A5,I,p'],λx H' y=>?_];obtain⟨e,y⟩:=y;subst e;show hs i x G _ (y xs q) p;have e:i=xs.length:=by lia
 subst e;show .inl #[#[xs,q,ak _],Y G H p]
def Pu{a:Addr}{xs:AT}{g:TG}{tb:TS}{BB:Ends}(Pv:Nat->St->Hp->Prop)(O:Pv 0 G H)(U:∀i G H,i<=xs.length->Pv i G H->SqT K H a xs)(hs:∀i x G H,xs[i]?=some x->Pv i G H->g x G H λB H2=>tb { BB with nx:=Pv (i+1),ct:=Pv (i+1),bk:=BB.nx } B H2)(Y:∀ G H,Pv xs.length G H->BB.nx G H):
  ∃W:Nat->Nat->St->Hp->Prop,(∃m,W 0 m G H)/\∀i m G H,W i m G H->
   ((Itt K a).stop i H/\BB.nx G H)\/((Itt K a).go i H/\∃N:St->Hp->Prop,(∀ F H',N F H'->∃J,J<m/\W (i+1) J F H')/\∀x H',(Itt K a).yld i H x H'->g x G H' λB H2=>tb { BB with nx:=N,ct:=N,bk:=BB.nx } B H2):=by
 show#[λi m G H=>m=xs.length-i/\i<=xs.length/\Pv i G H,#[xs.length,by simp,aQ _,O],?_];rintro i m G H ⟨rfl,hi,p⟩;have q:=U i G H hi p;by_cases I:i<xs.length;show .inr #[#[xs,xs[i],q,by simp[I]],Pv (i+1),λF H' p'=>#[xs.length-(i+1),by lia,A5,I,p'],λx H' y=>?_];obtain⟨e,y⟩:=y;subst e;show hs i x G _ (y xs q) p;have e:i=xs.length:=by lia
 subst e;show .inl #[#[xs,q,ak _],Y G H p]
abbrev R2:=V->V->Hp->VK->Prop
def OpR (X:Cx)(f:Value->Value->Sem Value)(r:R2):Prop:=
 ∀A6 s G H x y v u Q,Inv X A6 G H s->ye x v->ye y u->r x y H Q->
  Af X (f v u) (EP X A6 G Q) X.xe s
def UnR (X:Cx)(f:Value->Sem Value)(r:V->Hp->VK->Prop):Prop:=
 ∀A6 s G H x v Q,Inv X A6 G H s->ye x v->r x H Q->
  Af X (f v) (EP X A6 G Q) X.xe s
def Ck (X:Cx)(f:Value)(r:AT->Hp->VK->Prop):Prop:=
 ∀A6 s G H xs us Q,Inv X A6 G H s->yf xs us->r xs H Q->
  Af X (call f us) (EP X A6 G Q) X.xe s
def tOp (r:R2)(ta tb:TE):TE:=λG H Q=>ta G H λx H1=>tb G H1 λy H2=>r x y H2 Q
def tUn (r:V->Hp->VK->Prop)(ta:TE):TE:=λG H Q=>ta G H λx H1=>r x H1 Q
def rI (C:Int->Int->Prop)(g:Int->Int->V):R2:=λx y H Q=>∃i j,x = .int i/\y = .int j/\C i j/\Q (g i j) H
def rI0 (g:Int->Int->V):R2:=λx y H Q=>∃i j,x = .int i/\y = .int j/\Q (g i j) H
def rU (g:Int->V):V->Hp->VK->Prop:=λx H Q=>∃i,x = .int i/\Q (g i) H
section
variable{a b:Expr}{ta tb:TE}{pos:Pos}
def Ga(O:PE X a ta)(U:PE X b tb){R:V->V->Hp->Prop}(I:'&')(h:ta G H λx H1=>tb G H1 λy H2=>R x y H2){Q:AA}{f:Value->Value->Sem Value}(hf:∀v u J x y H2,Inv X A6 G H2 J->ye x v->ye y u->R x y H2->Af X (f v u) Q X.xe J):
  Af X (eval a X.env) (λv B=>Af X (eval b X.env) (λu F=>Af X (f v u) Q X.xe F) X.xe B) X.xe s:=by
 show thn (O A6 s G H _ I h) ?_;rintro v s1 ⟨x,H1,I1,Y,q1⟩;show thn (U A6 s1 G H1 _ I1 q1) ?_;rintro u J ⟨y,H2,I2,r2,q2⟩;show hf v u J x y H2 I2 Y r2 q2
def Pw(B:OpR X (binaryOp op) r)(F:PE X a ta)(J:PE X b tb):PE X (.BinOp a op b pos) (tOp r ta tb):=by intro A6 s G H Q I h;show wpAny_BinOp (Ga F J I h λv u O x y H2 I2 U Y q=>B A6 O G H2 x y v u Q I2 U Y q)
def JM(B:UnR X (unaryOp op) r)(F:PE X a ta):PE X (.UnaryOp op a pos) (tUn r ta):=by intro A6 s G H Q I h;show UnaryOp_ (thn (F A6 s G H _ I h)<|by rintro v s1 ⟨x,H1,I1,J,O⟩;show B A6 s1 G H1 x v Q I1 J O)
def opI{C:Int->Int->Prop}{g:Int->Int->Int}(B:∀i j t u s Q E,C i j->Q (.int (g i j) s.toks) { s with toks:=s.toks+1 }->Af X (f (.int i t) (.int j u)) Q E s):
  OpR X f (rI C λi j=>.int (g i j)):=by
 intro A6 s G H x y v u Q I F J h;obtain⟨i,j,rfl,rfl,O,q⟩:=h;obtain⟨t,rfl⟩:=F;obtain⟨t',rfl⟩:=J;show B i j t t' s _ _ O #[.int (g i j),H,I.tok _,#[_,A5],q]
def opI0{g:Int->Int->Int}(B:∀i j t u s Q E,Q (.int (g i j) s.toks) { s with toks:=s.toks+1 }->Af X (f (.int i t) (.int j u)) Q E s):
  OpR X f (rI0 λi j=>.int (g i j)):=by
 intro A6 s G H x y v u Q I F J h;obtain⟨i,j,rfl,rfl,q⟩:=h;obtain⟨t,rfl⟩:=F;obtain⟨t',rfl⟩:=J;show B i j t t' s _ _ #[.int (g i j),H,I.tok _,#[_,A5],q]
def Ew{g:Int->Int->Bool}(B:∀i j t u s Q E,Q (.bool (g i j)) s->Af X (f (.int i t) (.int j u)) Q E s):
  OpR X f (rI0 λi j=>.bl (g i j)):=by
 intro A6 s G H x y v u Q I F J h;obtain⟨i,j,rfl,rfl,q⟩:=h;obtain⟨t,rfl⟩:=F;obtain⟨t',rfl⟩:=J;show B i j t t' s _ _ #[.bl (g i j),H,I,A5,q]
def CDiv (i j:Int):Prop:=0<j/\j<1073741824
def CPow (i j:Int):Prop:=0<=j/\j<=1000000/\i.natAbs<2 ^ 64
def Cl (i j:Int):Prop:=(-(2 ^ 64)<i/\i<2 ^ 64)\/(-(2 ^ 64)<j/\j<2 ^ 64)
def Cl.ok{i j:Int}(h:Cl i j):IntMulOk i j:=by
 rcases h with ⟨h1,h2⟩ | ⟨h1,h2⟩;show .of_left (intBits_le_64 h1 h2);show .of_right (intBits_le_64 h1 h2)
def Px:OpR X (binaryOp .Add) (rI0 λi j=>.int (i+j)):=opI0 λ_ _ _ _ _ _ _ q=>add_int q
def Py:OpR X (binaryOp .Sub) (rI0 λi j=>.int (i-j)):=opI0 λ_ _ _ _ _ _ _ q=>sub_int q
def Pz:OpR X (binaryOp .Mult) (rI Cl λi j=>.int (i*j)):=opI λ_ _ _ _ _ _ _ B q=>mul_int q B.ok
def PB:OpR X (binaryOp .FloorDiv) (rI CDiv λi j=>.int (i / j)):=opI λi j _ _ _ _ _ B q=>by have h1:(0:Int)<j:=B.1;have h2:j<1073741824:=B.2;show floordiv_int '!' (by rw[Int.fdiv_eq_ediv_of_nonneg i '!'];show q) (.inl (PyProof.noPylong_small '!'))
def PD:OpR X (binaryOp .Mod) (rI (λ_ j=>0<j) λi j=>.int (i % j)):=opI λi j _ _ _ _ _ B q=>by have h1:(0:Int)<j:=B;show mod_int' '!' (by rw[Int.fmod_eq_emod_of_nonneg i '!'];show q)
def PF:OpR X (binaryOp .Pow) (rI CPow λi j=>.int (i ^ j.toNat)):=opI λ_ _ _ _ _ _ _ B q=>pow_int_small B.1 B.2.1 B.2.2 q
def unI{g:Int->Int}(B:∀i t s Q E,Q (.int (g i) s.toks) { s with toks:=s.toks+1 }->Af X (f (.int i t)) Q E s):
  UnR X f (rU λi=>.int (g i)):=by
 intro A6 s G H x v Q I F h;obtain⟨i,rfl,q⟩:=h;obtain⟨t,rfl⟩:=F;show B i t s _ _ #[.int (g i),H,I.tok _,#[_,A5],q]
def JN:UnR X (unaryOp .USub) (rU λi=>.int (-i)):=unI λ_ _ _ _ _ q=>neg_int q
end
def Gb:V->V->Bool
 | .non,.non=>true | .non,.int _=>true | .int _,.non=>true | .non,.bl _=>true | .bl _,.non=>true | .non,.str _=>true | .str _,.non=>true
 | .int _,.int _=>true | .bl _,.bl _=>true | .str _,.str _=>true | .byt _,.byt _=>true
 | .int _,.str _=>true | .str _,.int _=>true | .bl _,.str _=>true | .str _,.bl _=>true
 | _,_=>false
def rEq:R2:=λx y H Q=>Gb x y=true/\Q (.bl (decide (x=y))) H
def rNe:R2:=λx y H Q=>Gb x y=true/\Q (.bl (!decide (x=y))) H
def JP{i j:Int}:decide (V.int i=V.int j)=(i==j):=by rw[bS];simp
def JQ{j:_}:decide (V.bl i=V.bl j)=(i==j):=by rw[bS];simp
def JR{j:_}:decide (V.str i=V.str j)=(i==j):=by rw[bS];simp
def JU{j:_}:decide (V.byt i=V.byt j)=(i.toList==j.toList):=by
 rw[bS];right
section
variable{a b:Expr}{ta tb tc:TE}{pos:Pos}
def zR{Q:VK}(I:'&')(q:Q (.bl k) H)(e:k=B):EP X A6 G Q (.bool B) s:=by subst e;show#[.bl k,H,I,A5,q]
def PH:OpR X (compareOp .Eq) rEq:=by
 intro A6 s G H x y v u Q I F B h;obtain⟨hs,q⟩:=h
 cases x with
 | non=>
  cases F
  cases y with
  | non=>cases B;show PySem.EqNone.eq_none_none (zR I q '$')
  | bl j=>cases B;show PySem.EqNone.eq_none_bool (zR I q '$')
  | int j=>obtain⟨t',rfl⟩:=B;show PySem.EqNone.eq_none_int (zR I q '$')
  | str j=>obtain⟨t',rfl⟩:=B;show PySem.EqNone.eq_none_str (zR I q '$')
  | _=>show absurd (show false=true from hs) aB
 | bl i=>
  cases F
  cases y with
  | non=>cases B;show PySem.EqNone.eq_bool_none (zR I q '$')
  | bl j=>cases B;show eq_bool (zR I q JQ)
  | str j=>obtain⟨t',rfl⟩:=B;show PySem.EqMixed.eq_bool_str (zR I q '$')
  | _=>show absurd (show false=true from hs) aB
 | int i=>
  obtain⟨t,rfl⟩:=F
  cases y with
  | non=>cases B;show PySem.EqNone.eq_int_none (zR I q '$')
  | int j=>obtain⟨t',rfl⟩:=B;show eq_int (zR I q JP)
  | str j=>obtain⟨t',rfl⟩:=B;show PySem.EqMixed.eq_int_str (zR I q '$')
  | _=>show absurd (show false=true from hs) aB
 | str i=>
  obtain⟨t,rfl⟩:=F
  cases y with
  | non=>cases B;show PySem.EqNone.eq_str_none (zR I q '$')
  | bl j=>cases B;show PySem.EqMixed.eq_str_bool (zR I q '$')
  | int j=>obtain⟨t',rfl⟩:=B;show PySem.EqMixed.eq_str_int (zR I q '$')
  | str j=>obtain⟨t',rfl⟩:=B;show eq_str (zR I q JR)
  | _=>show absurd (show false=true from hs) aB
 | byt i=>
  obtain⟨t,rfl⟩:=F
  cases y with
  | byt j=>obtain⟨t',rfl⟩:=B;show PySem.W.eq_bytes (zR I q JU)
  | _=>show absurd (show false=true from hs) aB
 | _=>cases y <;> show absurd (show false=true from hs) aB
def PJ:OpR X (compareOp .NotEq) rNe:=by
 intro A6 s G H x y v u Q I F B h;obtain⟨hs,q⟩:=h
 cases x with
 | non=>
  cases F
  cases y with
  | non=>cases B;show PySem.EqNone.ne_none_none (zR I q '$')
  | bl j=>cases B;show PySem.EqNone.ne_none_bool (zR I q '$')
  | int j=>obtain⟨t',rfl⟩:=B;show PySem.EqNone.ne_none_int (zR I q '$')
  | str j=>obtain⟨t',rfl⟩:=B;show PySem.EqNone.ne_none_str (zR I q '$')
  | _=>show absurd (show false=true from hs) aB
 | bl i=>
  cases F
  cases y with
  | non=>cases B;show PySem.EqNone.ne_bool_none (zR I q '$')
  | bl j=>cases B;show ne_bool (zR I q (congrArg not JQ))
  | str j=>obtain⟨t',rfl⟩:=B;show PySem.EqMixed.ne_bool_str (zR I q '$')
  | _=>show absurd (show false=true from hs) aB
 | int i=>
  obtain⟨t,rfl⟩:=F
  cases y with
  | non=>cases B;show PySem.EqNone.ne_int_none (zR I q '$')
  | int j=>obtain⟨t',rfl⟩:=B;show ne_int (zR I q (congrArg not JP))
  | str j=>obtain⟨t',rfl⟩:=B;show PySem.EqMixed.ne_int_str (zR I q '$')
  | _=>show absurd (show false=true from hs) aB
 | str i=>
  obtain⟨t,rfl⟩:=F
  cases y with
  | non=>cases B;show PySem.EqNone.ne_str_none (zR I q '$')
  | bl j=>cases B;show PySem.EqMixed.ne_str_bool (zR I q '$')
  | int j=>obtain⟨t',rfl⟩:=B;show PySem.EqMixed.ne_str_int (zR I q '$')
  | str j=>obtain⟨t',rfl⟩:=B;show ne_str (zR I q (congrArg not JR))
  | _=>show absurd (show false=true from hs) aB
 | byt i=>
  obtain⟨t,rfl⟩:=F
  cases y with
  | byt j=>obtain⟨t',rfl⟩:=B;show PySem.W.ne_bytes (zR I q (congrArg not JU))
  | _=>show absurd (show false=true from hs) aB
 | _=>cases y <;> show absurd (show false=true from hs) aB
def PK:OpR X (compareOp .Lt) (rI0 λi j=>.bl (decide (i<j))):=Ew λ_ _ _ _ _ _ _ q=>lt_int q
def PL:OpR X (compareOp .LtE) (rI0 λi j=>.bl (decide (i<=j))):=Ew λ_ _ _ _ _ _ _ q=>le_int q
def PM:OpR X (compareOp .Gt) (rI0 λi j=>.bl (decide (j<i))):=Ew λ_ _ _ _ _ _ _ q=>gt_int q
def PP:OpR X (compareOp .GtE) (rI0 λi j=>.bl (decide (j<=i))):=Ew λ_ _ _ _ _ _ _ q=>ge_int q
def zI(b:Expr)(h:op≠.In:=by ext)(h2:op≠.NotIn:=by ext):behindInMarks op b=false:=by
 have B:(op==CmpOp.In)=false:=by cases op <;> first | rfl | show absurd A5 h
 have F:(op==CmpOp.NotIn)=false:=by cases op <;> first | rfl | show absurd A5 h2
 cases b <;> simp[behindInMarks,B,F]
def PQ(B:OpR X (compareOp op) r)(F:PE X a ta)(J:PE X b tb)(O:behindInMarks op b=false):PE X (.Compare a [op] [b] pos) (tOp r ta tb):=by intro A6 s G H Q I h;show wpAny_Compare1 (Ga F J I h λv u U x y H2 I2 Y ry q=>B A6 U G H2 x y v u Q I2 Y ry q) O
def Gc (t:TE):TT:=λG H Q=>t G H λx H'=>∃k,x = .bl k/\Q k H'
def PR(B:OpR X (compareOp op) r)(F:PE X a ta)(J:PE X b tb)(O:behindInMarks op b=false):PT X (.Compare a [op] [b] pos) (Gc (tOp r ta tb)):=by
 intro A6 s G H Q I h
 show wpAny_isTrue_Compare1 (thn (F A6 s G H _ I h) λv s1 ⟨x,H1,I1,U,Y⟩=>thn (J A6 s1 G H1 _ I1 Y) λu s2 ⟨y,H2,I2,r2,q2⟩=>
  thn (B A6 s2 G H2 x y v u _ I2 U r2 q2) λc s3 ⟨z,H3,I3,r3,k,e,q3⟩=>?_) O
 subst e;cases r3;show cU #[H3,I3,q3]
def Gd (r B:R2)(ta tb tc:TE):TE:=λG H Q=>ta G H λx H1=>tb G H1 λy H2=>r x y H2 λz H3=>∃k,z = .bl k/\
 (if k=true then tc G H3 λw' H4=>B y w' H4 Q else Q (.bl false) H3)
def PU(Y:OpR X (compareOp op) r)(F:OpR X (compareOp B) J)(ha:PE X a ta)(hb:PE X b tb)(hc:PE X c tc)(hm:lastMarks [op,B] [b,c]=false:=by with_unfolding_all rfl):PE X (.Compare a [op,B] [b,c] pos) (Gd r J ta tb tc):=by
 intro A6 s G H Q I h
 show Compare_chain (thn (ha A6 s G H _ I h) λv s1 ⟨x,H1,I1,r1,q1⟩=>chain_link (thn (hb A6 s1 G H1 _ I1 q1) λu s2 ⟨y,H2,I2,O,q2⟩=>
  thn (Y A6 s2 G H2 x y v u _ I2 r1 O q2) λd s3 ⟨z,H3,I3,r3,k,e,U⟩=>?_)) hm
 subst e;cases r3;show cU ?_
 cases k with
 | false=>show ite_ff #[.bl false,H3,I3,A5,U]
 | true=>show ite_tt (chain_last (thn (hc A6 s3 G H3 _ I3 U)<|by rintro w' s4 ⟨z',H4,I4,r4,q4⟩;show F A6 s4 G H4 y z' u w' Q I4 O r4 q4))
def Ge:(sizeLine:Nat)<2 ^ 63:=by rw[cy];decide
def B9(r:yf [x] us):∃u,us=[u]/\ye x u:=by
 cases r with
 | cons B F=>cases F;show#[_,A5,B]
def DA(r:yf [x,y] us):∃u w',us=[u,w']/\ye x u/\ye y w':=by
 cases r with
 | cons B F=>
  cases F with
  | cons I J=>cases J;show#[_,_,A5,B,I]
def PV:Ck X (.builtin "abs") (λxs H Q=>∃i,xs=[.int i]/\Q (.int (if i<0 then -i else i)) H):=by intro A6 s G H xs us Q I r h;obtain⟨i,rfl,q⟩:=h;obtain⟨u,rfl,t,rfl⟩:=B9 r;show call_abs_int λu tk=>#[.int (if i<0 then -i else i),H,I.tok _,#[_,A5],q]
def Ex (K:AH)(x:V)(H:Hp)(n:Nat):Prop:=
 match x with
 | .str y=>y.length<=sizeLine/\n=y.length
 | .byt y=>y.size<=sizeLine/\n=y.size
 | .ref p=>(∃xs,SqL K H p xs/\n=xs.length)\/∃xs,SqT K H p xs/\n=xs.length
 | _=>False
def PX:Ck X (.builtin "len") (λxs H Q=>∃x n,xs=[x]/\Ex X.K x H n/\Q (.int n) H):=by
 intro A6 s G H xs us Q I r h;obtain⟨x,n,rfl,e,q⟩:=h;obtain⟨u,rfl,rx⟩:=B9 r;have hs:sizeLine=16777216:=cy
 cases x with
 | str y=>
  obtain⟨t,rfl⟩:=rx;obtain⟨hy,e'⟩:y.length<=sizeLine/\n=y.length:=e;subst e';show len_str '!' #[.int _,H,I.tok _,#[_,A5],q]
 | byt y=>
  obtain⟨t,rfl⟩:=rx;obtain⟨hy,e'⟩:y.size<=sizeLine/\n=y.size:=e;subst e';show PySem.W.len_bytes '!' #[.int _,H,I.tok _,#[_,A5],q]
 | ref p=>
  cases rx;have e':(∃xs,SqL X.K H p xs/\n=xs.length)\/∃xs,SqT X.K H p xs/\n=xs.length:=e;rcases e' with ⟨xs,hx,e'⟩ | ⟨xs,hx,e'⟩;subst e';obtain⟨its,r',pl,hz⟩:=I.list hx;have hlen:=r'.length;show Calls.call_len_list pl.isList (by simp only[aU];lia) #[.int xs.length,H,I.tok _,#[_,by simp only[aU];rw[hlen]],q];subst e';obtain⟨its,r',pl,hz⟩:=I.tuple hx;have hlen:=r'.length;show len_tuple pl (by simp only[aU];lia) #[.int xs.length,H,I.tok _,#[_,by simp only[aU];rw[hlen]],q]
 | _=>show (show False from e).elim
end
structure ObjM (h:Heap)(x dx C:Addr)(mA:AI):Prop where
 obj:h.get? x=some (PySem.W.instObj C dx)
 ns:h.Ns1 dx mA
 ne:dx≠x
def PY{h:Heap}(n:h.Ns1 dx mA):∃F,h.get? dx=some F/\∀name,PySem.W.lookIn name F=some (mA name):=by
 obtain⟨o,es,ep,I,J,O,_,U⟩:=n;show#[o,I,λname=>?_];have e:=U name;unfold nsFind findBy at e;rw[<- Array.find?_toList] at e;unfold PySem.W.lookIn;rw[J];dsimp only;split;right
 ·rename_i q;rw[q] at e
  have a:es.toList.any (·.refKey)=false:=by rw[List.any_eq_false];intro y Y;obtain⟨z,t,B⟩:=O y (bZ.mp Y);simp[DictEntry.refKey,B]
  grind
def ObjM.look(I:ObjM h x dx C mA):∃B,PySem.W.InstAt h x (PySem.W.instObj C dx) C (some B)/\∀name,PySem.W.lookIn name B=some (mA name):=
 let ⟨B,ho,hl⟩:=PY I.ns
 #[B,#[I.obj,A5,A5,ho],hl]
def BI.some_of(r:BI (some v) o):∃u,o=some u/\ye v u:=by
 cases o with
 | none=>show (show False from r).elim
 | some u=>show#[u,A5,r]
section
variable{P:Aa}{h:Heap}{a:Addr}{fs:List (Str×V)}
def PZ (B:HOk P w H h)(e:H a=some (.ins C dx fs)):∃mA,ObjM h a dx C mA/\(∀f,BI (fs.lookup f) (mA f))/\PySem.Within mA (fs.map (·.1))/\fs.length<=1000/\H dx=some (.own a):=by obtain⟨d,z,F,ob,mA,n,r,q⟩:=(show zJ P w H h a (.ins C dx fs) from B a _ e);show#[mA,#[ob,n,F],r,q,z,d]
end
structure Cls (K:AH)(C:Addr):Prop where
 pg:PySem.W.plainGet K C Str.empty=true
 hd:PySem.W.hasDictIn K C=true
 po:PySem.W.plainOver K C=true
 sa:PySem.W.findIn K (.ref C) "__setattr__" = some (some (.builtin "object.__setattr__"))
def Cls.get (c:Cls K C)(f:Str):PySem.W.plainGet K C f=true:=c.pg
section
variable{a:Addr}{fs:List (Str×V)}{A:Ae}
variable{o:Expr}
variable{Q:AA}{c:Value}{b:Bool}
inductive TyOf (K:AH) (H:Hp):V->Value->Prop where
 | non:TyOf K H .non (.type "NoneType")
 | bl (x:Bool):TyOf K H (.bl x) (.type "bool")
 | int (i:Int):TyOf K H (.int i) (.type "int")
 | str (x:Str):TyOf K H (.str x) (.type "str")
 | flt (x:UInt64):TyOf K H (.flt x) (.type "float")
 | lst {a:Addr} {xs:AT} (e:H a=some (.lst xs)):TyOf K H (.ref a) (.type "list")
 | frz {a:Addr} {o:Obj} {xs:AT} (e:H a=some (.frz o (.lst xs))):TyOf K H (.ref a) (.type "list")
 | tup {a:Addr} {xs:AT} (e:H a=some (.tup xs)):TyOf K H (.ref a) (.type "tuple")
 | dK {a:Addr} {A7:List (Key×V)} (e:H a=some (.dK A7)):TyOf K H (.ref a) (.type "dict")
 | dT {a:Addr} {A7:List (List Key×V)} (e:H a=some (.dT A7)):TyOf K H (.ref a) (.type "dict")
 | ins {a C dx:Addr} {fs:List (Str×V)} (e:H a=some (.ins C dx fs)) (cl:Cls K C) (ha:PySem.W.findIn K (.ref C) "__class__" = some (some (.builtin "object.__class__")))
   (hn:PySem.W.specialIn K (.builtin "object.__class__") "__get__" = some (some (.builtin "getset_descriptor.__get__"))) (htk:PySem.W.takesIn K (.builtin "object.__class__")=some true)
   (hm:PySem.W.mroIn K C (.type "object")=some true):TyOf K H (.ref a) (.ref C)
def P0(I:'&')(B:ye x u)(ty:TyOf X.K H x t)(e:PySem.W.kitOne X.K t c=some b)(h:∀tk,Q (.bool b) { s with toks:=tk }):
  wpAny '5' A (call (.builtin "isinstance") [u,c]) Q E s:=by
 cases ty with
 | non=>cases (show u=Value.none from B);show bT PySem.W.kitx_none I.kIn True.intro e (λz=>nomatch z) h
 | bl y=>cases (show u=Value.bool y from B);show bT PySem.W.kitx_bool I.kIn True.intro e (λz=>nomatch z) h
 | int i=>obtain⟨t,q⟩:=(show ∃t,u=Value.int i t from B);cases q;show bT PySem.W.kitx_int I.kIn True.intro e (λz=>nomatch z) h
 | str y=>obtain⟨t,q⟩:=(show ∃t,u=Value.str y t from B);cases q;show bT PySem.W.kitx_str I.kIn True.intro e (λz=>nomatch z) h
 | flt y=>obtain⟨t,q⟩:=(show ∃t,u=Value.float y t from B);cases q;show bT PySem.W.kitx_float I.kIn True.intro e (λz=>nomatch z) h
 | @lst a xs F=>
  cases (show u=Value.ref a from B);obtain⟨_,_,n,_,h1⟩:=(show zJ X.prog X.w H s.heap a '+' from I.hok a _ F);show bT fF I.kIn #[_,h1,A5] e (λz=>nomatch z) h
 | @frz a ob xs F=>
  cases (show u=Value.ref a from B);obtain⟨_,_,_,n,_,h1⟩:=(show zJ X.prog X.w H s.heap a (.frz ob '+') from I.hok a _ F);show bT fF I.kIn #[_,h1,A5] e (λz=>nomatch z) h
 | @tup a xs F=>
  cases (show u=Value.ref a from B);obtain⟨_,_,_,p⟩:=(show zJ X.prog X.w H s.heap a (.tup xs) from I.hok a _ F);obtain⟨o,h1,h2,_⟩:=p;show bT PySem.W.kitx_tuple I.kIn #[o,h1,h2] e (λz=>nomatch z) h
 | @dK a A7 F=>
  cases (show u=Value.ref a from B);obtain⟨_,_,vs,_,p⟩:=(show zJ X.prog X.w H s.heap a (.dK A7) from I.hok a _ F);obtain⟨o,es,ep,h1,h2,_⟩:=p;show bT fG I.kIn #[o,h1,h2.1] e (λz=>nomatch z) h
 | @dT a A7 F=>
  cases (show u=Value.ref a from B);obtain⟨_,_,xs,_,o,es,ep,h1,h2,_⟩:=(show zJ X.prog X.w H s.heap a (.dT A7) from I.hok a _ F);show bT fG I.kIn #[o,h1,h2.1] e (λz=>nomatch z) h
 | @ins a C dx fs F cl Y hn U hm=>
  cases (show u=Value.ref a from B);obtain⟨mA,O,_⟩:=PZ I.hok F;obtain⟨od,J,_⟩:=O.look;show bT (PySem.W.kitx_own (cl.get _) cl.hd Y hn U hm) I.kIn J e (λz=>nomatch z) h
end
structure Room (k:Nat)(A:Ae):Prop where
 hd:A.handled=none
 dp:A.depth+3 * k+5<recursionLimit
 un:A.units+16 * k+200<cLine
 gd:A.guards=some []:=by rfl
def Room.mono{k:Nat}{A:Ae}(r:Room k A)(h:j<=k):Room j A:=#[r.hd,by have:=r.dp;lia,by have:=r.un;lia,r.gd]
def Room.deeper(r:Room (k+1) A)(env:Env):Room k (A.deeper env):=
 #[r.hd,by have:=r.dp;change A.depth+1+3*k+5<_;lia,by have:=r.un;change A.units+3+16*k+200<_;lia,r.gd]
def Room.depth(r:Room k A):A.depth<recursionLimit:=by have:=r.dp;lia
def Room.units(r:Room k A):A.units+64<cLine:=by have:=r.un;lia
def Cy:TA:=λ_ H Q=>Q [] H
def Cm (ta:TE)(B:TA):TA:=λG H Q=>ta G H λx H1=>B G H1 λxs H2=>Q (x::xs) H2
section
variable{t:TA}{pos:Pos}
def P3:PA X [] Cy:=λ_ _ _ _ H Q I h=>fH #[[],H,I,.nil,h]
def P4 (B:PE X e te)(F:PA X es t)(hs:gy e es X:=by rfl):PA X (e::es) (Cm te t):=by intro pos A6 s G H Q I h;rw[hs];show gL (thn (B A6 s G H _ I h) ?_);rintro u s1 ⟨x,H1,I1,J,O⟩;show thn (F pos A6 s1 G H1 _ I1 O)<|by rintro us s2 ⟨xs,H2,I2,U,Y⟩;show#[x::xs,H2,I2,.cons J U,Y]
def tTup (t:TA):TE:=λG H Q=>t G H λxs H1=>xs.length<=sizeLine/\∀p,H1 p=none->Q (.ref p) (upd H1 p (.tup xs))
def P5{x1}(h:PA X es t):PE X (.Tuple es x1 pos) (tTup t):=by intro A6 s G H Q I B;show wpAny_Tuple_spliced (thn (h pos A6 s G H _ I B) λus s1 ⟨xs,H1,I1,r,z,q⟩=>#[by rw[<- r.length];show z,?_]);have hf:H1 s1.heap.objs.size=none:=I1.hok.fresh (ak _);show#[.ref s1.heap.objs.size,upd H1 s1.heap.objs.size (.tup xs),I1.laid (t':=s1.toks) (λb u e=>ah _ e) (ak _) ?_,A5,q _ hf];show#[z,us,r,#[_,ar _ A5,A5,#[_,A5],A5]]
end
abbrev Sp:=AT->Hp->VK->XK->Prop
abbrev CXT:=List Env->Hp->AZ->XK->AA
structure Env0 (P:Aa)(w:Ab)(K:AH)(mg:AI)(base:Heap)(A:Ae)(outer:List Env)(s:AZ)(H:Hp):Prop where
 frames:A.frames=some outer
 mod:Mod K mg base
 bs:∀b o,base.get? b=some o->s.heap.get? b=some o/\H b=none
 bsz:base.objs.size<=s.heap.objs.size
 funs:s.heap.FunFrames base outer
 frf:∀b∈frs outer,H b=none
 hok:HOk P w H s.heap
 bare:AllBare s.gens
def CE (outer:List Env)(P:Aa)(w:Ab)(H:Hp)(s:AZ)(Q:VK)(u:Value)(s':AZ):Prop:=
 ∃v H',s'.os=s.os/\AllBare s'.gens/\Un (frs outer) [] H H' s.heap s'.heap/\HOk P w H' s'.heap/\ye v u/\Q v H'
def CR (CX:CXT)(outer:List Env)(P:Aa)(w:Ab)(H:Hp)(s:AZ)(Q:VK)(E:XK)(r:Result)(s':AZ):Prop:=
 match r with
 | .ok (.ret u)=>CE outer P w H s Q u s'
 | .ok _=>False
 | .error e=>CX outer H s E e s'
structure FnOk (P:Aa)(w:Ab)(K:AH)(mg:AI)(base:Heap)(CX:CXT)(k:Nat)(f:Addr)(fd:Ac)(ps:AM)(sp:Sp):Prop where
 len:∀vs H Q E,sp vs H Q E->vs.length=ps.length
 run:∀ (A:Ae) (outer:List Env) (s:AZ) (H:Hp) (args:Args) (us:AN) (vs:AT) (Q:VK) (E:XK),Room k A->Env0 P w K mg base A outer s H->BindsTo s fd args (ps.zip us)->yf vs us->sp vs H Q E->
  codeAny (model P w) A (.call (.ref f) args) (CR CX outer P w H s Q E) s
def FnOk.mono{P:Aa}{mg:AI}{CX:CXT}{f:Addr}(F:FnOk P w K mg base CX j f fd ps sp)(h:j<=k):
  FnOk P w K mg base CX k f fd ps sp:=#[F.len,λA outer s H args us vs Q E B=>F.run A outer s H args us vs Q E (B.mono h)]
variable{CX:CXT}{sp:Sp}
def FnOk.imp{P:Aa}{mg:AI}{f:Addr}{B:Sp}(F:FnOk P w K mg base CX k f fd ps sp)(h:∀vs H Q E,B vs H Q E->sp vs H Q E):FnOk P w K mg base CX k f fd ps B:=
 #[λvs H Q E q=>F.len vs H Q E (h _ _ _ _ q),λA outer s H args us vs Q E I J O U hs=>F.run A outer s H args us vs Q E I J O U (h _ _ _ _ hs)]
section
variable{s':AZ}
def Inv.env0 (I:'&'):Env0 X.prog X.w X.K X.mg X.base X.A X.stack s H:=
 #[I.ok.frames,I.ok.mod,I.bs,av I.ok.bsz I.sz,I.stack,I.stkFree,I.hok,I.bare]
def Inv.after(I:'&')(h:CE X.stack X.prog X.w H s Q u s'):EP X A6 G Q u s':=by obtain⟨v,H',O,B,U,F,r,q⟩:=h;obtain⟨Y,g,d,t,J⟩:=s';obtain rfl:J=s.os:=O;show#[v,H',I.call (h':=Y) (g':=g) (d':=d) (t':=t) (ch:=[]) U F B (λb z=>absurd z '$'),r,q]
end
def Cz (sp:Sp)(dvs:AT)(E:XK)(t:TA):TE:=λG H Q=>t G H λvs H1=>sp (vs++dvs) H1 Q E
def BY (K:AH)(fd:Ac)(ps:AM)(ds:AN):Prop:=
 ∀s us,K.In s.heap->(us++ds).length=ps.length->BindsTo s fd #[us,[]] (ps.zip (us++ds))
def BY.all (h:∀us:AN,us.length=ps.length->bindArgs fd #[us,[]]=pure (ps.zip us)):BY K fd ps []:=λs us _ B=>by rw[bU] at B ⊢;show .of_eq (h us B)
def Ey (CX:CXT)(X:Cx)(E:XK):Prop:=∀A6 G H s e s',Inv X A6 G H s->CX X.stack H s E e s'->X.xe e s'
section
variable{k:Nat}{f:Addr}{dvs:AT}{ds:AN}{E:XK}{x:Str}{pos:Pos}{t:TA}
def P6{Q:VK}{vs:AT}(F:FnOk X.prog X.w X.K X.mg X.base CX k f fd ps sp)(O:Room k X.A)(U:BY X.K fd ps ds)(Y:yf dvs ds)(hx:Ey CX X E)(I:'&')(r:yf vs us)(h:sp (vs++dvs) H Q E):Af X (call (.ref f) us) (EP X A6 G Q) X.xe s:=by
 have J:yf (vs++dvs) (us++ds):=r.append Y;have hl:(us++ds).length=ps.length:=by rw[<- J.length];show F.len _ _ _ _ h
 show wpAny_call (dS (F.run X.A X.stack s H #[us,[]] (us++ds) (vs++dvs) Q E O I.env0 (U s us I.kIn hl) J h) λr s' B=>?_)
 cases r with
 | error e=>show hx A6 G H s e s' I B
 | ok fl=>
  cases fl with
  | ret u=>show I.after B
  | next=>show False.elim B
  | brk=>show False.elim B
  | cont=>show False.elim B
def DB (F:FnOk X.prog X.w X.K X.mg X.base CX k f fd ps sp)(O:Room k X.A)(U:Gl X x)(Y:X.mg x=some (.ref f))(hk:PySem.W.keepIn X.K (.ref f)=true)(hb:BY X.K fd ps ds)(hd:yf dvs ds)(hx:Ey CX X E)(ha:PA X (e::es) t)(B:Ah x:=by ext)(he:gy e es X:=by rfl)(J:iI pos es X:=by rfl):
  PE X '<' (Cz sp dvs E t):=by
 intro A6 s G H Q I h;show dR (Er I U Y ?_ B);show PySem.W.callWith_K (h₀:=X.base) I.ok.mod.kin hk (thn (ha pos A6 s G H _ I h) λus s1 ⟨vs,H1,I1,r,q⟩=>#[I1.kIn,?_]) he J;show P6 F O hb hd hx I1 r q
end
structure FnScope (N P:AM)(sc:Scope):Prop where
 kind:sc.kind = .function
 co:sc.isCoroutine=false
 gen:sc.isGenerator=false
 nd:N.Nodup
 pre:N.take P.length=P
 par:∀x∈P,sc.names.lookup x=some .local\/sc.names.lookup x=some .cell
 nofree:∀y∈sc.names,y.2≠.free
theorem JV{F:Str->Option NameKind}{x:Str}:∀ {B:List (Str×Value)} {m:AI},(∀v,(x,v)∉B)->bindL F B m x=m x
 | [],_,_=>rfl
 | (n,v)::r,m,h=>by
  unfold bindL;rw[JV λw I=>h w (aj _ I)];split
  all_goals grind
theorem JY{F:Str->Option NameKind}{x:Str}:∀ {B:List (Str×Value)} {m:AI},(∀v,(x,v)∉B)->bindC F B m x=m x
 | [],_,_=>rfl
 | (n,v)::r,m,h=>by
  unfold bindC;rw[JY λw I=>h w (aj _ I)];split
  all_goals grind
theorem JZ{B:Str->Option NameKind}{x:Str}{v:Value}:∀ {P:AM} {vs:AN} {i:Nat} {m:AI},P.Nodup->P[i]?=some x->vs[i]?=some v->B x=some .local->
  bindL B (P.zip vs) m x=some v
 | [],_,_,_,_,h,_,_=>by simp at h
 | _::_,[],_,_,_,_,h,_=>by simp at h
 | p::P,w::vs,0,m,F,h1,h2,I=>by simp at h1 h2;subst h1;subst h2;change bindL B ((p,w)::P.zip vs) m p=_;unfold bindL;rw[JV λv J=>(dG.mp F).1 (gr J).1,if_pos I];simp
 | p::P,w::vs,i+1,m,F,h1,h2,I=>by change bindL B ((p,w)::P.zip vs) m x=_;unfold bindL;show JZ (i:=i) (dG.mp F).2 (by simpa using h1) (by simpa using h2) I
theorem J1{B:Str->Option NameKind}{x:Str}{v:Value}:∀ {P:AM} {vs:AN} {i:Nat} {m:AI},P.Nodup->P[i]?=some x->vs[i]?=some v->B x≠some .local->
  bindC B (P.zip vs) m x=some v
 | [],_,_,_,_,h,_,_=>by simp at h
 | _::_,[],_,_,_,_,h,_=>by simp at h
 | p::P,w::vs,0,m,F,h1,h2,I=>by simp at h1 h2;subst h1;subst h2;change bindC B ((p,w)::P.zip vs) m p=_;unfold bindC;rw[JY λv J=>(dG.mp F).1 (gr J).1,if_neg I];simp
 | p::P,w::vs,i+1,m,F,h1,h2,I=>by change bindC B ((p,w)::P.zip vs) m x=_;unfold bindC;show J1 (i:=i) (dG.mp F).2 (by simpa using h1) (by simpa using h2) I
def yS (N:AM)(vs:AT):St:=vs.map some++List.replicate (N.length-vs.length) none
def Bf (CX:CXT)(P:Aa)(w:Ab)(K:AH)(mg:AI)(base:Heap)(N:AM)(qual:Str)(scope:Scope)(f:Addr)(F:Value)(A:Ae)(outer:List Env)(s:AZ)(H:Hp)(E:XK):Cx where
 prog:=P
 w:=w
 K:=K
 mg:=mg
 base:=base
 A:=A.deeper (envOfC qual scope s.heap.objs.size f F)
 N:=N
 s₀:=s
 H₀:=H
 env:=envOfC qual scope s.heap.objs.size f F
 outer:=outer
 stack:=envOfC qual scope s.heap.objs.size f F::outer
 ex:=[]
 calm:=true
 fn:=λ_=>true
 pn:=[]
 xe:=λe s'=>wpAny (model P w) (A.deeper (envOfC qual scope s.heap.objs.size f F)) (leaving (envOfC qual scope s.heap.objs.size f F) e) (λ_ B=>CX outer H s E e B) (λI B=>CX outer H s E I B) s'
def J4{B:Scope}(h:B.names.lookup x=some .cell):∃c,(cellsFrom n B.names []).lookup x=some c:=by have q:=fB B.names n [] (.inl h);show Option.isSome_iff_exists.mp q
def J5{P:Aa}{mg:AI}{f:Addr}{O:Value}{A:Ae}{outer:List Env}{s1:AZ}{E:XK}{vs:AT}(S:FnScope N ps scope)(hd:A.handled=none)(B:Env0 P w K mg base A outer s H)(hl:vs.length=ps.length)(r:yf vs us)(x:InCallC s s.heap.objs.size (bindL (envOfC qual scope s.heap.objs.size f O).kindOf (ps.zip us) λ_=>none) (cellsFrom (s.heap.objs.size+1) scope.names []) (bindC (envOfC qual scope s.heap.objs.size f O).kindOf (ps.zip us) λ_=>none) s1):
  Inv (Bf CX P w K mg base N qual scope f O A outer s H E) [] (yS N vs) H s1:=by
 have ab:ps.length<=N.length:=by have:=congrArg List.length S.pre;rw[bi] at this;lia
 obtain⟨h1,tk,rfl,U⟩:=x.done;have F:∀b:Addr,b∉(Bf CX P w K mg base N qual scope f O A outer s H E).ex:=λb z=>absurd (show b∈([]:AY) from z) '$'
 show#[#[B.mod,S.kind,A5,A5,ak _,λy z c h1 h2=>?_,λy I=>?_,λy c _ h=>?_,λ_=>hd,Around.frames_deeper B.frames,.inr #[A5,A5],λb z=>absurd z (F b),B.bs,B.bsz,λb _ _=>F b,λb z=>absurd z (F b),B.funs,B.frf],
  rfl,B.bare,Un.kept U,#[_,x.toInCall.ns,λi y v h1 h2 h3=>?_],λy c h=>#[_,x.cell y c h],B.hok.fresh (ak _),λy c h=>?_,λp hp=>absurd (show p∈([]:AB) from hp) '$',B.hok.kept U,?_]
 show name_of_addr x.apart (c7 h1) (c7 h2);have I:scope.names.lookup y=some .cell\/scope.names.lookup y=some .free:=I;rcases I with I | I;show J4 I;show absurd A5 (S.nofree _ (c7 I));show cS (x.above y c (c7 h))
 have hi:i<vs.length:=by
  unfold yS at h2;by_cases hi:i<vs.length;show hi;rw[bp (by simpa using hi)] at h2;rw[List.getElem?_replicate] at h2;right
 have ha:vs[i]?=some v:=by
  unfold yS at h2;rw[bE (by simpa using hi),aF] at h2;right
 obtain⟨u,Y,rv⟩:=r.get ha;have hp:ps[i]?=some y:=by rw[<- S.pre,cm '!'];show h1
 have J:ps.Nodup:=by rw[<- S.pre];show S.nd.sublist (cV _ _)
 show#[u,rv,?_];rcases S.par y (az hp) with k | k;show .inl #[k,JZ J hp Y k];obtain⟨c,e⟩:=J4 (n:=s.heap.objs.size+1) k;show .inr #[.inl k,c,e,?_];have q:=x.cell y c e;rw[J1 J hp Y (by change scope.names.lookup y≠_;rw[k];decide)] at q;show q;show B.hok.fresh (cS (x.above y c (c7 h)));unfold yS;change _=N.length;grind
def Ez{P:Aa}{mg:AI}{k:Nat}{f:Addr}{params:Arguments}{body:List Stmt}{dV kV Y pm B ct oc:Value}{an od:Option Addr}{ad:Array AJ}(lk:K.lookup f=some #[oc,od,.func (PySem.W.fnOf name qual params body scope dV kV Y pm an B ct),ad])(ag:PySem.W.codeIn K B qual=true)(S:FnScope N ps scope)(ab:∀vs H Q E,sp vs H Q E->vs.length=ps.length)(O:∀A outer s H vs Q E,Room k (A.deeper (envOfC qual scope s.heap.objs.size f B))->sp vs H Q E->
   ∃t,PSs (Bf CX P w K mg base N qual scope f B A outer s H E) body t/\t { nx:=λ_ H'=>Q .non H',rt:=Q } (yS N vs) H):
  FnOk P w K mg base CX (k+1) f (PySem.W.fnOf name qual params body scope dV kV Y pm an B ct) ps sp:=by
 show#[ab,λA outer s H args us vs Q E hr e0 hb r ac=>?_];have hl:=ab _ _ _ _ ac;have KX:K.In s.heap:=e0.mod.kin.keeps λb o e=>(e0.bs b o e).1;have lim:s.heap.NoLimit:=e0.mod.nolimit.keeps λb o e=>(e0.bs b o e).1
 have U:∀y∈ps.zip us,scope.names.lookup y.1=some .local\/(scope.names.lookup y.1=some .cell/\((cellsFrom (s.heap.objs.size+1) scope.names []).lookup y.1).isSome=true):=by
  rintro⟨n,v⟩ hy;rcases S.par n (gr hy).1 with q | q;show .inl q;show .inr #[q,fB _ _ _ (.inl q)]
 show codeAny_call_function hr.depth (KX _ _ lk) A5 S.co S.gen A5 (PySem.W.codeRec_of KX ag) (hb _ _ _ _ ?_);show wpAny_newFunctionEnv_cells S.kind U λenv he s1 x=>?_;subst he;show#[lim.keeps x.toInCall.keep,codeAny_func ?_];obtain⟨t,ht,hq⟩:=O A outer s H vs Q E (hr.deeper _) ac;have I:Inv (Bf CX P w K mg base N qual scope f B A outer s H E) [] (yS N vs) H s1:=J5 S hr.hd e0 hl r x;show aE (ht [] s1 (yS N vs) H _ I hq) (λfl s' hs=>?_) λe s' hs=>hs
 have fin:∀ {F:St} {H':Hp} {v:V} {u:Value},Inv (Bf CX P w K mg base N qual scope f B A outer s H E) [] F H' s'->ye v u->Q v H'->CE outer P w H s Q u s':=
  λ{F H' v u} J rv q=>#[v,H',J.os,J.bare,J.base,J.hok,rv,q]
 cases fl with
 | ret u=>
  obtain⟨v,F,H',J,rv,q⟩:=hs;show fin J rv q
 | next=>
  obtain⟨F,H',J,q⟩:=hs;show fin (v:=V.non) (u:=Value.none) J A5 q
 | brk=>
  obtain⟨_,_,_,q⟩:=hs;show False.elim q
 | cont=>
  obtain⟨_,_,_,q⟩:=hs;show False.elim q
section
variable{x:Str}{pos:Pos}{t:TA}{id T:String}{r:AT->Hp->VK->Prop}
def tCB (r:AT->Hp->VK->Prop)(t:TA):TE:=λG H Q=>t G H λvs H1=>r vs H1 Q
def P7 (J:Ck X (.builtin id) r)(O:Gl X x)(U:X.mg x=none)(Y:bootBuiltins x=some (.builtin id))(ha:PA X (e::es) t)(hn:x ≠ "__name__" := by ext)(B:Ah x:=by ext)(he:gy e es X:=by rfl)(F:iI pos es X:=by rfl):PE X '<' (tCB r t):=by
 intro A6 s G H Q I h;show dR (C4 I O U Y ?_ hn B);show PyProof.Rows.callWith_builtin1 (thn (ha pos A6 s G H _ I h)<|by rintro us s1 ⟨vs,H1,I1,r1,q1⟩;show J A6 s1 G H1 vs us Q I1 r1 q1) he F
def P8 (J:Ck X (.type T) r)(O:Gl X x)(U:X.mg x=none)(Y:bootBuiltins x=some (.type T))(ha:PA X (e::es) t)(hn:x ≠ "__name__" := by ext)(B:Ah x:=by ext)(he:gy e es X:=by rfl)(F:iI pos es X:=by rfl):PE X '<' (tCB r t):=by
 intro A6 s G H Q I h;show dR (C4 I O U Y ?_ hn B);show cZ (thn (ha pos A6 s G H _ I h)<|by rintro us s1 ⟨vs,H1,I1,r1,q1⟩;show J A6 s1 G H1 vs us Q I1 r1 q1) he F
end
section
variable [DecidableEq κ]
def Be (A7:List (κ×V))(k:κ):Option V:=(A7.find? λkv=>decide (kv.1=k)).map (·.2)
def u6 (A7:List (κ×V))(k:κ)(v:V):List (κ×V):=
 if (A7.any λkv=>decide (kv.1=k))=true then A7.map (λkv=>if kv.1=k then (kv.1,v) else kv) else A7++[(k,v)]
def xl{p:κ×V}(e:p.1=k):Be (p::r) k=some p.2:=by simp[Be,bV,e]
def xk{p:κ×V}{r:List (κ×V)}(e:¬ p.1=k):Be (p::r) k=Be r k:=by simp[Be,bV,e]
theorem J6 (k:κ):∀A7:List (κ×V),(A7.any λkv=>decide (kv.1=k))=(Be A7 k).isSome
 | []=>rfl
 | p::r=>by
  rw[dB];by_cases e:p.1=k;simp only[xl e,aD e,Bool.true_or,Option.isSome_some];rw[xk e,aJ e,Bool.false_or];show J6 k r
def xq (A7:List (κ×V))(k:κ)(v:V):(u6 A7 k v).length<=A7.length+1:=by
 unfold u6;split
 all_goals right
def BI.isSome_eq(r:BI o u):o.isSome=u.isSome:=by
 cases o with
 | none=>cases u with
  | none=>rfl
  | some _=>show (show False from r).elim
 | some _=>cases u with
  | none=>show (show False from r).elim
  | some _=>rfl
def KV.val(r:KV A7 vs)(k:κ):BI (Be A7 k) (valueAt vs k):=by
 unfold KV at r
 induction r with
 | nil=>show True.intro
 | @cons p q ps B h t I=>
  obtain⟨h1,h2⟩:=h;by_cases e:p.1=k;have F:q.1=k:=h1.symm.trans e;have b:valueAt (q::B) k=some q.2:=by simp[valueAt,bV,F]
  rw[xl e,b];show h2;have F:¬ q.1=k:=λz=>e (h1.trans z);have b:valueAt (q::B) k=valueAt B k:=by simp[valueAt,bV,F]
  rw[xk e,b];show I
def KV.any(r:KV A7 vs)(k:κ):(A7.any λkv=>decide (kv.1=k))=vs.any λkv=>decide (kv.1=k):=by
 unfold KV at r
 induction r with
 | nil=>rfl
 | cons h t B=>rw[dB,dB,B,h.1]
def KV.repl{A7:List (κ×V)}{vs:List (κ×Value)}(r:KV A7 vs)(k:κ){y:V}{u:Value}(F:ye y u):
  KV (A7.map λkv=>if kv.1=k then (kv.1,y) else kv) (vs.map λkv=>if kv.1=k then (kv.1,u) else kv):=by
 unfold KV at r ⊢
 induction r with
 | nil=>show .nil
 | @cons p q ps I h t B=>
  rw[ax,ax];show .cons ?_ B;grind
def KV.put(r:KV A7 vs)(k:κ)(B:ye y u):KV (u6 A7 k y) (stored vs k u):=by
 unfold u6 stored;rw[r.any k];by_cases e:(vs.any λkv=>decide (kv.1=k))=true;rw[if_pos e,if_pos e];show r.repl k B;rw[if_neg e,if_neg e];show Paired.snoc r #[A5,B]
def KV.length{A7:List (κ×V)}{vs:List (κ×Value)}(r:KV A7 vs):A7.length=vs.length:=ge r
end
def DC(r:ye (kV k) u):(zV P w).is k u=true:=by
 cases k with
 | inl i=>obtain⟨t,e⟩:=(show ∃t,u=Value.int i t from r);subst e;show OJ P w i t
 | inr x=>obtain⟨t,e⟩:=(show ∃t,u=Value.str x t from r);subst e;show OL P w x t
theorem J7:∀ {ks:List Key} {us:AN},yf (ks.map kV) us->ItemsAre (zV P w) ks us
 | [],_,r=>by rw[dU] at r;cases r;show .nil
 | k::ks,_,r=>by
  rw[ax] at r
  cases r with
  | cons h t=>show .cons (DC h) (J7 t)
abbrev KT (H:Hp):List (List Key×V)->List (List Key×Addr×Value)->Prop:=Paired λp q=>p.1=q.1/\H q.2.1=some (.tup (p.1.map kV))/\ye p.2 q.2.2
def KT.val(r:KT H A7 xs)(k:List Key):BI (Be A7 k) ((atKey xs k).map (·.2)):=by
 induction r with
 | nil=>show True.intro
 | @cons p q ps B h t I=>
  obtain⟨h1,_,h2⟩:=h;by_cases e:p.1=k;have F:q.1=k:=h1.symm.trans e;have b:atKey (q::B) k=some q.2:=by simp[atKey,bV,F]
  rw[xl e,b];show h2;have F:¬ q.1=k:=λz=>e (h1.trans z);have b:atKey (q::B) k=atKey B k:=by simp[atKey,bV,F]
  rw[xk e,b];show I
def KT.repl(r:KT H A7 xs)(k:List Key)(F:ye y u):
  KT H (A7.map λkv=>if kv.1=k then (kv.1,y) else kv) (xs.map (putAt k u)):=by
 induction r with
 | nil=>show .nil
 | @cons p q ps I h t B=>
  rw[ax,ax];show .cons ?_ B;obtain⟨h1,h2,J⟩:=h;unfold putAt;by_cases e:p.1=k
  all_goals right
def KT.put(r:KT H A7 xs)(k:List Key)(F:H b=some (.tup (k.map kV)))(B:ye y u):
  KT H (u6 A7 k y) (storedH xs k b u):=by
 have e:(A7.any λkv=>decide (kv.1=k))=(atKey xs k).isSome:=by rw[J6,(r.val k).isSome_eq,el]
 unfold u6 storedH;rw[e];by_cases q:(atKey xs k).isSome=true;rw[if_pos q,if_pos q];show r.repl k B;rw[if_neg q,if_neg q];show Paired.snoc r #[A5,F,B]
def KT.keeps(r:KT H A7 xs)(B:∀b ys,H b=some (.tup ys)->H' b=some (.tup ys)):KT H' A7 xs:=
 Paired.mapP r λ_ _ z=>#[z.1,B _ _ z.2.1,z.2.2]
section
variable{P:Aa}{h:Heap}{a:Addr}
def Gf(B:HOk P w H h)(e:Rd H a u):zJ P w H h a u:=e.ok B
def Gg(B:HOk P w H h)(e:Rd H a (.dK A7)):A7.length<=sizeLine/\(a==sysModules)=false/\∃vs,KV A7 vs/\h.DictOf (zV P w) a vs:=
 show zJ P w H h a (.dK A7) from Gf B e
def Gh(B:HOk P w H h)(e:H a=some (.dK A7)):A7.length<=sizeLine/\(a==sysModules)=false/\∃vs,KV A7 vs/\h.DictOf (zV P w) a vs:=Gg B (.inl e)
def EA(F:HOk P w H h)(e:H a=some (.tup (ks.map kV))):(tupleKind (zV P w)).is h ks a:=by obtain⟨_,B,r,o,h1,h2,⟨n,I⟩,_⟩:=(show zJ P w H h a (.tup (ks.map kV)) from F a _ e);show#[o,B.toArray,n,h1,h2,I,by simpa using J7 r]
def Gi(F:HOk P w H h)(e:Rd H a (.dT A7)):A7.length<=sizeLine/\(a==sysModules)=false/\
  ∃xs,KT H A7 xs/\h.DictOfH (tupleKind (zV P w)) a xs:=by
 obtain⟨z,y,xs,r,o,es,ep,h1,h2,I,J,O⟩:=(show zJ P w H h a (.dT A7) from Gf F e);show#[z,y,xs,r,o,es,ep,h1,h2,I,J,λx B=>?_,O]
 have all:∀ {l:List (List Key×V)} {m:List (List Key×Addr×Value)},KT H l m->∀x∈m,(tupleKind (zV P w)).is h x.1 x.2.1:=by
  intro l m q
  induction q with
  | nil=>intro x B;show nomatch B
  | @cons p q ps Y hq t U=>
   intro x B;rcases au.mp B with e | B;subst e;show EA F (by right);show U x B
 show all r x B
def J8(B:HOk P w H h)(e:H a=some (.dT A7)):A7.length<=sizeLine/\(a==sysModules)=false/\
  ∃xs,KT H A7 xs/\h.DictOfH (tupleKind (zV P w)) a xs:=Gi B (.inl e)
end
def Bt (H:Hp)(a:Addr)(y:V)(r:Option V):Prop:=
 (∃A7 k,Rd H a (.dK A7)/\y=kV k/\r=Be A7 k)\/∃A7 k b,Rd H a (.dT A7)/\y = .ref b/\H b=some (.tup (k.map kV))/\r=Be A7 k
def Bn (H:Hp)(a:Addr)(y v:V)(H':Hp):Prop:=
 (∃A7 k,H a=some (.dK A7)/\y=kV k/\A7.length<sizeLine/\H'=upd H a (.dK (u6 A7 k v)))\/
 ∃A7 k b,H a=some (.dT A7)/\y = .ref b/\H b=some (.tup (k.map kV))/\A7.length<sizeLine/\H'=upd H a (.dT (u6 A7 k v))
def Bt.k{a:Addr}{A7:List (Key×V)}{k:Key}(e:H a=some (.dK A7)):Bt H a (kV k) (Be A7 k):=.inl #[A7,k,.inl e,A5,A5]
def Bn.k{a:Addr}{A7:List (Key×V)}{k:Key}{v:V}(e:H a=some (.dK A7))(B:A7.length<sizeLine):Bn H a (kV k) v (upd H a (.dK (u6 A7 k v))):=.inl #[A7,k,e,A5,B,A5]
def Bn.t{a b:Addr}{A7:List (List Key×V)}{k:List Key}{v:V}(e:H a=some (.dT A7))(B:H b=some (.tup (k.map kV)))(F:A7.length<sizeLine):
  Bn H a (.ref b) v (upd H a (.dT (u6 A7 k v))):=.inr #[A7,k,b,e,A5,B,F,A5]
section
variable{a:Addr}{y v:V}{u r:Value}{o:Option V}{A:Ae}
def Inv.big (I:'&'):sysModules<s.heap.objs.size:=by have h:mainGlobals<s.heap.objs.size:=(I.mod.glob.keeps I.bk).lt;show Nat.lt_trans '#' h
def P9(Y:A.units+1<cLine)(I:'&')(g:Bt H a y (some v))(U:ye y u)(h:∀w' s',Inv X A6 G H s'->ye v w'->Q w' s'):
  wpAny '5' A (getItem (.ref a) u) Q E s:=by
 rcases g with ⟨A7,k,e,ey,l⟩ | ⟨A7,k,b,e,ey,eb,l⟩;subst ey;obtain⟨z,hd,vs,B,dd⟩:=Gg I.hok e;obtain⟨w',J,F⟩:=BI.some_of (v:=v) (o:=valueAt vs k) (by rw[l];show B.val k);show wpAny_getItem_of (DC U) dd.mapOf J (h w' _ (I.tok _) F);subst ey;cases (show u=Value.ref b from U);obtain⟨z,hd,xs,B,dd⟩:=Gi I.hok e;obtain⟨w',J,F⟩:=BI.some_of (v:=v) (o:=(atKey xs k).map (·.2)) (by rw[l];show B.val k);obtain⟨p,hp,O⟩:=aI.mp J;show wpAny_getItem_heap (tupleKind_room_in1 Y) (EA I.hok eb) dd hp ?_;rw[O];show h w' _ (I.tok _) F
def C5(I:'&')(F:Mut (H a))(hs:Heap.SameBut a s.heap h')(J:∃q,h'.get? a=some q)(B:zJ X.prog X.w (upd H a ob) h' a ob):
  Inv X A6 G (upd H a ob) { s with heap:=h',toks:=t' }:=
 I.write (x:=a) (e:=a) F (.inl A5) (λb q O z=>(hs.2 b O).trans z) J B
def Gj(z:A7.length<=sizeLine)(F:(a==sysModules)=false)(B:KV A7 vs)(dd:h'.DictOf (zV P w) a vs):
  zJ P w H' h' a (.dK A7):=#[z,F,vs,B,dd]
def P_(hu:A.units+1<cLine)(I:'&')(g:Bn H a y v H')(ry:ye y u)(rv:ye v r)(h:∀s',Inv X A6 G H' s'->Q () s'):
  wpAny '5' A (setItem (.ref a) u r) Q E s:=by
 rcases g with ⟨A7,k,e,ey,l,eH⟩ | ⟨A7,k,b,e,ey,eb,l,eH⟩;subst ey eH;obtain⟨z,O,vs,B,dd⟩:=Gh I.hok e;have U:vs.length<=sizeLine:=by rw[<- B.length];show z
 have Y:(u6 A7 k v).length<=sizeLine:=by have:=xq A7 k v;lia
 show wpAny_setItem_pairs (hsz:=U) (DC ry) dd λh' F hs=>h _ ?_;have he:∃q,h'.get? a=some q:=let ⟨q,_,_,J,_⟩:=F;#[q,J];show C5 I (by rw[e];show True.intro) hs he (Gj Y O (B.put k rv) F);subst ey eH;cases (show u=Value.ref b from ry);obtain⟨z,O,xs,B,dd⟩:=J8 I.hok e;have U:xs.length<=sizeLine:=by rw[<- ge B];show z
 have Y:(u6 A7 k v).length<=sizeLine:=by have:=xq A7 k v;lia
 show wpAny_setItem_heap (hsz:=U) (tupleKind_room_in1 hu) (EA I.hok eb) dd λh' F hs=>h _ ?_;obtain⟨q,es,ep,J,h2,h3,h4,_,h5⟩:=F;show C5 I (by rw[e];show True.intro) hs #[q,J] #[Y,O,_,(B.put k eb rv).keeps λc ys ec=>?_,q,es,ep,J,h2,h3,h4,h5];rw[zc (by grind)];show ec
end
def EB (i:Expr):Prop:=∀B F,subscripted i false B F=operate [B,F] (getItem B F)
def Qa{A:Ae}{env:Env}{B:Expr}{pos:Pos}{T id:String}{Q:AA}(hl:typeLookup (.type T) "__getitem__" = pure (some (.builtin id)))(hs:EB B)(h:Ag prog w A (eval value env) (λo J=>Ag prog w A (eval B env) (λi F=>F.TypeIs o T/\Ag prog w A (getItem o i) Q E F) E J) E s):
  Ag prog w A (eval (.Subscript value B pos) env) Q E s:=by
 show Subscript_ (aE h (λo J U=>aE U (λi F I=>?_) λ_ _ x=>x) λ_ _ x=>x);obtain⟨hT,I⟩:=I;unfold subscriptTail;show aa ?_;rw[getitemInPython_of_ne hT.not_modules];show aa (dW hT hl ?_);have fin:Ag prog w A (subscripted B false o i) (λr O=>Ag prog w A (letTemporaryGo value o r >>= λ_=>pure r) Q E O) E F:=by rw[hs o i];show wpAny_operating (aE I (λr O Y=>aa (wpAny_letTemporaryGo (ae Y))) λ_ _ x=>x)
 first
  | show ae (aa fin)
  | show aa (by grind)
  | show aa fin
def Qb{a:Addr}{y:V}(I:'&')(g:Bt H a y o):s.TypeIs (.ref a) "dict" := by
 rcases g with ⟨A7,k,e,_,_⟩ | ⟨A7,k,b,e,_,_,_⟩;obtain⟨_,_,vs,_,dd⟩:=Gg I.hok e;show dd.typeIs;obtain⟨_,_,xs,_,dd⟩:=Gi I.hok e;show dd.typeIs
def J9 (td ty:TE):TE:=λG H Q=>td G H λx H1=>ty G H1 λy H2=>∃a v,x = .ref a/\Bt H2 a y (some v)/\Q v H2
def J_ (td ty tv:TE):TS:=λBB G H=>tv G H λv H1=>td G H1 λx H2=>ty G H2 λy H3=>∃a H4,x = .ref a/\Bn H3 a y v H4/\BB.nx G H4
section
variable{o i:Expr}{pos:Pos}{ty:TE}
def Qc (J:X.A.units+1<cLine)(O:PE X o td)(hi:PE X i ty)(hs:EB i):PE X (.Subscript o i pos) (J9 td ty):=by intro A6 s G H Q I h;show Qa PySem.F.slot_dict_getitem.lookup hs (thn (O A6 s G H _ I h) λu s1 ⟨x,H1,I1,U,Y⟩=>thn (hi A6 s1 G H1 _ I1 Y) ?_);rintro iv s2 ⟨y,H2,I2,ry,a,v,ex,g,q2⟩;subst ex;obtain rfl:u=Value.ref a:=U;show#[Qb I2 g,P9 J I2 g ry λw' s3 I3 B=>#[v,H2,I3,B,q2]]
def Qd (B:X.A.units+1<cLine)(F:PE X o td)(hi:PE X i ty)(J:PE X value tv)(hs:swapsWith value (some (.Subscript o i pos')) pos.line X.env=pure false):
  PS X (.Assign [.Subscript o i pos'] value pos) (J_ td ty tv):=by
 intro A6 s G H BB I h;show wpAny_Assign_Subscript (thn (J A6 s G H _ I h) λr s1 ⟨v,H1,I1,O,U⟩=>thn (F A6 s1 G H1 _ I1 U) λu Y ⟨x,H2,I2,rx,q2⟩=>thn (hi A6 Y G H2 _ I2 q2) λiv s3 ⟨y,H3,I3,ry,a,H4,ex,g,q3⟩=>?_) hs;subst ex;obtain rfl:u=Value.ref a:=rx;show P_ B I3 g ry O λs4 I4=>#[G,H4,I4,q3]
end
def Ka(h:Heap)(B:sysModules<h.objs.size):zJ P w H (h.push { cls:=.type "dict",data:=.dict #v[] }) h.objs.size (.dK []):=
 #[aQ _,gu.mpr (Ne.symm (aY B)),[],.nil,Heap.DictOf.new h]
def Qe(h:Heap)(B:sysModules<h.objs.size):zJ P w H (h.push { cls:=.type "dict",data:=.dict #v[] }) h.objs.size (.dT []):=
 #[aQ _,gu.mpr (Ne.symm (aY B)),[],.nil,_,#v[],0,ar _ A5,#[A5,A5,A5],A5,A5,fM]
def Gk:List (TE×TE)->St->Hp->(List (V×V)->Hp->Prop)->Prop
 | [],_,H,Q=>Q [] H
 | (tk,tv)::r,G,H,Q=>tk G H λx H1=>tv G H1 λy H2=>Gk r G H2 λps H3=>Q ((x,y)::ps) H3
abbrev VV:List (V×V)->List (Value×Value)->Prop:=Paired λp q=>ye p.1 q.1/\ye p.2 q.2
def PPs (X:Cx)(pos:Pos)(F:List (Option Expr))(B:AO)(I:List (TE×TE)):Prop:=
 ∀A6 s G H (Q:List (V×V)->Hp->Prop),Inv X A6 G H s->Gk I G H Q->
  Af X (evalPairs (pairTrees F B X.env pos)) (λvs s'=>∃ps H',Inv X A6 G H' s'/\VV ps vs/\Q ps H') X.xe s
def Qf:PPs X pos [] [] []:=λA6 s G H Q I h=>pairTrees_nil_walk #[[],H,I,.nil,h]
def Qg(J:PE X k tk)(O:PE X v tv)(U:PPs X pos ks vs B):
  PPs X pos (some k::ks) (v::vs) ((tk,tv)::B):=λA6 s G H Q I h=>
 pairTrees_cons_walk (thn (J A6 s G H _ I h) λu s1 ⟨x,H1,I1,Y,q1⟩=>thn (O A6 s1 G H1 _ I1 q1) λw2 s2 ⟨y,H2,I2,ry,q2⟩=>
  thn (U A6 s2 G H2 _ I2 q2)<|by rintro ws s3 ⟨ps,H3,I3,F,q3⟩;show#[(x,y)::ps,H3,I3,.cons #[Y,ry] F,q3])
def CA (A7 more:List (Key×V)):List (Key×V):=more.foldl (λacc kv=>u6 acc kv.1 kv.2) A7
def KV.merge:∀ {more:List (Key×V)} {B:List (Key×Value)} {A7:List (Key×V)} {vs:List (Key×Value)},KV more B->KV A7 vs->KV (CA A7 more) (merged vs B):=by
 intro more B A7 vs r;unfold KV at r
 induction r generalizing A7 vs with
 | nil=>intro q;show q
 | @cons p q ps J h t F=>
  intro I
  have e:KV (u6 A7 p.1 p.2) (stored vs q.1 q.2):=by
   have:=I.put p.1 h.2;right
  show F e
theorem Kb:∀ (more A7:List (Key×V)),(CA A7 more).length<=A7.length+more.length
 | [],A7=>by change A7.length<=A7.length+0;lia
 | p::r,A7=>by
  have h1:=Kb r (u6 A7 p.1 p.2);have h2:=xq A7 p.1 p.2;change (CA (u6 A7 p.1 p.2) r).length<=_;grind
theorem Kc{w:_}:∀ {A7:List (Key×V)} {F:List (Value×Value)},VV (A7.map λkv=>(kV kv.1,kv.2)) F->∃B,Carries (zV P w) F B/\KV A7 B
 | [],_,r=>by rw[dU] at r;cases r;show#[[],True.intro,.nil]
 | p::A7,_,r=>by
  rw[ax] at r
  cases r with
  | @cons a b as bs h t=>
   obtain⟨B,c,q⟩:=Kc (P:=P) (w:=w) t;obtain⟨J,I⟩:=b;show#[(p.1,I)::B,#[DC h.1,A5,c],.cons #[A5,h.2] q]
def Kd (B:List (TE×TE)):TE:=λG H Q=>∀p,H p=none->Gk B G (upd H p (.dK [])) λps H2=>H2 p=some (.dK [])/\∃A7:List (Key×V),ps=A7.map (λkv=>(kV kv.1,kv.2))/\A7.length<=15/\Q (.ref p) (upd H2 p (.dK (CA [] A7)))
def Qh(h:PPs X pos B F J)(O:B.all (·.isSome)=true)(hl:B.length=F.length)(h0:B≠[])(Y:B.length<=15):PE X (.Dict B F pos) (Kd J):=by
 intro A6 s G H Q I q;have hn:=I.hok.fresh (ak s.heap.objs.size);have I1:=I.laid (a:=s.heap.objs.size) (o:=.dK []) (h':=s.heap.push { cls:=.type "dict",data:=.dict #v[] }) (t':=s.toks) (λ_ _ q=>ah _ q) (ak _) (Ka s.heap I.big);show wpAny_Dict_walk (knd:=zV X.prog X.w) O hl h0 Y (thn (h A6 _ G _ _ I1 (q _ hn)) ?_);rintro ws s2 ⟨ps,H2,I2,ab,e,A7,ep,lk,q2⟩;subst ep;obtain⟨rs,c,rk⟩:=Kc (P:=X.prog) (w:=X.w) ab;obtain⟨z,hd,ac,r0,dd⟩:=Gh I2.hok e;cases r0;show#[rs,c,dd,λh' U hs=>#[.ref s.heap.objs.size,_,?_,A5,q2]];have hz:(CA [] A7).length<=sizeLine:=by have h1:=Kb A7 [];rw[List.length_nil] at h1;rw[cy];lia
 have he:∃q,h'.get? s.heap.objs.size=some q:=let ⟨q,_,_,hq,_⟩:=U;#[q,hq];show C5 I2 (by rw[e];show True.intro) hs he (Gj hz hd (rk.merge .nil) U)
section
variable{o:Option V}
end
end L2
variable{α κ T0 T1 T2 T3 T4 T5:Type}{H H' H1 G':L2.Hp}{w:Ab}{h' h1 base:Heap}{e tg c value elt iter ke ve tg2 iter2:Expr}{o' o0:L2.HO}{X:L2.Cx}{A6 pl:AB}{G σc:L2.St}{s s' s1:AZ}{N ps:AM}{j n lo hint ia k1 k2 k3:Nat}{E Qp:AA}{K:AH}{te tv td to:L2.TE}{es ifs ifs2 f3:AO}{hi:AQ}{C dx acc fA cc:Addr}{prog:Aa}{name qual nx wx cx:Str}{pos' tpos p apos cpos p2 spos px ipos p3 p4 p1 ap cp np hp wp q1 q2 q3 tp i4 i5 i6 i7 i8 i9 j1 j2 j3 j4 j5 j6 j7 r1 r2 r3 r4 tq lpos p5 p6 kp:Pos}{CX:L2.CXT}{fd:Ac}{sp:L2.Sp}{scope:Scope}{outer:List Env}{params:Arguments}{dV pm ct oc cv:Value}{an od:Option Addr}{env:Env}{XP:(AI)->Heap->Prop}{YP:Ab->Heap->Prop}{A8:List (Option Nat)}{ti ti2:L2.TT}{Fin:Addr->L2.Hp->Prop}{Fam:L2.Cx->Prop}{use:Option (Value->Sem Unit)}{wi wi2:L2.TI}{Nx:L2.St->L2.Hp->Prop}{ts:L2.TA}{ns rm hs:AG}{g2:L2.TG}{M S cM M':AR}{L0:List Keyed}{left fr fr' ow:Bool}{us:List α}{ob:Obj}{dr:Drawn}{oS:OsState}{QH:L2.Hp->Prop}{cl:List (Str×Addr)}
namespace HT
open PyProof.Rows
def lexLt:AG->AG->Bool
 | [],[]=>false
 | [],_::_=>true
 | _::_,[]=>false
 | x::xs,y::ys=>if x=y then lexLt xs ys else decide (x<y)
def lexLt_cons (x y:Int)(xs ys:AG):lexLt (x::xs) (y::ys)=if x=y then lexLt xs ys else decide (x<y):=rfl
def lexLt_nil_nil:lexLt [] []=false:=rfl
section
open PySem.SeqAt
open PySem.AutoSeq1 (wpAny_loadPart')
open PySem.MeetsSeq PySem.MeetsSeq2 PySem.MeetsSeq3
variable{A:Ae}
def cat_tup(ht:IsTup s.heap t vs.toArray)(hb:IsTup s.heap b B.toArray)(hv:vs≠[])(h1:B=[]->Q (.ref t) s)(h2:B≠[]->Q (.ref s.heap.objs.size) { s with heap:=s.heap.push { cls:=.type "tuple",data:=.seq (vs++B).toArray } })(hsz:vs.length+B.length<=sizeLine):Ag prog w A (binaryOp .Add (.ref t) (.ref b)) Q E s:=by
 obtain⟨⟨cls,dd,data,sl⟩,ho,hc,n,hd⟩:=id ht;obtain⟨⟨ac,J,ab,O⟩,I,U,n2,Y⟩:=id hb;simp only at hc hd U Y;subst hc hd U Y;have e:vs.toArray++B.toArray=(vs++B).toArray:=by simp
 by_cases hw:B=[]
 ·show concat_meets #[_,ho,A5] #[_,I,A5] noFill_tuple_add seq_tuple_add PySem.F.slot_tuple_add PySem.F.entry_tuple_add (PySem.F.args_tuple_add_2 _ _)
   (tuple_addW1 t b vs.toArray B.toArray n n2 dd J sl O (by simpa using hv) (by simp[hw])) #[ho,I,h1 hw]
 ·show concat_meets #[_,ho,A5] #[_,I,A5] noFill_tuple_add seq_tuple_add PySem.F.slot_tuple_add PySem.F.entry_tuple_add (PySem.F.args_tuple_add_2 _ _)
   (tuple_addW2 t b vs.toArray B.toArray n n2 dd J sl O (by simpa using hv) (by simpa using hw) (by right)) #[ho,I,?_]
  rw[e];show h2 hw
def sIx (n d:Nat):AQ->Nat
 | none=>d
 | some v=>if v<0 then (v+(n:Int)).toNat else min v.toNat n
def sIx_none (n d:Nat):sIx n d none=d:=rfl
def sIx_nat (n d k:Nat):sIx n d (some (k:Int))=min k n:=by change (if (k:Int)<0 then ((k:Int)+(n:Int)).toNat else min (k:Int).toNat n)=min k n;rw[if_neg '!',Int.toNat_natCast]
def Qi (n d:Nat)(F:d<=n)(o:AQ):sIx n d o<=n:=by
 cases o with
 | none=>show F
 | some v=>
  change (if v<0 then (v+(n:Int)).toNat else min v.toNat n)<=n;by_cases B:v<0;rw[if_pos B];lia;rw[if_neg B];show Nat.min_le_right _ _
def Ke (v:Int)(n d:Nat):(if v<0 then max (v+(n:Int)) 0 else min v (n:Int))=((sIx n d (some v):Nat):Int):=by
 change (if v<0 then max (v+(n:Int)) 0 else min v (n:Int))=(((if v<0 then (v+(n:Int)).toNat else min v.toNat n):Nat):Int);grind
def Qj (lo hi:AQ)(n:Nat):Builtin.Slice.sliceAdjust lo hi 1 (n:Int)=(((sIx n 0 lo:Nat):Int),((sIx n n hi:Nat):Int)):=by
 have h1:¬ ((1:Int)<0):=by lia
 unfold Builtin.Slice.sliceAdjust;simp only[h1,if_false];show Prod.ext ?_ ?_
 cases lo with
 | none=>rfl
 | some v=>show Ke v n 0
 cases hi with
 | none=>rfl
 | some v=>show Ke v n n
def Qk (i j:Nat):Builtin.Slice.slicePlaces (i:Int) (j:Int) 1=j-i:=by
 unfold Builtin.Slice.slicePlaces;have h1:(1:Int) > 0:=by lia
 simp only[h1,if_true,Int.ediv_one];split <;> lia
def xT{o:AQ}{Q:AQ->AZ->Prop}(p:IsPart v o)(h:Q o s):Ag prog w A (Builtin.Slice.slicePartIndex v) Q E s:=by
 cases p with
 | none=>show slicePart_none h
 | int i t=>show slicePart_int h
def uo{lo:AQ}{Q:Int×Int×Nat->AZ->Prop}(hs:s.heap.IsSliceOf O I J .none)(pl:IsPart I lo)(U:IsPart J hi)(h:Q (((sIx n 0 lo:Nat):Int),1,sIx n n hi-sIx n 0 lo) s):Ag prog w A (Builtin.Slice.sliceApplied (.ref O) (pure (n:Int))) Q E s:=by
 obtain⟨os,B,Y,F⟩:=id hs;unfold Builtin.Slice.sliceApplied Builtin.Slice.sliceFields;show wpAny_bind (wpAny_bind (wpAny_field B F (x:=I) A5 (wpAny_bind (wpAny_field B F (x:=J) A5 (wpAny_bind (wpAny_field B F (x:=.none) A5 (wpAny_pure ?_)))))));show wpAny_bind (slicePart_none ?_);rw[if_neg '#'];show wpAny_bind (xT pl (wpAny_bind (xT U (wpAny_bind (wpAny_pure ?_)))));change wpAny _ _ (match Builtin.Slice.sliceAdjust lo hi 1 (n:Int) with | (lo,hi)=>pure (lo,(1:Int),Builtin.Slice.slicePlaces lo hi 1)) _ _ s;rw[Qj lo hi n];change wpAny _ _ (pure (((sIx n 0 lo:Nat):Int),(1:Int),Builtin.Slice.slicePlaces ((sIx n 0 lo:Nat):Int) ((sIx n n hi:Nat):Int) 1)) _ _ s;rw[Qk];show wpAny_pure h
def Ql (xs:AK)(i k:Nat):((List.range k).filterMap λ(m:Nat)=>xs[((i:Int)+(m:Int)*1).toNat]?).toArray=((xs.toList.drop i).take k).toArray:=by
 have e:(λ(m:Nat)=>xs[((i:Int)+(m:Int)*1).toNat]?)=λm=>xs[i+m]?:=by
  funext m;have:((i:Int)+(m:Int)*1).toNat=i+m:=by lia
  rw[this]
 rw[e];have:=pick_run xs i k;rw[List.filterMap_map] at this;have B:((λx=>xs[x]?) ∘ λx=>i+x)=λm=>xs[i+m]?:=rfl;right
def getItem_tuple_cut{lo:AQ}(I:IsTup s.heap t B)(hs:s.heap.IsSliceOf J vl vu .none)(pl:IsPart vl lo)(pu:IsPart vu hi)(hw:¬ (sIx B.size 0 lo=0/\sIx B.size B.size hi=B.size))(h:Q (.ref s.heap.objs.size) { s with heap:=s.heap.push { cls:=.type "tuple",data:=.seq ((B.toList.drop (sIx B.size 0 lo)).take (sIx B.size B.size hi-sIx B.size 0 lo)).toArray } })(hsz:B.size<=sizeLine):Ag prog w A (getItem (.ref t) (.ref J)) Q E s:=by
 have F:sizeOk (.seq ((B.toList.drop (sIx B.size 0 lo)).take (sIx B.size B.size hi-sIx B.size 0 lo)).toArray):=by change ((B.toList.drop (sIx B.size 0 lo)).take (sIx B.size B.size hi-sIx B.size 0 lo)).toArray.size<=sizeLine;rw[List.size_toArray,List.length_take,List.length_drop,Array.length_toList];lia
 obtain⟨os,O,U,ac⟩:=id hs;have Y:s.TypeIs (.ref J) "slice" := #[os,O,U];unfold getItem;try with_reducible show wpAny_holding ?_
 first | show wpAny_bind (wpAny_pure ?_) | skip
 show wpAny_bind (wpAny_sequenceKey I.typeIs '#' ?_)
 show wpAny_bind (wpAny_callSpecial?_slot (name:=Str.ofString "__getitem__") I.typeIs PyProof.Rows.slot_tuple_getitem
  (wpAny_call_entry PyProof.Rows.slot_tuple_getitem I.typeIs entry_tuple_getitem ?_ (args_tuple_getitem _ _)))
 change wpAny _ _ (Builtin.Tuple.tupleItemsOf (.ref t) >>= _) _ _ s;show wpAny_bind (tupleItemsOf_ I ?_);show wpAny_bind (wpAny_typeOf Y ?_);rw[if_pos '#'];show wpAny_bind (uo hs pl pu ?_);have ab:¬ ((((sIx B.size 0 lo:Nat):Int)==0&&(1:Int)==1&&(sIx B.size B.size hi-sIx B.size 0 lo)==B.size)=true):=by grind
 change wpAny _ _ (if (((sIx B.size 0 lo:Nat):Int)==0&&(1:Int)==1&&(sIx B.size B.size hi-sIx B.size 0 lo)==B.size)=true then _ else _) _ _ s;rw[if_neg ab,Ql]
 first
  | show wpAny_bind (m:=Builtin.Tuple.tupleExact _) (wpAny_newObj_type (wpAny_pure #[_,A5,wpAny_pure h]) F)
  | show wpAny_bind (by grind) (by grind)
  | show wpAny_bind (by grind)
  | show wpAny_bind (by grind)
end
end HT
namespace L2
open PyProof.Rows
abbrev TO:=St->Hp->(AQ->Hp->Prop)->Prop
def PO (X:Cx)(e:Option Expr)(t:TO):Prop:=
 ∀A6 s G H Q,Inv X A6 G H s->t G H Q->
  Af X (evalPart e X.env) (λu s'=>∃o H',Inv X A6 G H' s'/\IsPart u o/\Q o H') X.xe s
def Kf:TO:=λ_ H Q=>Q none H
def Kg (t:TE):TO:=λG H Q=>t G H λx H1=>∃i,x = .int i/\Q (some i) H1
section
variable{lo hi:Option Expr}{tl th:TO}{pos:Pos}
def Qm:PO X none Kf:=by intro A6 s G H Q I h;rw[evalPart_none];show ae #[none,H,I,.none,h]
def Qn (h:PE X e te):PO X (some e) (Kg te):=by intro A6 s G H Q I B;rw[evalPart_some];show thn (h A6 s G H _ I B) ?_;rintro u s1 ⟨x,H1,I1,F,J⟩;obtain⟨i,rfl,q⟩:=J;obtain⟨t,rfl⟩:=F;show#[some i,H1,I1,.int i t,q]
def SlR (X:Cx)(r:V->AQ->AQ->Hp->VK->Prop):Prop:=
 ∀A6 s G H x v B F lo hi I Q,Inv X A6 G H s->ye x v->s.heap.IsSliceOf I B F .none->IsPart B lo->IsPart F hi->r x lo hi H Q->
  ∃T id,typeLookup (.type T) "__getitem__" = pure (some (.builtin id))/\s.TypeIs v T/\Af X (getItem v (.ref I)) (EP X A6 G Q) X.xe s
def tSl (r:V->AQ->AQ->Hp->VK->Prop)(te:TE)(tl th:TO):TE:=λG H Q=>te G H λx H1=>tl G H1 λl H2=>th G H2 λu H3=>r x l u H3 Q
def Qo{r:V->AQ->AQ->Hp->VK->Prop}(O:SlR X r)(U:PE X e te)(Y:PO X lo tl)(hu:PO X hi th):PE X (.Subscript e (.Slice lo hi none p2) pos) (tSl r te tl th):=by intro A6 s G H Q I h;show Subscript_ (thn (U A6 s G H _ I h) ?_);rintro v s1 ⟨x,H1,I1,r1,q1⟩;show wpAny_Slice (thn (Y A6 s1 G H1 _ I1 q1) λF s2 ⟨l,H2,I2,pl,q2⟩=>thn (hu A6 s2 G H2 _ I2 q2) ?_);rintro J B ⟨u,H3,I3,pu,q3⟩;rw[evalPart_none];show ae ?_;have I4:Inv X A6 G H3 { B with heap:=B.heap.push { cls:=.type "slice",data:=.fields #v[F,J,.none] } }:=I3.kept (t':=B.toks) λb ob q=>ah _ q;obtain⟨T,id,hT,ht,hg⟩:=O A6 { B with heap:=B.heap.push { cls:=.type "slice",data:=.fields #v[F,J,.none] } } G H3 x v F J l u B.heap.objs.size Q I4 r1 (Heap.IsSliceOf.new ..) pl pu q3;show tail_any (ops:=[.ref B.heap.objs.size,v]) ht hT hg (by with_unfolding_all rfl)
def Bj (xs:AT)(lo hi:AQ):AT:=(xs.drop (HT.sIx xs.length 0 lo)).take (HT.sIx xs.length xs.length hi-HT.sIx xs.length 0 lo)
def Kh (xs:AT)(lo hi:AQ):(Bj xs lo hi).length<=xs.length:=by unfold Bj;rw[bi,eI];lia
def rSlT (K:AH):V->AQ->AQ->Hp->VK->Prop:=λx lo hi H Q=>∃a xs,x = .ref a/\SqT K H a xs/\
 ¬ (HT.sIx xs.length 0 lo=0/\HT.sIx xs.length xs.length hi=xs.length)/\∀p,H p=none->Q (.ref p) (upd H p (.tup (Bj xs lo hi)))
def Qq:SlR X (rSlT X.K):=by
 intro A6 s G H x v vl vu lo hi sl Q I U hs pl Y h;obtain⟨a,xs,rfl,hx,hw,q⟩:=h;cases U;obtain⟨F,r,J,O⟩:=I.tuple hx;have B:F.toArray.size=xs.length:=by rw[aU];show r.length.symm
 show#["tuple",_,PyProof.Rows.slot_tuple_getitem.lookup,J.typeIs,?_];show HT.getItem_tuple_cut J hs pl Y (by rw[B];show hw) ?_ (by rw[B];show O);rw[B];show#[.ref s.heap.objs.size,_,I.laid (t':=s.toks) (o:=.tup (Bj xs lo hi)) (λb ob q=>ah _ q) (ak _) ?_,A5,q _ (I.hok.fresh (ak _))];show#[av (Kh xs lo hi) O,_,(r.drop (HT.sIx xs.length 0 lo)).take (HT.sIx xs.length xs.length hi-HT.sIx xs.length 0 lo),uw.new _ _]
def Qr (K:AH):R2:=λx y H Q=>∃a b xs ys,x = .ref a/\y = .ref b/\SqT K H a xs/\SqT K H b ys/\xs≠[]/\xs.length+ys.length<=sizeLine/\
 (ys=[]->Q (.ref a) H)/\(ys≠[]->∀p,H p=none->Q (.ref p) (upd H p (.tup (xs++ys))))
def yf.nil_iff{us:_}(r:yf xs us):us=[]↔xs=[]:=by
 cases r with
 | nil=>simp
 | cons _ _=>simp
def Qs:OpR X (binaryOp .Add) (Qr X.K):=by intro A6 s G H x y v u Q I O U h;obtain⟨a,b,xs,ys,rfl,rfl,Y,hb,hx,hz,q1,q2⟩:=h;cases O;cases U;obtain⟨ab,F,p1,_⟩:=I.tuple Y;obtain⟨J,B,p2,_⟩:=I.tuple hb;show HT.cat_tup p1 p2 (λz=>hx (F.nil_iff.mp z)) (λz=>#[.ref a,H,I,A5,q1 (B.nil_iff.mp z)]) (λz=>?_) (by rw[<- F.length,<- B.length];show hz);show#[.ref s.heap.objs.size,_,I.laid (t':=s.toks) (o:=.tup (xs++ys)) (λb ob q=>ah _ q) (ak _) ?_,A5,q2 (λw=>z (B.nil_iff.mpr w)) _ (I.hok.fresh (ak _))];show#[by right,_,F.append B,uw.new _ _]
end
def ixN (n:Nat)(i:Int):Option Nat:=if 0<=i then (if i<n then some i.toNat else none) else if -(n:Int)<=i then some (i+n).toNat else none
def atI (xs:List α)(i:Int):Option α:=(ixN xs.length i).bind λj=>xs[j]?
def Qt{i:Int}(h:ixN n i=some j):seqIndex? i n=some j/\j<n/\-(n:Int)<=i/\i<n:=by
 unfold ixN at h;by_cases B:0<=i;rw[if_pos B] at h;by_cases h1:i<n;rw[if_pos h1] at h;have e:i.toNat=j:=bL h;show#[by rw[seqIndex_of B h1,e],by lia,by lia,h1];right;rw[if_neg B] at h;by_cases h1:-(n:Int)<=i;rw[if_pos h1] at h;have e:(i+n).toNat=j:=bL h;show#[by rw[seqIndex_neg '!' h1,e],by lia,h1,by lia];right
def Ki{xs:List α}{i:Int}{v:α}(h:atI xs i=some v):∃j,seqIndex? i xs.length=some j/\xs[j]?=some v/\j<xs.length/\-(xs.length:Int)<=i/\i<xs.length:=by
 unfold atI at h
 cases e:ixN xs.length i with
 | none=>rw[e] at h;cases h
 | some j=>
  rw[e] at h;obtain⟨h1,h2,B,F⟩:=Qt e;show#[j,h1,h,h2,B,F]
def Qu{xs:List α}{v:α}(h:xs[j]?=some v):atI xs (j:Int)=some v:=by
 have B:j<xs.length:=(ai.mp h).1
 have e:ixN xs.length (j:Int)=some j:=by
  unfold ixN;right
 unfold atI;rw[e];show h
def Gm (b:Expr):Prop:=∀o i,subscripted b false o i=operate [o,i] (getItem o i)
def IxR (X:Cx)(r:R2):Prop:=
 ∀value B A6 s G H x y v u Q,Inv X A6 G H s->ye x v->ye y u->r x y H Q->
  subscripted B false v u=operate [v,u] (getItem v u)->Af X (subscriptTail value B v u) (EP X A6 G Q) X.xe s
def MtR (X:Cx)(id:String)(r:V->AT->Hp->VK->Prop):Prop:=
 ∀ (A6:AB) (s:AZ) (G:St) (H:Hp) (x:V) (xs:AT) (v:Value) (us:AN) (Q:VK),Inv X A6 G H s->ye x v->yf xs us->r x xs H Q->
  Af X (call (.builtin id) (v::us)) (EP X A6 G Q) X.xe s
section
variable{a b:Expr}{ta tb:TE}{pos:Pos}
def Qv(B:IxR X r)(F:PE X a ta)(J:PE X b tb)(hs:Gm b):PE X (.Subscript a b pos) (tOp r ta tb):=by intro A6 s G H Q I h;show Subscript_ (Ga F J I h λv u O x y H2 I2 U Y q=>B a b A6 O G H2 x y v u Q I2 U Y q (hs _ _))
def EC (K:AH):R2:=λx y H Q=>∃p xs i v,x = .ref p/\y = .int i/\SqL K H p xs/\atI xs i=some v/\Q v H
def ED (K:AH):R2:=λx y H Q=>∃p xs i v,x = .ref p/\y = .int i/\SqT K H p xs/\atI xs i=some v/\Q v H
def Qw:IxR X (EC X.K):=by
 intro value B A6 s G H x y v u Q I rx ry h hs;obtain⟨p,xs,i,z,rfl,rfl,hq,he,q⟩:=h;cases rx;obtain⟨t,rfl⟩:=ry;obtain⟨F,r,pl,hz⟩:=I.list hq;obtain⟨j,h1,h2,h3,h4,h5⟩:=Ki he;obtain⟨w,U,J⟩:=r.get h2;have hl:=r.length;have hn:=Ge;have fin:EP X A6 G Q w s:=#[z,H,I,J,q];by_cases Y:0<=i
 have O:i.toNat=j:=by
  rw[seqIndex_of Y h5] at h1;right
 show item_listR pl.isList Y '!' (by rw[O];simpa using U) fin hs
 have O:(i+(F.toArray.size:Int)).toNat=j:=by
  rw[seqIndex_neg '!' h4] at h1;right
 show subscriptTail_builtinR (x:=w) pl.isList.typeIs slot_list_getitem.lookup
  (wpAny_getItem_list_neg (Q:=λr s'=>r=w/\EP X A6 G Q r s') pl.isList '!' (by right) '!' (by rw[O];simpa using U) #[A5,fin]) hs
def Qx:IxR X (ED X.K):=by
 intro value B A6 s G H x y v u Q I J O h hs;obtain⟨p,xs,i,z,rfl,rfl,U,Y,q⟩:=h;cases J;obtain⟨t,rfl⟩:=O;obtain⟨ab,r,pl,hz⟩:=I.tuple U;obtain⟨j,h1,h2,h3,h4,h5⟩:=Ki Y;obtain⟨w,ew,F⟩:=r.get h2;have hl:=r.length;have hn:=Ge;have fin:EP X A6 G Q w s:=#[z,H,I,F,q]
 show subscriptTail_builtinR (x:=w) pl.typeIs slot_tuple_getitem.lookup
  (getItem_tuple (j:=j) (Q:=λr s'=>r=w/\EP X A6 G Q r s') pl '!' '!' (by right) (by simpa using ew) #[A5,fin]) hs
def Qy (lo hi:AQ)(n:Nat):(sliceBounds lo hi none n).1=((HT.sIx n 0 lo:Nat):Int)/\(sliceBounds lo hi none n).2.1=((HT.sIx n n hi:Nat):Int)/\(sliceBounds lo hi none n).2.2=1:=by
 show#[?_,?_,A5]
 ·cases lo with
  | none=>simp[sliceBounds,HT.sIx]
  | some i=>
   simp only[sliceBounds,HT.sIx,Option.getD_none,show (1:Int) > 0 by ext,if_true];by_cases h:i<0
   ·simp only[h,if_true] <;> lia
   ·simp only[h,if_false] <;> lia
 ·cases hi with
  | none=>simp[sliceBounds,HT.sIx]
  | some i=>
   simp only[sliceBounds,HT.sIx,Option.getD_none,show (1:Int) > 0 by ext,if_true];by_cases h:i<0
   ·simp only[h,if_true] <;> lia
   ·simp only[h,if_false] <;> lia
def Qz (B:AN)(lo hi:AQ):slicePick B.toArray lo hi none=((B.drop (HT.sIx B.length 0 lo)).take (HT.sIx B.length B.length hi-HT.sIx B.length 0 lo)).toArray:=by obtain⟨h1,h2,F⟩:=Qy lo hi B.toArray.size;unfold slicePick;rw[h1,h2,F];simp only[sliceRange_one,pick_run,aU] <;> rfl
def rSlL (K:AH):V->AQ->AQ->Hp->VK->Prop:=λx lo hi H Q=>∃a xs,x = .ref a/\SqL K H a xs/\∀p,H p=none->Q (.ref p) (upd H p (.lst (Bj xs lo hi)))
def QB:SlR X (rSlL X.K):=by intro A6 s G H x v vl vu lo hi sl Q I J hs pl O h;obtain⟨a,xs,rfl,U,q⟩:=h;cases J;obtain⟨Y,r,F,hz⟩:=I.list U;have B:=r.length;show#["list",_,slot_list_getitem.lookup,F.isList.typeIs,?_];show wpAny_getItem_list_slice F.isList hs pl O .none '$' ?_ (by grind);rw[Qz,<- B];show#[.ref s.heap.objs.size,_,I.laid (t':=s.toks) (o:=.lst (Bj xs lo hi)) (λb ob q=>ah _ q) (ak _) ?_,A5,q _ (I.hok.fresh (ak _))];show#[av (Kh xs lo hi) hz,_,0,(r.drop (HT.sIx xs.length 0 lo)).take (HT.sIx xs.length xs.length hi-HT.sIx xs.length 0 lo),ar _ A5]
def B_:V->Bool
 | .non=>true
 | .bl _=>true
 | .int _=>true
 | .str _=>true
 | _=>false
def eqV:V->V->Bool
 | .non,.non=>true
 | .bl a,.bl b=>a==b
 | .bl a,.int b=>(if a then 1 else 0)==b
 | .int a,.bl b=>a==(if b then 1 else 0)
 | .int a,.int b=>a==b
 | .str a,.str b=>a==b
 | _,_=>false
def QD(F:ye y u)(B:ye x v)(J:B_ y=true)(I:B_ x=true):SeqAt.EqAt A s u v (eqV y x):=by
 cases y with
 | non=>
  cases F
  cases x with
  | non=>cases B;show SeqAt.EqAt.same _
  | bl b=>cases B;show SeqAt.EqAt.none_bool b
  | int b=>obtain⟨t,rfl⟩:=B;show SeqAt.EqAt.none_int b t
  | str b=>obtain⟨t,rfl⟩:=B;show SeqAt.EqAt.none_str b t
  | _=>show absurd (show false=true from I) aB
 | bl a=>
  cases F
  cases x with
  | non=>cases B;show SeqAt.EqAt.bool_none a
  | bl b=>cases B;show SeqAt.EqAt.bool_bool a b
  | int b=>obtain⟨t,rfl⟩:=B;show SeqAt.EqAt.bool_int a b t
  | str b=>obtain⟨t,rfl⟩:=B;show SeqAt.EqAt.bool_str a b t
  | _=>show absurd (show false=true from I) aB
 | int a=>
  obtain⟨t',rfl⟩:=F
  cases x with
  | non=>cases B;show SeqAt.EqAt.int_none a t'
  | bl b=>cases B;show SeqAt.EqAt.int_bool a t' b
  | int b=>obtain⟨t,rfl⟩:=B;show SeqAt.EqAt.int_int a t' b t
  | str b=>obtain⟨t,rfl⟩:=B;show SeqAt.EqAt.int_str a t' b t
  | _=>show absurd (show false=true from I) aB
 | str a=>
  obtain⟨t',rfl⟩:=F
  cases x with
  | non=>cases B;show SeqAt.EqAt.str_none a t'
  | bl b=>cases B;show SeqAt.EqAt.str_bool a t' b
  | int b=>obtain⟨t,rfl⟩:=B;show SeqAt.EqAt.str_int a t' b t
  | str b=>obtain⟨t,rfl⟩:=B;show SeqAt.EqAt.str_str a t' b t
  | _=>show absurd (show false=true from I) aB
 | _=>show absurd (show false=true from J) aB
def eqU (x:V)(u:Value):Bool:=match u with
 | .none=>eqV .non x
 | .bool b=>eqV (.bl b) x
 | .int i _=>eqV (.int i) x
 | .str z _=>eqV (.str z) x
 | _=>false
def Kj(r:ye y u)(f:B_ y=true):eqU x u=eqV y x:=by
 cases y with
 | non=>cases r;rfl
 | bl b=>cases r;rfl
 | int i=>obtain⟨t,rfl⟩:=r;rfl
 | str z=>obtain⟨t,rfl⟩:=r;rfl
 | _=>show absurd (show false=true from f) aB
theorem Gn:∀ {xs:AT} {us:AN},yf xs us->xs.all B_=true->us.any (eqU x)=xs.any λy=>eqV y x
 | _,_,.nil,_=>rfl
 | y::xs,u::us,.cons r t,f=>by rw[cj,aO] at f;rw[dB,dB,Kj r f.1,Gn t f.2]
theorem Gp{A:Ae}{x:V}{v:Value}(F:ye x v)(I:B_ x=true):∀ {xs:AT} {us:AN},yf xs us->xs.all B_=true->∀u∈us,SeqAt.EqAt A s u v (eqU x u)
 | _,_,.nil,_=>by grind
 | y::xs,u::us,.cons r t,f=>λJ B=>by
  rw[cj,aO] at f;rcases au.mp B with rfl | B;rw[Kj r f.1];show QD r F f.1 I;show Gp F I t f.2 J B
def inV (x:V)(xs:AT):Bool:=xs.any λy=>eqV y x
def rIn (K:AH)(B:Bool):R2:=λx y H Q=>∃p xs,y = .ref p/\(SqL K H p xs\/SqT K H p xs)/\B_ x=true/\xs.all B_=true/\Q (.bl (if B then !inV x xs else inV x xs)) H
def QF:OpR X (compareOp .NotIn) (rIn X.K true):=by
 intro A6 s G H x y v u Q I O Y h;obtain⟨p,xs,rfl,F,U,fs,q⟩:=h;cases Y;rcases F with F | F;obtain⟨B,r,pl,hz⟩:=I.list F;show SeqAt.notIn_listAt (eqU x) pl.isList (λw J=>Gp O U r fs w (by simpa using J)) #[.bl _,H,I,A5,?_];rw[show B.toArray.any (eqU x)=B.any (eqU x) by simp,Gn r fs];show q;obtain⟨B,r,pl,hz⟩:=I.tuple F;show SeqAt.notIn_tupleAt (eqU x) pl (λw J=>Gp O U r fs w (by simpa using J)) #[.bl _,H,I,A5,?_];rw[show B.toArray.any (eqU x)=B.any (eqU x) by simp,Gn r fs];show q
def QJ:Ck X (.type "tuple") (λxs H Q=>∃p ys,xs=[.ref p]/\((SqL X.K H p ys/\∀l,H l=none->Q (.ref l) (upd H l (.tup ys)))\/(SqT X.K H p ys/\Q (.ref p) H))):=by
 intro A6 s G H xs us Q I r h;obtain⟨p,ys,rfl,h⟩:=h;obtain⟨u,rfl,U⟩:=B9 r;cases U;rcases h with ⟨hq,q⟩ | ⟨hq,q⟩;obtain⟨B,F,pl,J⟩:=I.list hq;have O:=F.length;show call_tuple_list pl.isList (λh' kp=>?_) (by grind);have I1:Inv X A6 G H '1':=I.kept (t':=s.toks) kp
 have I2:Inv X A6 G (upd H h'.objs.size (.tup ys)) { s with heap:=h'.push { cls:=.type "tuple",data:=.seq B.toArray } }:=
  I1.laid (t':=s.toks) (λb o e=>ah _ e) (ak _) (show zJ X.prog X.w _ _ _ (.tup ys) from #[J,B,F,uw.new _ _])
 show#[.ref h'.objs.size,_,I2,A5,q _ (I1.hok.fresh (ak _))];obtain⟨B,F,pl,J⟩:=I.tuple hq;show call_tuple_same pl #[.ref p,H,I,A5,q]
def tyV (K:AH)(T:String)(x:V)(H:Hp):Prop:=match x with
 | .str _=>T = "str"
 | .int _=>T = "int"
 | .ref p=>(T = "list" /\ ∃xs,SqL K H p xs)\/(T = "tuple" /\ ∃o,K.lookup p=some o/\o.cls = .type "tuple" /\ o.dict=none)\/
   (T = "dict" /\ ((∃A7,H p=some (.dK A7))\/∃A7,H p=some (.dT A7)))\/(T = "set" /\ ∃S n,H p=some (.set S n))
 | _=>False
def QK{T:String}{x:V}{v:Value}(I:'&')(r:ye x v)(ty:tyV X.K T x H):
  s.TypeIs v T/\∀a,v = .ref a->∃ob,s.heap.get? a=some ob/\ob.dict=none:=by
 cases x with
 | str z=>
  obtain⟨t,rfl⟩:=r;cases (show T = "str" from ty);show#[typeIs_str s z t,λ_ e=>nomatch e]
 | int i=>
  obtain⟨t,rfl⟩:=r;cases (show T = "int" from ty);show#[typeIs_int s i t,λ_ e=>nomatch e]
 | ref p=>
  cases r;rcases ty with ⟨rfl,xs,hq⟩ | ⟨rfl,o,B,hc,F⟩ | ⟨rfl,B⟩ | ⟨rfl,S,n,B⟩;obtain⟨O,_,pl,_⟩:=I.list hq;show#[pl.isList.typeIs,λa e=>?_];cases e;obtain⟨o,n,e,c,F,_⟩:=pl;show#[o,e,F];show#[#[o,I.kIn p o B,hc],λa e=>?_];cases e;show#[o,I.kIn _ o B,F]
  have z:∃o,s.heap.get? p=some o/\o.ExactDict:=by
   rcases B with ⟨A7,B⟩ | ⟨A7,B⟩;obtain⟨_,_,_,_,o,_,_,e,ex,_⟩:=I.hok p _ B;show#[o,e,ex];obtain⟨_,_,_,_,o,_,_,e,ex,_⟩:=I.hok p _ B;show#[o,e,ex]
  obtain⟨o,e,ex⟩:=z;show#[#[o,e,ex.1],λa J=>?_];cases J;show#[o,e,ex.2.1];obtain⟨o,_,_,_,e,ex,_⟩:=I.hok p _ B;show#[#[o,e,ex.1],λa J=>?_];cases J;show#[o,e,ex.2.1]
 | _=>show False.elim ty
def tBM (K:AH)(T:String)(r:V->AT->Hp->VK->Prop)(to:TE)(t:TA):TE:=λG H Q=>to G H λx H1=>tyV K T x H1/\t G H1 λxs H2=>r x xs H2 Q
variable{o:Expr}{t:TA}{T id:String}{r:V->AT->Hp->VK->Prop}
def Kl (pa:PlainAttrs T)(O:Slot T name id)(Y:typeOf (.builtin id)=pure (.type "method_descriptor"))(hm:MtR X id r)(ho:PE X o to)(ha:PA X (e::es) t)(F:attributeBase o name X.env (eval o X.env)=eval o X.env:=by rfl)(U:((backTo cpos (starEach (e::es) X.env)).all (λx=>!x.1)&&(backToKw cpos (keywordEach [] X.env)).all (λx=>x.1.isSome)
   && decide ((e::es).length+([]:List Keyword).length+(if ([]:List Keyword).isEmpty then 0 else 1)<30))=true:=by rfl)(J:(apos.endLine==cpos.line)=true:=by rfl)(hs:gy e es X:=by rfl)(B:iI cpos es X:=by rfl):
  PE X (.Call (.Attribute o name apos) (e::es) [] cpos) (tBM X.K T r to t):=by
 intro A6 s G H Q I h;show wpAny_Call_method_late F U J A5 (thn (ho A6 s G H _ I h) ?_);rintro v s1 ⟨x,H1,I1,r1,ty,q1⟩;obtain⟨h1,h2⟩:=QK I1 r1 ty;show#[T,id,pa,O,Y,h1,h2,?_];have hA:=ha cpos A6 s1 G H1 _ I1 q1;rw[hs] at hA ⊢;show Calls.callWith_builtin (by change (false || (backTo cpos (starEach es X.env)).any (·.1))=false;rw[B] <;> rfl) (Calls.evalArgs_plain ?_);show thn hA<|by rintro us s2 ⟨vs,H2,I2,r2,q2⟩;show hm A6 s2 G H2 x vs v us Q I2 r1 r2 q2
end
def MtM (X:Cx)(id:String)(r:V->AT->Hp->VK->Prop):Prop:=
 ∀ (A6:AB) (s:AZ) (G:St) (H:Hp) (x:V) (xs:AT) (v:Value) (us:AN) (Q:VK),Inv X A6 G H s->ye x v->yf xs us->r x xs H Q->
  Af X (call (.builtin id) (v::us)) (EP X A6 G Q) X.xe s
theorem yf.one:∀ {x:V} {us:AN},yf [x] us->∃u,us=[u]/\ye x u
 | _,_,.cons r .nil=>#[_,A5,r]
section
variable{l b:Addr}{xs ys zs:AT}
def Inv.lset{B its':AN}{f:AK->AK}(I:'&')(F:H l=some '+')(e:s.heap.get? l=some { cls:=.type "list",data:=.seq B.toArray n })(hf:f B.toArray=its'.toArray)(J:yf ys its')(O:ys.length<=sizeLine):
  Inv X A6 G (upd H l (.lst ys)) { s with heap:=s.heap.update l (Obj.mapSeq f),toks:=t' }:=by
 have q:=PySem.IsL.update e f;rw[hf] at q;show I.write (x:=l) (e:=l) (by rw[F];show trivial) (.inl A5) (λb' u U Y=>(cb s.heap (Obj.mapSeq f) (Ne.symm U)).trans Y) #[_,q] ?_;show#[O,its',_,J,q]
def Inv.lstM (I:'&')(F:Rd H l '+'):xs.length<=sizeLine/\∃B n,yf xs B/\xs.length=B.length/\s.heap.get? l=some { cls:=.type "list",data:=.seq B.toArray n }:=by obtain⟨z,B,n,r,e⟩:=(show zJ X.prog X.w H s.heap l '+' from F.ok I.hok);show#[z,B,n,r,r.length,e]
def QL(h:n<=sizeLine):Builtin.List.listTooLong n=false:=by
 unfold Builtin.List.listTooLong;right
def Gq:V->AT->Hp->VK->Prop:=λx vs H Q=>∃l xs y,x = .ref l/\vs=[y]/\H l=some '+'/\xs.length<sizeLine/\Q .non (upd H l (.lst (xs++[y])))
def Km:MtM X "list.append" Gq:=by intro A6 s G H x vs v us Q I O U h;obtain⟨l,xs,y,rfl,rfl,J,hz,q⟩:=h;cases O;obtain⟨u,rfl,Y⟩:=U.one;obtain⟨z,B,n,r,hl,e⟩:=I.lstM (.inl J);show call_meets F.slot_list_append #[_,e,A5] F.entry_list_append (F.args_list_append_2 _ _) (PySem.list_append l B.toArray n u (by grind)) #[e,?_];show#[.non,_,I.lset (its':=B++[u]) J e '$' (r.append (.cons Y .nil)) ?_,A5,q];rw[ay,List.length_singleton];lia
def QM:V->AT->Hp->VK->Prop:=λx vs H Q=>∃l b xs zs,x = .ref l/\vs=[.ref b]/\H l=some '+'/\Rd H b (.lst zs)/\xs.length+zs.length<=sizeLine/\Q .non (upd H l (.lst (xs++zs)))
def QN:MtM X "list.extend" QM:=by
 intro A6 s G H x vs v us Q I Y rv h;obtain⟨l,b,xs,zs,rfl,rfl,U,hB,hz,q⟩:=h;cases Y;obtain⟨u,rfl,ru⟩:=rv.one;cases ru;obtain⟨z,J,n,r,hl,e⟩:=I.lstM (.inl U);obtain⟨z2,B,n2,r2,ab,e2⟩:=I.lstM hB;have hsz:J.toArray.size+B.toArray.size<=sizeLine:=by rw[aU,aU];lia
 have O:¬ (!J.toArray.isEmpty&&Builtin.List.listTooLong (J.toArray.size+B.toArray.size))=true:=by
  rw[QL hsz,Bool.and_false];grind
 show call_meets F.slot_list_extend #[_,e,A5] F.entry_list_extend (F.args_list_extend_2 _ _)
  (AutoSeq1.list_extend_list_list_0 l J.toArray n b B.toArray n2 O '!' '!') #[e,e2,?_]
 show#[.non,_,I.lset (its':=J++B) U e '$' (r.append r2) ?_,A5,q];right
end
end L2
variable{th:L2.TO}
namespace Att
open PySem.W PySem.Calls PyProof.Rows
def QQ:∀ns vs,WellAll P h vs (ns.map WData.int)->IntsAre vs ns:=by
 intro ns
 induction ns with
 | nil=>
  intro vs w;rw[List.map_nil] at w;cases w;show .nil
 | cons n ns B=>
  intro vs w;rw[List.map_cons] at w
  cases w with
  | cons a b=>
   cases a;show .cons _ _ (B _ b)
def QR{l:OpenLaw}(hn:l.most=some n){P:Params}{h:Heap}{B:AN}(F:l.row.toRowW.claim.pre args=true)(O:WellAll P h B args):
  ∃a vs ns,B=[Value.ref a]/\args=[WData.list (ns.map WData.int)]/\h.get? a=some { cls:=.type "list",data:=.seq vs.toArray }/\IntsAre vs ns/\ns.length<=n:=by
 have U:WShape.hasAll [] args [.list .int]=true:=(pre_splitW F).1;have Y:l.pre.holds [] { args:=args }=true:=(pre_splitW F).2;obtain⟨d,r,rfl,h1,h2⟩:=hasAllW_cons U;obtain rfl:=hasAllW_nil h2;obtain⟨xs,rfl,h3⟩:=hasW_list h1;obtain⟨ns,rfl⟩:=items_int h3
 have I:ns.length<=n:=by
  unfold OpenLaw.pre at Y
  have h4:(WTm.not (.lt (.lit (.int (n:Int))) (.len (.arg 0)))).holds [] { args:=[.list (ns.map .int)] }=true:=by
   have h4:=(holds_andW Y).1;right
  have h5:=condW_of h4 (w_not (w_lt w_lit (w_len_list (w_arg A5))));grind
 cases O with
 | cons w1 w2=>
  cases w2
  cases w1 with
  | list ho J=>show#[_,_,ns,A5,A5,ho,QQ ns _ J,I]
def QU (l:OpenLaw)(args:List WData):l.row.toRowW.claim.post args (.bool true) args=true:=
 postW_of (r:=l.row.toRowW) (X:=(true==true))
  (show WShape.has [] (.bool true) .bool=true by first | rfl | decide | simp[WShape.has,WShape.arms,WShape.armsAll])
  (show (WTm.eq .res (.lit (.bool true))).value [] { args:=args,res:=some (.bool true),after:=args }=some (.bool (true==true)) from w_eq_bool (w_res A5) w_lit) A5
def attach_call{l:OpenLaw}{q:Aa}{F:AM}{d:DefRec}(hn:l.most=some n)(ag:d.params.defaults=[])(U:∀w I B mg mb fa o pm cd J a vs ns,
   Ground q F [] XP w I mg mb B.heap->YP w B.heap->
   B.heap.get? fa=some o->o.data = .func (docDef d.name d.params d.body d.scope pm cd J)->B.heap.CodeRec cd d.name->mg d.name=some (.ref fa)->
   B.heap.get? a=some { cls:=.type "list",data:=.seq vs.toArray }->IntsAre vs ns->ns.length<=n->B.gens = #v[]->
   codeAny (model l.prog w) callerA (.call (.ref fa) #[[.ref a],[]]) (λr s'=>r = .ok (.ret (.bool true))/\OldK B.heap s'.heap/\s'.os=B.os/\AllBare s'.gens) B):
  WalkO q F XP YP l.row.toRowW d [] (λf vs=>PySem.call f vs):=by
 intro w I B mg mb BA Y fa o pm cd J dV kV ho hd al hD an hg args a1 as ab a2 a3 a0 a4;obtain rfl:dV = .none:=Dflts.none hD ag;obtain rfl:kV = .none:=Dflts.noKw hD;obtain⟨a,vs,ns,rfl,rfl,ac,O,ad⟩:=QR hn ab a0;show enter_call (codeAny_mono (U w I B mg mb fa o pm cd J a vs ns BA Y ho (fd_plain hd) al an ac O ad hg) λr s' hq=>?_);obtain⟨rfl,h2,h3,h4⟩:=hq;show#[.inl #[.bool true,.bool true,[],A5,λ_=>rfl,.bool true,QU l _,λ_=>#[List.Pairwise.nil,λ_ hm=>(nomatch hm)]],h2,h3,h4]
def ledger (h:Heap)(L d:Addr):AB:=(List.range h.objs.size).filterMap λa=>if a=L\/a=d then none else (h.get? a).map λo=>(a,o)
end Att
namespace L2
open PyProof.Rows
theorem Ko:∀ {vs:AN} {ns:AG},IntsAre vs ns->yf '4' vs
 | _,_,.nil=>.nil
 | _,_,.cons n t h=>.cons #[t,A5] (Ko h)
def yH (s:Stmt):Arguments:=match s with
 | .FunctionDef _ a _ _ _ _ _ _ _ _=>a
 | _=>{ posonlyargs:=[],args:=[],vararg:=none,kwonlyargs:=[],kw_defaults:=[],kwarg:=none,defaults:=[] }
def zE (s:Stmt):List Stmt:=match s with
 | .FunctionDef _ _ b _ _ _ _ _ _ _=>b
 | _=>[]
def zb (s:Stmt):Scope:=match s with
 | .FunctionDef _ _ _ _ _ _ B _ _ _=>B
 | _=>{ kind:=.function,names:=[],isGenerator:=false,isCoroutine:=false }
abbrev CX0:CXT:=λ_ _ _ _ _ _=>False
abbrev E0:XK:=λ_ _ _=>False
def Kp:Ey CX0 X E0:=λ_ _ _ _ _ _ _ h=>h.elim
structure Fun (K:AH)(x qual:Str)(st:Stmt)(f:Addr)(fd:Ac):Prop where
 ex:∃ (oc:Value) (od:Option Addr) (kV doc pm:Value) (an:Option Addr) (cdv ct:Value) (osl:Array AJ),
  fd=PySem.W.fnOf x qual (yH st) (zE st) (zb st) .none kV doc pm an cdv ct/\K.lookup f=some #[oc,od,.func fd,osl]/\PySem.W.codeIn K cdv qual=true
 kp:PySem.W.keepIn K (.ref f)=true
section
variable{P:Aa}{mg:AI}
def Fun.ok{x:Str}{st:Stmt}{f:Addr}(F:Fun K x qual st f fd)(S:FnScope N ps (zb st))(J:∀vs H Q E,sp vs H Q E->vs.length=ps.length)(I:∀B A outer s H vs Q E,Room k (A.deeper (envOfC qual (zb st) s.heap.objs.size f B))->sp vs H Q E->
   ∃t,PSs '='.nox (zE st) t/\t { nx:=λ_ H'=>Q .non H',rt:=Q } (yS N vs) H):FnOk P w K mg base CX0 (k+1) f fd ps sp:=by
 obtain⟨oc,od,kV,Y,pm,an,B,ct,ab,rfl,lk,O⟩:=F.ex;show Ez lk O S J λA outer s H vs Q E hr U=>?_;obtain⟨t,h,q⟩:=I B A outer s H vs Q E hr U;show#[t,h.nox,q]
def Fun.binds{x:Str}{st:Stmt}{f:Addr}(F:Fun K x qual st f fd)(h:∀kV B J O I ct us,us.length=ps.length->bindArgs (PySem.W.fnOf x qual (yH st) (zE st) (zb st) .none kV B J O I ct) #[us,[]]=pure (ps.zip us)):BY K fd ps []:=by
 obtain⟨oc,od,kV,B,J,O,I,ct,U,rfl,lk,Y⟩:=F.ex;show .all (h kV B J O I ct)
def Kq{x:Str}{st:Stmt}{f:Addr}{Y J:Option Addr}{kV F O B:Value}(l:K.lookup f=some #[U,Y,.func (PySem.W.fnOf x qual (yH st) (zE st) (zb st) .none kV F O J B ct),I])(c:PySem.W.codeIn K B qual=true)(k:PySem.W.keepIn K (.ref f)=true):Fun K x qual st f (PySem.W.fnOf x qual (yH st) (zE st) (zb st) .none kV F O J B ct):=#[#[U,Y,kV,F,O,J,B,ct,I,A5,l,c],k]
end
def C6(B:Room k A):A.units+1<cLine:=bR (Nat.add_le_add_left (by decide:1<=64) _) B.units
def Kr(h:n<=1000):n<sizeLine:=bR h '#'
def pv (i:Nat){x:Str}{pos:Pos}(F:X.N[i]?=some x:=by rfl)(I:Vis X.env.scope x:=by fail"v")(J:Ah x:=by ext)(B:h_ x:=by ext):PE X (.Name x pos) (BX i):=FZ F I J B
def iteF{A B:Prop}(h:B):if false=true then A else B:=by grind
def iteT{A B:Prop}(h:A):if true=true then A else B:=by grind
def EE{c A B:Prop}[Decidable c](h1:c->A)(h2:¬ c->B):if c then A else B:=by grind
def yL (H H':Hp):Prop:=∀b o,H b=some o->H' b=some o
def yL.seq{a:Addr}(e:yL H H')(h:SqL K H a xs):SqL K H' a xs:=by
 rcases h with (h | ⟨o,h⟩) | h;show .inl (.inl (e _ _ h));show .inl (.inr #[o,e _ _ h]);show .inr h
section
variable [DecidableEq κ]
def QV:Ck X (.builtin "isinstance") (λxs H Q=>∃x T t b,xs=[x,.ty T]/\TyOf X.K H x t/\PySem.W.kitOne X.K t (.type T)=some b/\Q (.bl b) H):=by intro A6 s G H xs us Q I r h;obtain⟨x,T,t,b,rfl,ty,e,q⟩:=h;obtain⟨u,c,rfl,B,F⟩:=DA r;cases F;show P0 I B ty e λtk=>#[.bl b,H,I.tok tk,A5,q]
def DD (K:AH):R2:=λx y H Q=>∃a b xs ys,x = .ref a/\y = .ref b/\H a=some (.tup xs)/\H b=some (.tup ys)/\xs.length+ys.length<=sizeLine/\
 ∀p H',H' p=some (.tup (xs++ys))->yL H H'->Q (.ref p) H'
def QX:OpR X (binaryOp .Add) (DD X.K):=by
 intro A6 s G H x y v u Q I rx ry h;obtain⟨a,b,xs,ys,rfl,rfl,ha,Y,hz,q⟩:=h;by_cases hx:xs=[]
 ·subst hx;cases rx;cases ry;obtain⟨B,r1,p1,_⟩:=I.tuple (.of ha);obtain⟨F,r2,p2,_⟩:=I.tuple (.of Y);obtain⟨⟨cls,dd,data,sl⟩,ho,hc,n,hd⟩:=id p1;obtain⟨⟨ag,ab,ac,ad⟩,J,O,n2,U⟩:=id p2;simp only at hc hd O U;subst hc hd O U;have hi:B=[]:=r1.nil_iff.mpr A5
  show concat_meets #[_,ho,A5] #[_,J,A5] iw seq_tuple_add fD eS (eP _ _)
   (tuple_addW0 a b B.toArray F.toArray n n2 dd ab sl ad (by simp[hi])) #[ho,J,#[.ref b,H,I,A5,q b H Y λ_ _ e=>e]]
 show Qs A6 s G H _ _ v u Q I rx ry #[a,b,xs,ys,A5,A5,.of ha,.of Y,hx,hz,λe=>?_,λe p hp=>?_];subst e;show q a H (by right) λ_ _ e=>e;show q p _ zg λc o e=>by rw[zc (ze e hp)];show e
end
end L2
namespace HT
open PyProof.Rows
section
variable{A:Ae}
def getItem_tuple_whole{lo:AQ}(F:IsTup s.heap t B)(hs:s.heap.IsSliceOf J vl vu .none)(pl:IsPart vl lo)(pu:IsPart vu hi)(hw:sIx B.size 0 lo=0/\sIx B.size B.size hi=B.size)(h:Q (.ref t) s)(hsz:B.size<=sizeLine):Ag prog w A (getItem (.ref t) (.ref J)) Q E s:=by
 obtain⟨os,O,U,ab⟩:=id hs;have Y:s.TypeIs (.ref J) "slice" := #[os,O,U];unfold getItem;try with_reducible show wpAny_holding ?_
 first | show wpAny_bind (wpAny_pure ?_) | skip
 show wpAny_bind (wpAny_sequenceKey F.typeIs '#' ?_)
 show wpAny_bind (wpAny_callSpecial?_slot (name:=Str.ofString "__getitem__") F.typeIs PyProof.Rows.slot_tuple_getitem
  (wpAny_call_entry PyProof.Rows.slot_tuple_getitem F.typeIs entry_tuple_getitem ?_ (args_tuple_getitem _ _)))
 change wpAny _ _ (Builtin.Tuple.tupleItemsOf (.ref t) >>= _) _ _ s;show wpAny_bind (tupleItemsOf_ F ?_);show wpAny_bind (wpAny_typeOf Y ?_);rw[if_pos '#'];show wpAny_bind (uo hs pl pu ?_);have I:(((sIx B.size 0 lo:Nat):Int)==0&&(1:Int)==1&&(sIx B.size B.size hi-sIx B.size 0 lo)==B.size)=true:=by right
 change wpAny _ _ (if (((sIx B.size 0 lo:Nat):Int)==0&&(1:Int)==1&&(sIx B.size B.size hi-sIx B.size 0 lo)==B.size)=true then _ else _) _ _ s;rw[if_pos I];unfold Builtin.Tuple.tupleIsExact;show wpAny_bind (wpAny_bind (wpAny_typeOf F.typeIs ?_));show wpAny_pure ?_;rw[if_pos '#'];show wpAny_bind (wpAny_rule ?_);show wpAny_pure #[_,A5,wpAny_pure h]
end
end HT
namespace L2
open PyProof.Rows
section
def rSlA:V->AQ->AQ->Hp->VK->Prop:=λx lo hi H Q=>∃a xs,x = .ref a/\H a=some (.tup xs)/\∀p H',H' p=some (.tup (Bj xs lo hi))->yL H H'->Q (.ref p) H'
def QY:SlR X rSlA:=by
 intro A6 s G H x v vl vu lo hi sl Q I J hs pl O h;obtain⟨a,xs,rfl,U,q⟩:=h;by_cases Y:HT.sIx xs.length 0 lo=0/\HT.sIx xs.length xs.length hi=xs.length;cases J;obtain⟨F,r,ht,hz⟩:=I.tuple (.of U);have B:F.toArray.size=xs.length:=by rw[aU];show r.length.symm
 show#["tuple",_,PyProof.Rows.slot_tuple_getitem.lookup,ht.typeIs,?_];show HT.getItem_tuple_whole ht hs pl O (by rw[B];show Y) #[.ref a,H,I,A5,q a H ?_ λ_ _ e=>e] (by rw[B];show hz);unfold Bj;grind;show Qq A6 s G H _ v vl vu lo hi sl Q I J hs pl O #[a,xs,A5,.of U,Y,λp hp=>q p _ zg λc o e=>by rw[zc (ze e hp)];show e]
inductive Dt where
 | non | bl (b:Bool) | int (i:Int) | str (x:Str) | tup (l:List Dt) | lst (l:List Dt) | dct
abbrev AS:=List Dt
mutual
def Is (H:Hp):Dt->V->Prop
 | .non,v=>v = .non
 | .bl b,v=>v = .bl b
 | .int i,v=>v = .int i
 | .str x,v=>v = .str x
 | .tup l,v=>∃a xs,v = .ref a/\H a=some (.tup xs)/\IsL H l xs
 | .lst l,v=>∃a xs,v = .ref a/\Rd H a (.lst xs)/\IsL H l xs
 | .dct,v=>∃a A7,v = .ref a/\H a=some (.dK A7)/\A7=[]
def IsL (H:Hp):AS->AT->Prop
 | [],xs=>xs=[]
 | d::ds,xs=>∃x r,xs=x::r/\Is H d x/\IsL H ds r
end
def kO (d:Addr)(ob:Obj):HO:=.ext λh=>h.get? d=some ob
open Classical in
@[reducible] noncomputable def pnK:HO->Option (List (Key×V))
 | .dK A7=>some A7
 | .ext B=>if (∃d ob,(∃h:Heap,h.get? d=some ob)/\B=λh=>h.get? d=some ob) then some [(Sum.inr "at",.non)] else none
 | _=>none
def zq (H H':Hp):Prop:=∀b o,H b=some o->(∀A7,pnK o=some A7->Be A7 (Sum.inr "at" : Key)=none)->H' b=some o
def zq.refl (H:Hp):zq H H:=λ_ _ e _=>e
def zq.trans(a:zq H H1)(b:zq H1 H2):zq H H2:=λc o e n=>b c o (a c o e n) n
def zq.same(a:yL H H1):zq H H1:=λc o e _=>a c o e
def zq.upd{p:_}(h:H p=none):zq H (upd H p o):=λc u e _=>by rw[zc (ze e h)];show e
def yL.upd{p:_}(h:H p=none):yL H (upd H p o):=λc u e=>by rw[zc (ze e h)];show e
def zq.tup{p:_}(a:zq H H1)(h:H p=some (.tup xs)):H1 p=some (.tup xs):=a _ _ h λ_ e=>by cases e
def zq.rdl{p:_}(a:zq H H1)(h:Rd H p '+'):Rd H1 p '+':=h.imp (λh=>a _ _ h λ_ e=>by cases e) λ⟨o,h⟩=>#[o,a _ _ h λ_ e=>by cases e]
def Rd.same{u:HO}{p:Addr}(h:Rd H p u)(a:yL H H1):Rd H1 p u:=h.imp (a _ _) λ⟨o,h⟩=>#[o,a _ _ h]
def zq.lst{p:_}(a:zq H H1)(h:H p=some '+'):H1 p=some '+':=a _ _ h λ_ e=>by cases e
mutual
theorem Is.stay {H H1:Hp}(a:zq H H1):∀ {d:Dt} {v:V},Is H d v->Is H1 d v
 | .non,_,h=>h
 | .bl _,_,h=>h
 | .int _,_,h=>h
 | .str _,_,h=>h
 | .tup l,v,h=>by obtain⟨p,xs,e,hp,hl⟩:=h;show#[p,xs,e,a.tup hp,IsL.stay a hl]
 | .lst l,v,h=>by obtain⟨p,xs,e,hp,hl⟩:=h;show#[p,xs,e,a.rdl hp,IsL.stay a hl]
 | .dct,v,h=>by obtain⟨p,A7,e,hp,hl⟩:=h;show#[p,A7,e,a _ _ hp λkvs' e=>by cases e;subst hl;rfl,hl]
theorem IsL.stay {H H1:Hp}(a:zq H H1):∀ {ds:AS} {xs:AT},IsL H ds xs->IsL H1 ds xs
 | [],_,h=>h
 | d::ds,xs,h=>by obtain⟨x,r,e,h1,h2⟩:=h;show#[x,r,e,Is.stay a h1,IsL.stay a h2]
end
theorem IsL.length:∀ {ds:AS} {xs:AT},IsL H ds xs->xs.length=ds.length
 | [],_,h=>by cases h;rfl
 | d::ds,xs,h=>by obtain⟨x,r,rfl,_,h2⟩:=h;rw[aS,aS,IsL.length h2]
theorem IsL.get:∀ {ds:AS} {xs:AT} {i:Nat} {x:V},IsL H ds xs->xs[i]?=some x->∃d,ds[i]?=some d/\Is H d x
 | [],_,_,_,h,e=>by cases h;simp at e
 | d::ds,xs,i,x,h,e=>by
  obtain⟨y,r,rfl,h1,h2⟩:=h
  cases i with
  | zero=>simp at e;subst e;show#[d,A5,h1]
  | succ i=>
   obtain⟨d',B,F⟩:=IsL.get (i:=i) (x:=x) h2 (by simpa using e);right
theorem IsL.getD:∀ {ds:AS} {xs:AT} {i:Nat} {d:Dt},IsL H ds xs->ds[i]?=some d->∃x,xs[i]?=some x/\Is H d x
 | [],_,_,_,_,e=>by simp at e
 | d::ds,xs,i,x,h,e=>by
  obtain⟨y,r,rfl,h1,h2⟩:=h
  cases i with
  | zero=>simp at e;subst e;show#[y,A5,h1]
  | succ i=>
   obtain⟨d',B,F⟩:=IsL.getD (i:=i) (d:=x) h2 (by simpa using e);right
theorem IsL.append:∀ {ds es:AS} {xs ys:AT},IsL H ds xs->IsL H es ys->IsL H (ds++es) (xs++ys)
 | [],_,_,_,h,k=>by cases h;show k
 | d::ds,es,xs,ys,h,k=>by obtain⟨y,r,rfl,h1,h2⟩:=h;show#[y,r++ys,A5,h1,IsL.append h2 k]
theorem IsL.take:∀ {ds:AS} {xs:AT} (n:Nat),IsL H ds xs->IsL H (ds.take n) (xs.take n)
 | _,_,0,_=>by simp[IsL]
 | [],_,n+1,h=>by cases h;simp[IsL]
 | d::ds,xs,n+1,h=>by obtain⟨y,r,rfl,h1,h2⟩:=h;show#[y,r.take n,A5,h1,IsL.take n h2]
theorem IsL.drop:∀ {ds:AS} {xs:AT} (n:Nat),IsL H ds xs->IsL H (ds.drop n) (xs.drop n)
 | _,_,0,h=>h
 | [],_,n+1,h=>by cases h;simp[IsL]
 | d::ds,xs,n+1,h=>by obtain⟨y,r,rfl,h1,h2⟩:=h;show IsL.drop n h2
def IsL.one(h:Is H d x):IsL H [d] [x]:=#[x,[],A5,h,A5]
theorem IsL.ints:∀ {ns:AG},IsL H (ns.map .int) (ns.map .int)
 | []=>rfl
 | n::ns=>#[_,_,A5,A5,IsL.ints]
theorem IsL.of_ints:∀ {ns:AG} {xs:AT},IsL H (ns.map .int) xs->xs=ns.map .int
 | [],_,h=>h
 | n::ns,xs,h=>by obtain⟨y,r,rfl,h1,h2⟩:=h;cases h1;rw[IsL.of_ints h2];rfl
def Dt.ty:Dt->String
 | .non => "NoneType" | .bl _ => "bool" | .int _ => "int" | .str _ => "str" | .tup _ => "tuple" | .lst _ => "list" | .dct => "dict"
theorem Is.ty:∀ {d:Dt} {v:V},Is H d v->TyOf K H v (.type d.ty)
 | .non,_,h=>by cases h;show .non
 | .bl _,_,h=>by cases h;show .bl _
 | .int _,_,h=>by cases h;show .int _
 | .str _,_,h=>by cases h;show .str _
 | .tup l,v,h=>by obtain⟨p,xs,rfl,hp,B⟩:=h;show .tup hp
 | .lst l,v,h=>by obtain⟨p,xs,rfl,hp,B⟩:=h;show hp.elim .lst λ⟨_,hp⟩=>.frz hp
 | .dct,v,h=>by obtain⟨p,xs,rfl,hp,B⟩:=h;show .dK hp
abbrev Dt.isTup:Dt->Bool
 | .tup _=>true | _=>false
abbrev Dt.isLst:Dt->Bool
 | .lst _=>true | _=>false
abbrev Dt.isInt:Dt->Bool
 | .int _=>true | .bl _=>true | _=>false
abbrev Dt.isBl:Dt->Bool
 | .bl _=>true | _=>false
def Dt.isWhole:Dt->Bool
 | .int _=>true | _=>false
def QZ (K:AH)(d:Dt):PySem.W.kitOne K (.type d.ty) (.type "tuple")=some d.isTup:=by cases d <;> rfl
def Q0 (K:AH)(d:Dt):PySem.W.kitOne K (.type d.ty) (.type "int")=some d.isInt:=by cases d <;> rfl
def Q1 (K:AH)(d:Dt):PySem.W.kitOne K (.type d.ty) (.type "bool")=some d.isBl:=by cases d <;> rfl
end
def Bu (env:Env):List (Str×NameKind)->List (Str×Addr)->List (Str×Addr)
 | [],cs=>cs
 | x::r,cs=>Bu env r (if (x.2==NameKind.free)=true then (x.1,(env.cells.lookup x.1).getD 0)::cs else cs)
def Ks(h:∀x∈scope.names,x.2 = .free->∃c,env.cells.lookup x.1=some c):closureFor scope env=pure (Bu env scope.names []):=by
 have gen:∀ (names:List (Str×NameKind)) (cs:List (Str×Addr)),(∀x∈names,x.2 = .free->∃c,env.cells.lookup x.1=some c)->
   (forIn names cs (λx r=>match x with
    | (name,kind)=>if (kind==NameKind.free)=true then do let a <- cellOf env name;pure (ForInStep.yield ((name,a)::r)) else pure (ForInStep.yield r)):Sem (List (Str×Addr)))=pure (Bu env names cs):=by
  intro names
  induction names with
  | nil=>intro cs _;rfl
  | cons x r ih=>
   intro cs hh;obtain⟨n,k⟩:=x;rw[gA];by_cases hk:(k==NameKind.free)=true;obtain⟨c,hc⟩:=hh (n,k) aq (cG hk);have hc':env.cells.lookup n=some c:=hc;have e:cellOf env n=pure c:=by unfold cellOf;rw[hc']
   simp only[hk,if_true,e,pure_bind];rw[ih _ λy hy=>hh y (aj _ hy)];change pure _=pure (Bu env r (if (k==NameKind.free)=true then (n,(env.cells.lookup n).getD 0)::cs else cs));right;simp only[hk,pure_bind];have e2:Bu env ((n,k)::r) cs=Bu env r cs:=by change Bu env r (if (k==NameKind.free)=true then _ else cs)=_;rw[if_neg hk]
   right
 unfold closureFor;have:=gen scope.names [] h;simpa using this
theorem EF:∀ {names:List (Str×NameKind)} {cs:List (Str×Addr)} {x:Str} {c:Addr},(∀y∈names,y.2 = .free->∃c,env.cells.lookup y.1=some c)->(Bu env names cs).lookup x=some c->env.cells.lookup x=some c\/cs.lookup x=some c
 | [],_,_,_,_,h=>.inr h
 | (n,k)::r,cs,x,c,F,h=>by
  have B:=EF (names:=r) (x:=x) (c:=c) (λy I=>F y (aj _ I)) h;rcases B with B | B;show .inl B;by_cases J:(k==NameKind.free)=true;obtain⟨O,U⟩:=F (n,k) aq (cG J);grind;right
theorem Ku:∀ {names:List (Str×NameKind)} {cs:List (Str×Addr)} {x:Str},(∃c,cs.lookup x=some c)->∃c,(Bu env names cs).lookup x=some c
 | [],_,_,h=>h
 | (n,k)::r,cs,x,h=>by
  show Ku (names:=r) ?_;grind
theorem uO:∀ {names:List (Str×NameKind)} {cs:List (Str×Addr)} {x:Str},names.lookup x=some .free->∃c,(Bu env names cs).lookup x=some c
 | [],_,_,h=>by simp at h
 | (n,k)::r,cs,x,h=>by
  rw[List.lookup_cons] at h
  cases e:x==n with
  | true=>
   rw[e] at h;have h':some k=some NameKind.free:=h;cases h';show Ku (names:=r) ?_;right
  | false=>
   rw[e] at h;show uO (names:=r) h
theorem yA {env:Env}:∀ {names:List (Str×NameKind)} {x:Str} {k:NameKind},(∀y∈names,y.2≠.cell)->
  (names.map λ(n,k)=>if (k==NameKind.free&&env.scope.kind==.function&&env.kindOf n==some .cell) then (n,NameKind.cell) else (n,k)).lookup x=some k->(k = .cell\/k = .free)->names.lookup x=some .free
 | [],_,_,_,h,_=>by simp at h
 | (n,k)::r,x,B,F,h,J=>by
  have O:=@yA env r x B (λy I=>F y (aj _ I));grind
theorem xt {env:Env}:∀ {names:List (Str×NameKind)} {x:Str},names.lookup x=some .free->
  (names.map λ(n,k)=>if (k==NameKind.free&&env.scope.kind==.function&&env.kindOf n==some .cell) then (n,NameKind.cell) else (n,k)).lookup x=some .cell\/
  (names.map λ(n,k)=>if (k==NameKind.free&&env.scope.kind==.function&&env.kindOf n==some .cell) then (n,NameKind.cell) else (n,k)).lookup x=some .free
 | [],_,h=>by simp at h
 | (n,k)::r,x,h=>by
  have B:=@xt env r x;grind
def zk (X:Cx)(scope:Scope)(N:AM)(C:Addr)(s:AZ)(H:Hp)(ex:AY):Cx where
 prog:=X.prog
 w:=X.w
 K:=X.K
 mg:=X.mg
 base:=X.base
 A:=X.A
 N:=N
 s₀:=s
 H₀:=H
 env:=compEnvC scope (Bu X.env scope.names []) C X.env
 outer:=X.stack
 stack:=X.stack
 ex:=ex
 fn:=λ_=>false
 calm:=X.calm
 pn:=[]
 xe:=λ_ _=>False
def caps (XN:AM)(Xnames names:List (Str×NameKind))(N:AM)(A8:List '0'):Bool:=
 N.length==A8.length&&(names.all λy=>y.2 != .cell)&&((N.zip A8).all λp=>match p.2 with
  | none=>true
  | some i=>XN[i]?==some p.1&&names.lookup p.1==some .free&&(Xnames.lookup p.1==some .cell || Xnames.lookup p.1==some .free)) &&
 (names.all λy=>y.2 != .free || (Xnames.lookup y.1==some .cell || Xnames.lookup y.1==some .free))
def xw (G:St)(A8:List '0'):St:=A8.map λo=>match o with
 | none=>none
 | some i=>(G[i]?).join
structure CompOk (X:Cx)(scope:Scope)(N:AM)(A8:List (Option Nat)):Prop where
 kind:scope.kind = .function
 names:∀x∈scope.names,x.2 = .local->scope.names.lookup x.1=some .local
 caps:caps X.N X.env.scope.names scope.names N A8=true
section
def CompOk.cell (c:CompOk X scope N A8):∀y∈scope.names,y.2≠.cell:=λy B e=>by
 have h:=c.caps;unfold L2.caps at h;rw[aO,aO,aO] at h;have:=bu.mp h.1.1.2 y B;right
def CompOk.len (c:CompOk X scope N A8):N.length=A8.length:=by
 have h:=c.caps;unfold L2.caps at h;right
def CompOk.cells (c:CompOk X scope N A8)(B:X.Ok):∀x∈scope.names,x.2 = .free->∃a,X.env.cells.lookup x.1=some a:=λx F e=>by
 have h:=c.caps;unfold L2.caps at h;rw[aO] at h;have q:=bu.mp h.2 x F;rw[e] at q;have I:(X.env.scope.names.lookup x.1==some NameKind.cell || X.env.scope.names.lookup x.1==some NameKind.free)=true:=by simpa using q
 rcases Bool.or_eq_true_iff.mp I with q | q;show B.has _ (.inl (cG q));show B.has _ (.inr (cG q))
def CompOk.cap (c:CompOk X scope N A8){i:Nat}{x:Str}(h1:N[j]?=some x)(h2:A8[j]?=some (some i)):X.N[i]?=some x/\scope.names.lookup x=some .free/\(X.env.scope.names.lookup x=some .cell\/X.env.scope.names.lookup x=some .free):=by
 have h:=c.caps;unfold L2.caps at h;rw[aO,aO] at h;have B:(x,some i)∈N.zip A8:=by show az (i:=j) ?_;rw[List.getElem?_zip_eq_some];show#[h1,h2]
 grind
def Q2{fp:AY}{tk:Nat}{m:AI}(I:'&')(c:CompOk X scope N A8)(hf:∀b∈fp,Bq X A6 H b)(ab:∀b∈fp,b<s.heap.objs.size)(hn:h'.Ns s.heap.objs.size m)(hk:∀b o,s.heap.get? b=some o->h'.get? b=some o):
  Inv (zk X scope N s.heap.objs.size s H fp) [] (xw G A8) H { s with heap:=h',toks:=tk }:=by
 have ac:=c.cells I.ok
 have B:∀x a,(Bu X.env scope.names []).lookup x=some a->X.env.cells.lookup x=some a:=λx a e=>by
  rcases EF ac e with z | z;show z;simp at z
 show#[#[I.mod,c.kind,I.ok.glob,I.ok.blt,ak _,λx y a e1 e2=>I.ok.inj x y a (B x a e1) (B y a e2),λx hx=>?_,λx a z _=>absurd (show (false:Bool)=true from z) '#',I.ok.hd,I.ok.frames,.inl A5,
  λb J=>#[aY (ab b J),λx a e=>(hf b J).2.2.2.2.1 x a (B x a e)],I.bs,av I.ok.bsz I.sz,λb o e J=>?_,λb J z=>?_,I.stack,I.stkFree],
  I.os ▸ A5,I.bare,Un.kept hk,#[m,hn,λj x v h1 h2 h3=>?_],λx a e=>?_,I.hok.fresh (ak _),λx a e=>I.freeC x a (B x a e),λp hp=>absurd (show p∈([]:AB) from hp) '$',I.hok.kept hk,?_]
 have ad:((relabel scope X.env).names.lookup x=some .cell\/(relabel scope X.env).names.lookup x=some .free):=hx;rcases ad with z | z;show uO (yA c.cell z (.inl A5));show uO (yA c.cell z (.inr A5));rcases (hf b J).2.2.2.1 with z | z;show I.ok.noex b o e z;show absurd (aT (aw e) (av I.ok.bsz z)) (cI _);rcases au.mp (I.stkSub b z) with e | e;show (hf b J).2.1 e;show (hf b J).2.2.1 e;have ag:N[j]?=some x:=h1;unfold xw at h2;rw[aF] at h2
 cases e:A8[j]? with
 | none=>rw[e] at h2;cases h2
 | some o=>
  rw[e] at h2
  cases o with
  | none=>cases h2
  | some i=>
   have F:(G[i]?).join=some v:=bL h2
   have U:G[i]?=some (some v):=by
    cases q:G[i]? with
    | none=>rw[q] at F;cases F
    | some z=>rw[q] at F;have:z=some v:=F;rw[this]
   obtain⟨q1,q2,q3⟩:=c.cap ag e;obtain⟨m0,an,al⟩:=I.loc;obtain⟨u,ru,hu⟩:=al i x v q1 U (q3.elim (λz=>.inr (.inl z)) λz=>.inr (.inr z));show#[u,ru,.inr #[xt q2,?_]];rcases hu with ⟨z,_⟩ | ⟨_,a,ha,hcell⟩;have z':X.env.scope.names.lookup x=some .local:=z;right;obtain⟨a',Y⟩:=uO (env:=X.env) (cs:=[]) q2;have:a'=a:=by have:=(B x a' Y).symm.trans ha;show bL this
   subst this;obtain⟨oc,O,hd⟩:=hcell;show#[a',Y,oc,hk _ _ O,hd]
 obtain⟨v,oc,O,hd⟩:=I.cell x a (B x a e);show#[v,oc,hk _ _ O,hd];change (xw G A8).length=N.length;unfold xw;rw[af,c.len]
def Q3(x:HOk P w H h)(B:H a=none)(hs:Heap.SameBut a h h'):HOk P w H h':=λb o e=>by
 show (x b o e).stay (λc u F q=>(hs.2 c ?_).trans q) (λ_ q=>q) λ_ _ q=>q;grind
def Q4{U:St}(I:'&')(hf:∀b∈O,Bq X A6 H b)(I':Inv (zk X scope N s.heap.objs.size s H O) [] U H' s')(hs:Heap.SameBut s.heap.objs.size s'.heap F):
  Inv X A6 G H' { s' with heap:=F }:=by
 have Y:∀b o,s.heap.get? b=some o->b≠s.heap.objs.size:=λb o e=>aY (aw e);have u:=I'.base;show Inv.call' (ch:=O) I I'.os #[λb o e n B J=>?_,λb o e n B J=>?_,u.free,λb o e J=>?_,u.tups,u.frzs,u.tbls] (Q3 I'.hok I'.free hs) I'.bare λb B=>#[(hf b B).2.2.2.1,(hf b B).2.1,(hf b B).2.2.2.2.1,(hf b B).2.2.2.2.2];show (hs.2 b (Y b o e)).trans (u.keep b o e n B J);obtain⟨sl,q⟩:=u.slot b o e n B J;show#[sl,(hs.2 b (Y b o e)).trans q];obtain⟨o',q⟩:=u.there b o e J;show#[o',(hs.2 b (Y b o e)).trans q]
variable{A:Ae}{R:Result->AZ->Prop}
def Q5{acc:_}(I:Nat->AZ->Prop)(turn:∀n s,I n s->Ag prog w A (pyNext it) (λr s₁=>match r with
   | none=>R (.ok .next) s₁
   | some v=>Ag prog w A (letOwnedTupleGo target it v) (λ_ s₂=>Ag prog w A (assign target env v) (λ_ s₃=>
     Ag prog w A 'A' (λok s₄=>
      if ok=true then Ag prog w A (eval elt env) (λx s₅=>
       Ag prog w A (call (.builtin "list.append") [acc,x]) (λ_ s₆=>∃m,m<n/\I m s₆) '%' s₅) '%' s₄
      else ∃m,m<n/\I m s₄) '%' s₃) '%' s₂) '%' s₁) '%' s)(n:Nat)(h:I n s):
  codeAny '/' A (.compLoop (.ListComp elt ['9'] scope pos) 0 it acc env) R s:=by
 show dX A5 I (λn s hI=>?_) n h;show eJ ?_;rw[compTurn_list];show aa '?'
 cases r with
 | none=>show ae h₁
 | some v=>
  show aa (aE h₁ (λ_ s₂ h₂=>?_) λ_ _ h'=>h'.elim);show aa '>'
  cases ok with
  | false=>show ae #[A5,h₄]
  | true=>
   show aa (aa (aE h₄ (λx s₅ h₅=>aa (aE h₅ (λ_ s₆ h₆=>ae (ae #[A5,h₆])) λ_ _ h'=>h'.elim)) λ_ _ h'=>h'.elim))
end
def PTs (X:Cx)(ifs:AO)(t:TT):Prop:=
 ∀A6 s G H Q,Inv X A6 G H s->t G H Q->
  Af X (forIn ifs true λc r=>if r=true then do let ok <- isTrue c X.env (eval c X.env);pure (ForInStep.yield ok) else pure (ForInStep.yield r)) (TP X A6 G Q) X.xe s
def C7:TT:=λ_ H Q=>Q true H
def Q6:PTs X [] C7:=λA6 s G H Q I h=>wpAny_tests_nil #[H,I,h]
def Q7(h:PT X c t):PTs X [c] t:=λA6 s G H Q I q=>wpAny_tests_one (h A6 s G H Q I q)
def Q8 (wi:TI)(g:TG)(ti:TT)(te:TE)(A8:List '0'):TE:=λG H Q=>wi G H λJ H1=>∀acc,H1 acc=none->∃W:Nat->Nat->St->Hp->Prop,(∃m,W 0 m (xw G A8) (upd H1 acc (.lst [])))/\
 ∀i m F H',W i m F H'->(J.stop i H'/\Q (.ref acc) H')\/(J.go i H'/\∃N:St->Hp->Prop,(∀ I H2,N I H2->∃O,O<m/\W (i+1) O I H2)/\
  ∀x H2,J.yld i H' x H2->g x F H2 λB H3=>ti B H3 λU H4=>if U=true then te B H4 λv H5=>∃xs,H5 acc=some '+'/\xs.length<sizeLine/\N B (upd H5 acc (.lst (xs++[v]))) else N B H4)
def DE (g:TG)(ti:TT)(te:TE)(acc:Addr)(N:St->Hp->Prop)(x:V)(G:St)(H:Hp):Prop:=
 g x G H λB H3=>ti B H3 λF H4=>if F=true then te B H4 λv H5=>∃xs,H5 acc=some '+'/\xs.length<sizeLine/\N B (upd H5 acc (.lst (xs++[v]))) else N B H4
def Gs (M:Model)(A:Ae)(e:Expr)(k:Nat)(tg:Expr)(ifs:AO)(it acc:Value)(env:Env)(B:(AZ->Prop)->AZ->Prop):Prop:=
 ∀ (R:Result->AZ->Prop) (s:AZ) (I:Nat->AZ->Prop),(∀n s,I n s->wpAny M A (pyNext it) (λr s₁=>match r with
   | none=>R (.ok .next) s₁
   | some v=>wpAny M A (letOwnedTupleGo tg it v) (λ_ s₂=>wpAny M A (assign tg env v) (λ_ s₃=>
     wpAny M A 'A' (λok s₄=>
      if ok=true then B (λs'=>∃m,m<n/\I m s') s₄ else ∃m,m<n/\I m s₄) '%' s₃) '%' s₂) '%' s₁) '%' s)->
  ∀n,I n s->codeAny M A (.compLoop e k it acc env) R s
def Gu{it:Addr}{O:AY}{tn:Nat->Heap->Prop}{J:It}{g:TG}{tb:(St->Hp->Prop)->St->Hp->Prop}{B:(AZ->Prop)->AZ->Prop}{Fin:St->Hp->Prop}{R:Result->AZ->Prop}{W:Nat->Nat->St->Hp->Prop}{σ0:St}{H0:Hp}{s0:AZ}(L:Gs '5' X.A e k tg ifs (.ref it) (.ref acc) X.env B)(hc:X.calm=true)(xX:X.xe=λ_ _=>False)(T:Turn X.prog X.w X.K tg J O it tn)(f4:∀ {H':Hp},(∀b∈O,H' b=none)->∀b∈O,Bq X pl H' b)(hg:PG X tg g)(ht:PTs X ifs ti)(U:∀pl' s G H (Nx:St->Hp->Prop) (P:AZ->Prop),Inv X (pl++pl') G H s->tb Nx G H->(∀ F H' s',Inv X (pl++pl') F H' s'->Nx F H'->P s')->B P s)(ac:∀i n G H,W i n G H->(J.stop i H/\Fin G H)\/(J.go i H/\∃Nx:St->Hp->Prop,(∀ F H',Nx F H'->∃m,m<n/\W (i+1) m F H')/\∀x H',J.yld i H x H'->g x G H' λY H2=>ti Y H2 λb H3=>if b=true then tb Nx Y H3 else Nx Y H3))(fin:∀ G H s,Inv X pl G H s->Fin G H->R (.ok .next) s)(I0:Inv X pl σ0 H0 s0)(as:tn 0 s0.heap)(fr0:∀b∈O,H0 b=none)(w0:W 0 m0 σ0 H0):
  codeAny '5' X.A (.compLoop e k (.ref it) (.ref acc) X.env) R s0:=by
 show L R s0 (λn s'=>∃i F H',Inv X pl F H' s'/\tn i s'.heap/\(∀b∈O,H' b=none)/\W i n F H') ?_ m0 #[0,σ0,H0,I0,as,fr0,w0];rintro n s5 ⟨i,I,H5,I5,ad,al,w5⟩;rcases ac i n I H5 w5 with ⟨stop,qn⟩ | ⟨go,Nx,hN,step⟩
 ·show thn (T.done X A5 A5 A5 hc i pl s5 I H5 '%' I5 (f4 al) ad stop) ?_;rintro r s6 ⟨hr,I6⟩;subst hr;show fin I H5 s6 I6 qn
 show thn (T.item X A5 A5 A5 hc i pl s5 I H5 '%' I5 (f4 al) ad go) ?_;rintro r s6 ⟨u,hr,h6⟩;subst hr;show thn h6 ?_;rintro _ s7 ⟨x,H7,I7,r7,y7,ab,a0⟩;have I7':=I7.pinned (f4 a0) (T.obj _ _ ab);have a7:=hg _ s7 I H7 x u _ I7' r7 (step x H7 y7);rw[xX] at a7;show thn a7 ?_;rintro _ s8 ⟨an,H8,I8,q8⟩;have t8:=ht _ s8 an H8 _ I8 q8;rw[xX] at t8;show thn t8 ?_;rintro ok s9 ⟨H9,I9,q9⟩
 have ag:∀ F H' s',Inv X (pl++Dz O s7.heap) F H' s'->Nx F H'->∃m,m<n/\∃i F H',Inv X pl F H' s'/\tn i s'.heap/\(∀b∈O,H' b=none)/\W i m F H':=λF H' s' J' n'=>by
  obtain⟨m',hm,w'⟩:=hN F H' n'
  have pn:∀b∈O,∀o,s7.heap.get? b=some o->s'.heap.get? b=some o/\H' b=none:=λb U o e=>by
   have:=J'.pin (b,o) (a8 _ (a8 _ (F_ U e)));right
  show#[m',hm,i+1,F,H',J'.unpinned,T.keep _ _ _ ab λb U o e=>(pn b U o e).1,λb U=>?_,w'];obtain⟨o,e,_⟩:=T.obj _ _ ab b U;right
 cases ok with
 | false=>show ag _ _ _ I9 q9
 | true=>show U _ s9 an H9 _ _ I9 q9 ag
structure Inn (X X':Cx)(A6:AB)(G:St)(fp:AY)(C:Addr):Prop where
 pX:X'.prog=X.prog
 wX:X'.w=X.w
 KX:X'.K=X.K
 AX:X'.A=X.A
 cX:X'.calm=X.calm
 xX:X'.xe=λ_ _=>False
 lX:X'.env.locals=C
 f4:∀ {H':Hp},(∀b∈fp,H' b=none)->∀b∈fp,Bq X' [] H' b
 back:∀ {σ':St} {H':Hp} {s':AZ} {h'':Heap},Inv X' [] σ' H' s'->Heap.SameBut C s'.heap h''->Inv X A6 G H' { s' with heap:=h'' }
structure Opn (X:Cx)(scope:Scope)(A8:List (Option Nat))(Fam:Cx->Prop):Prop where
 kind:scope.kind = .function
 names:∀x∈scope.names,x.2 = .local->scope.names.lookup x.1=some .local
 cells:X.Ok->∀x∈scope.names,x.2 = .free->∃a,X.env.cells.lookup x.1=some a
 run:∀ (A6:AB) (G:St) (H3:Hp) (s3:AZ) (fp:AY) (Q:Env->AZ->Prop),Inv X A6 G H3 s3->(∀b∈fp,Bq X A6 H3 b)->(∀b∈fp,b<s3.heap.objs.size)->
  (∀X' cenv s4,Fam X'->Inn X X' A6 G fp s3.heap.objs.size->cenv.locals=s3.heap.objs.size->X'.env={ cenv with scope:=relabel scope X.env }->Inv X' [] (xw G A8) H3 s4->(∀b o,s3.heap.get? b=some o->s4.heap.get? b=some o)->Q cenv s4)->
  Af X (newFunctionEnv scope X.env.globals (Bu X.env scope.names []) [] X.env.qual none .none (some X.env)) Q X.xe s3
def uB{pos:Pos}{U:Sem Value}{o0:Addr->HO}{B:Cx->Addr->(AZ->Prop)->AZ->Prop}{tb:Addr->(St->Hp->Prop)->St->Hp->Prop}{g:TG}{Kk:It->Hp->Prop}(O:Opn X scope A8 Fam)(hc:X.calm=true)(a7:clausesOf e=#[tg,iter,ifs,0]::gs)(hs:gM iter X)(bb:∀ (R:Result->AZ->Prop) (s:AZ) (it acc:Value) (env:Env),codeAny '5' X.A (.compLoop e 0 it acc env) R s->Af X (pyIter it) (λbc s'=>codeAny '5' X.A (.compLoop e 0 bc acc env) R s') (notedBy '5' X.A env λx s'=>R (.error x) s') s->codeAny '5' X.A (.compStart e 0 it acc env) R s)(hL:∀X',Fam X'->∀it acc,Gs '8' X'.A e 0 tg ifs it (.ref acc) X'.env (B X' acc))(an:∀ (s:AZ) (Q:AA),Q (.ref s.heap.objs.size) { s with heap:=s.heap.push ob }->Af X U Q X.xe s)(bd:∀ {A6 G H s},Inv X A6 G H s->∀H',zJ X.prog X.w H' (s.heap.push ob) s.heap.objs.size (o0 s.heap.objs.size))(hi:PI X tg iter wi)(hg:∀X',Fam X'->PG X' tg g)(ht:∀X',Fam X'->PTs X' ifs ti)(Y:∀X',Fam X'->X'.prog=X.prog->X'.w=X.w->X'.A=X.A->X'.calm=true->X'.xe='%'->∀acc pl s G H (Nx:St->Hp->Prop) (P:AZ->Prop),Inv X' pl G H s->tb acc Nx G H->(∀ ab H' s',Inv X' pl ab H' s'->Nx ab H'->P s')->B X' acc P s)(I:'&')(h:wi G H Kk)(hK:∀J H1 acc,Kk J H1->H1 acc=none->∃W:Nat->Nat->St->Hp->Prop,(∃m,W 0 m (xw G A8) (upd H1 acc (o0 acc)))/\∀i n G H,W i n G H->(J.stop i H/\Fin acc H)\/(J.go i H/\∃Nx:St->Hp->Prop,(∀ ab H',Nx ab H'->∃m,m<n/\W (i+1) m ab H')/\∀x H',J.yld i H x H'->g x G H' λad H2=>ti ad H2 λb H3=>if b=true then tb acc Nx ad H3 else Nx ad H3))(as:∀acc C H5 s6,Bq X A6 H5 C->(∃m,s6.heap.Ns C m)->(∀ag,Heap.SameBut C s6.heap ag->Inv X A6 G H5 { s6 with heap:=ag })->Fin acc H5->compPost '5' X.A X.xe use Qp (.ref acc) C (.ok .next) s6):
  Af X (comprehension e scope X.env pos U false (eval iter X.env) use) Qp X.xe s:=by
 show wpAny_comprehension_free (use:=use) a7 hs (Ks (O.cells I.ok)) O.kind O.names (thn (hi A6 s G H _ I h) λxv s1 h1=>thn h1 λbm F h2=>?_);obtain⟨it,fp,tn,J,H2,e,I2,T,a0,f2,q2⟩:=h2;subst e;show an F _ ?_;have al:=I2.hok.fresh (ak F.heap.objs.size);obtain⟨W,⟨m0,w0⟩,a1⟩:=hK J H2 F.heap.objs.size q2 al;have a2:∀b o,F.heap.get? b=some o->(F.heap.push ob).get? b=some o:=λb u e=>ah _ e;have I3:Inv X A6 G (upd H2 F.heap.objs.size (o0 F.heap.objs.size)) { F with heap:=F.heap.push ob,toks:=F.toks }:=I2.laid (t':=F.toks) a2 (ak _) (bd I2 _);have a3:∀b∈fp,b<F.heap.objs.size:=λb Y=>by obtain⟨o,ho,_⟩:=T.obj _ _ a0 b Y;show aw ho
 have fn:∀b∈fp,upd H2 F.heap.objs.size (o0 F.heap.objs.size) b=none:=λb Y=>by rw[zc (aY (a3 b Y))];show (f2 b Y).1
 show O.run A6 G _ _ fp _ I3 (λb Y=>#[fn b Y,(f2 b Y).2]) (λb Y=>Nat.lt_trans (a3 b Y) '$') λX' bl s4 hF N hl hE I4 kp=>?_;rw[<- hE,hl];have a4:tn 0 s4.heap:=T.keep _ _ _ a0 λb Y o e=>kp b o (a2 b o e);have cX:=N.cX.trans hc;have ac:=Gu (X:=X') (R:=compPost '5' X.A X.xe use Qp (.ref F.heap.objs.size) (F.heap.push ob).objs.size) (Fin:=λ_ H=>Fin F.heap.objs.size H) (pl:=[]) (hL X' hF (.ref it) F.heap.objs.size) cX N.xX (by rw[N.pX,N.wX,N.KX];show T) N.f4 (hg X' hF) (ht X' hF) (Y X' hF N.pX N.wX N.AX cX N.xX F.heap.objs.size) a1 (λbo H5 s6 I6 q=>?_) I4 a4 fn w0;rw[N.pX,N.wX,N.AX] at ac;show bb _ _ _ _ _ ac (T.self X.A 0 _ _ _ a4 ac);have bk:H5 (F.heap.push ob).objs.size=none:=by have:=I6.free;rwa[N.lX] at this
 obtain⟨m6,a5,_⟩:=I6.loc;rw[N.lX] at a5;show as _ _ H5 s6 (I3.fpOk (ak _) bk) #[m6,a5] (λag hs=>N.back I6 hs) q
section
variable{z:Str}
def uJ (c:CompOk X scope N A8):Opn X scope A8 (λX'=>∃C s H ex,X'=zk X scope N C s H ex) where
 kind:=c.kind
 names:=c.names
 cells:=c.cells
 run:=λA6 G H3 U Y Q I3 f3 F k=>by
  show wpAny_newFunctionEnv c.cell '$' (λh4 J O=>?_) c.kind;have kp:∀b o,U.heap.get? b=some o->h4.get? b=some o:=λb o e=>O.extBut b o (aY (aw e)) (ah _ e);show k (zk X scope N U.heap.objs.size U H3 Y) _ _ #[_,_,_,_,A5] #[A5,A5,A5,A5,A5,A5,A5,λ{H'} hn b B=>#[hn b B,aY (F b B),λy=>?_,.inl B,λx a e=>?_,λp hp=>?_],λI' hs=>Q4 I3 f3 I' hs] A5 A5 (Q2 I3 c f3 F J kp) kp;rcases au.mp (I3.stkSub b y) with e | e;show (f3 b B).2.1 e;show (f3 b B).2.2.1 e;rcases EF (c.cells I3.ok) e with y | y;show (f3 b B).2.2.2.2.1 x a y;simp at y;show absurd (show p∈([]:AB)++[] from hp) '$'
def Gv{Q:VK}{H5:Hp}{F:AZ}(J:∃m,F.heap.Ns C m)(O:∀B,Heap.SameBut C F.heap B->Inv X A6 G H5 { F with heap:=B })(q:Q (.ref acc) H5):compPost '5' X.A X.xe none (EP X A6 G Q) (.ref acc) C (.ok .next) F:=
 let ⟨m,hn⟩:=J;#[m,hn,λU I=>#[.ref acc,H5,O U I,A5,q]]
def Kv{pos:Pos}{B first:Sem Value}{BB:Ends}(Y:X.N.Nodup)(ab:X.N[ix]?=some nx)(J:X.env.scope.names.lookup nx=some .local)(ac:swapsWithSole [.Name nx px] e spos.line X.env=pure true)(ad:(assignEach [.Name nx px] X.env).map (·.2)=[assign (.Name nx px) X.env])(ag:∀U,evalThenUse e X.env U=comprehension e scope X.env pos B false first (some U) >>= λ_=>pure ())(h:∀U Qp,(∀acc C H5 I,Bq X A6 H5 C->(∃m,I.heap.Ns C m)->(∀O,Heap.SameBut C I.heap O->Inv X A6 G H5 { I with heap:=O })->BB.nx (G.set ix (some (.ref acc))) H5->compPost '5' X.A X.xe (some U) Qp (.ref acc) C (.ok .next) I)->Af X (comprehension e scope X.env pos B false first (some U)) Qp X.xe s):
  Af X (exec (.Assign [.Name nx px] e spos) X.env) (SP X A6 BB) X.xe s:=by
 rw[exec_Assign_arm];show aa (bw ?_);rw[ac];show aa (ae ?_);rw[if_pos rfl];show aa ?_;rw[ag];show aa ?_;show h _ _ λacc C H5 I F hm al q=>?_;have IX:=al _ #[A5,λ_ _=>rfl];rw[ad];show wpAny_assign_Name (x:=nx) (pos:=px) ?_;show Jx IX Y ab (Or.inl J) (v:=.ref acc) A5 (λs7 I7 ⟨a7,an,as⟩=>?_) (.inr J)
 have a0:C≠a7:=by
  intro z;rcases as with e | e;show F.2.1 (z.trans e);show F.2.2.2.2.1 nx a7 e z.symm
 obtain⟨m6,oC,a1,a2,a3,rC⟩:=hm;show#[m6,#[oC,a1,a2,(an.2 _ a0).trans a3,rC],λh8 a4=>ae (ae ?_)];show#[_,H5,I7.turned (t':=s7.toks) (λb o hb e=>(a4.2 b hb).trans e) F.1 F.2.1 F.2.2.2.1 F.2.2.2.2.1 F.2.2.2.2.2,q]
variable{pos:Pos}{g:TG}
def Gw{P:AZ->Prop}(he:PE X elt te)(xX:X.xe=λ_ _=>False)(I:'&')(q:te G H λv H'=>∃xs,H' acc=some '+'/\xs.length<sizeLine/\Nx G (upd H' acc (.lst (xs++[v]))))(k:∀ B H' s',Inv X A6 B H' s'->Nx B H'->P s'):
  Af X (eval elt X.env) (λx s5=>Af X (call (.builtin "list.append") [.ref acc,x]) (λ_ s6=>P s6) '%' s5) '%' s:=by
 have e9:=he A6 s G H _ I q;rw[xX] at e9;show thn e9 ?_;rintro u2 J ⟨v,H10,I10,O,xs,U,Y,nx⟩;have F:=Km (X:=X) _ J G H10 (.ref acc) [v] (.ref acc) [u2] (λ_ H'=>Nx G H') I10 A5 (.cons O .nil) #[_,xs,v,A5,A5,U,Y,nx];rw[xX] at F;show thn F (by rintro _ ac ⟨_,H11,I11,_,ab⟩;show k _ _ _ I11 ab)
def Q9 (O:Opn X scope A8 Fam)(hc:X.calm=true)(hi:PI X tg iter wi)(hg:∀X',Fam X'->PG X' tg g)(ht:∀X',Fam X'->PTs X' ifs ti)(he:∀X',Fam X'->PE X' elt te)(hs:gM iter X)(I:'&')(h:wi G H λJ H1=>∀acc,H1 acc=none->∃W:Nat->Nat->St->Hp->Prop,(∃m,W 0 m (xw G A8) (upd H1 acc (.lst [])))/\∀i n G H,W i n G H->(J.stop i H/\Fin acc H)\/(J.go i H/\∃Nx:St->Hp->Prop,(∀ U H',Nx U H'->∃m,m<n/\W (i+1) m U H')/\∀x H',J.yld i H x H'->DE g ti te acc Nx x G H'))(Y:∀acc C H5 F,Bq X A6 H5 C->(∃m,F.heap.Ns C m)->(∀ab,Heap.SameBut C F.heap ab->Inv X A6 G H5 { F with heap:=ab })->Fin acc H5->compPost '5' X.A X.xe use Qp (.ref acc) C (.ok .next) F):
  Af X (comprehension (.ListComp elt [#[tg,iter,ifs,0]] scope pos) scope X.env ipos (newList []) false (eval iter X.env) use) Qp X.xe s:=
 uB (ob:={ cls:=.type "list",dict:=none,data:=.seq ([]:AN).toArray }) (o0:=λ_=>.lst []) (B:=λX' acc P s=>wpAny '8' X'.A (eval elt X'.env) (λx s5=>wpAny '8' X'.A (call (.builtin "list.append") [.ref acc,x]) (λ_ F=>P F) '%' s5) '%' s) (tb:=λacc Nx G H=>te G H λv H'=>∃xs,H' acc=some '+'/\xs.length<sizeLine/\Nx G (upd H' acc (.lst (xs++[v])))) O hc A5 hs (λ_ _ _ _ _ h0 h1=>fE h0 h1) (λ_ _ _ _ _ _ I ac n h=>Q5 I ac n h) (λs Q h=>bh h) (λ_ _=>#[aQ _,[],0,.nil,ar _ A5]) hi hg ht (λX' hF _ _ _ _ xX _ _ _ _ _ _ _ I q k=>Gw (he X' hF) xX I q k) I h (λJ H1 acc q hn=>q acc hn) Y
end
def A_{P:Cx->Prop}(h:∀C s H ex,P ')'):∀X',(∃C s H ex,X'=zk X scope N C s H ex)->P X':=by right
abbrev EG (X:Cx)(A6:AB)(G:St)(use:Option (Value->Sem Unit))(Qp:AA)(Q:VK):Prop:=∀acc C H5 F,Bq X A6 H5 C->(∃m,F.heap.Ns C m)->(∀B,Heap.SameBut C F.heap B->Inv X A6 G H5 { F with heap:=B })->Q (.ref acc) H5->compPost '5' X.A X.xe use Qp (.ref acc) C (.ok .next) F
structure Dfn (K:AH)(mg:AI)(x:Str)(st:Stmt)(ps:AM)(f:Addr)(fd:Ac):Prop where
 F:Fun K x x st f fd
 b:BY K fd ps []
 m:mg x=some (.ref f)
def Q_{x:Str}{st:Stmt}{f:Addr}{pos:Pos}(BB:Dfn X.K X.mg x st ps f fd)(BA:FnOk X.prog X.w X.K X.mg X.base CX0 j f fd ps sp)(O:Room k X.A)(U:PA X (e::es) t)(B:j<=k:=by ext)(Y:Gl X x:=by rfl)(I:Ah x:=by ext)(he:gy e es X:=by rfl)(J:iI pos es X:=by rfl):
  PE X '<' (Cz sp [] E0 t):=
 DB BA (O.mono B) Y BB.m BB.F.kp BB.b .nil Kp U I he J
def Ra{bs:List Bool}:((List.range bs.length).all λi=>bs.getD i true)=bs.all id:=by
 rw[bS,bu,bu];constructor;intro h b F;obtain⟨i,hi,e⟩:=cE.mp F;right;intro h i hi;have B:=aL.mp hi;have:=h bs[i] (bj B);right
def Rb (hc:X.calm=true):Ck X (.builtin "all") (λxs H Q=>∃ (p:Addr) (bs:List Bool),xs=[.ref p]/\Rd H p (.lst (bs.map V.bl))/\Q (.bl (bs.all id)) H):=by
 intro A6 s G H xs us Q I r h;obtain⟨p,bs,rfl,hp,q⟩:=h;obtain⟨u,rfl,ru⟩:=B9 r;cases ru;obtain⟨B,Y,pl,hz⟩:=I.list (.inl hp);have F:=Y.length;rw[af] at F;have W:Walks X.prog X.w X.A.in1 s.heap.objs.size [s.heap.objs.size,p] [s.heap.objs.size] B.toArray.size (λi v=>B.toArray[i]?=some v) (λi h=>h.IsListIter s.heap.objs.size p i/\h.IsList p B.toArray):=by show Walks.list (A:=X.A.in1) (I.ok.hd hc) s.heap.objs.size p ?_ B.toArray;obtain⟨o,_,ho,_⟩:=pl;show aY (aw ho)
 show call_all_walk (hZ pl.isList #[s.heap.objs.size,_,_,_,_,_,λi=>bs.getD i true,A5,W,#[?_,?_],?_,?_]);show#[_,ar _ A5,A5,A5];show pl.isList.at λo e=>ah _ e;intro i v s' Q' E' hP O;have U:B[i]?=some v:=by simpa using hP
 have hi:i<bs.length:=by grind
 have hb:(bs.map V.bl)[i]?=some (V.bl bs[i]):=by simp[hi]
 obtain⟨u',J,rb⟩:=Y.get hb;rw[U] at J;cases J;cases rb;have:bs.getD i true=bs[i]:=by simp[hi]
 dsimp only at O;rw[this] at O;show cU O;intro h' tk hk;have e:(List.range B.toArray.size).all (λi=>bs.getD i true)=bs.all id:=by rw[aU,<- F];show Ra
 rw[e];show#[.bl _,H,I.kept (t':=tk) λb o eb=>hk b o (by simp;show aY (aw eb)) (ah _ eb),A5,q]
structure QE (X:Cx)(e:Expr)(t:TE):Prop where
 run:PE X e t
structure QT (X:Cx)(e:Expr)(t:TT):Prop where
 run:PT X e t
structure QW (X:Cx)(e:Expr)(t:TT):Prop where
 run:PW X e t
structure QC (X:Cx)(op:CmpOp)(a b:Expr)(t:TE):Prop where
 run:PC X op a b t
structure QA (X:Cx)(es:AO)(t:TA):Prop where
 run:PA X es t
structure QS (X:Cx)(s:Stmt)(t:TS):Prop where
 run:PS X s t
structure QSs (X:Cx)(s:List Stmt)(t:TS):Prop where
 run:PSs X s t
structure QG (X:Cx)(e:Expr)(t:TG):Prop where
 run:PG X e t
structure QGs (X:Cx)(es:AO)(t:TGs):Prop where
 run:PGs X es t
structure QI (X:Cx)(tg e:Expr)(t:TI):Prop where
 run:PI X tg e t
structure QO (X:Cx)(e:Option Expr)(t:TO):Prop where
 run:PO X e t
structure QP (X:Cx)(pos:Pos)(ks:List (Option Expr))(vs:AO)(t:List (TE×TE)):Prop where
 run:PPs X pos ks vs t
structure QTs (X:Cx)(es:AO)(t:TT):Prop where
 run:PTs X es t
structure OpQ (X:Cx)(f:Value->Value->Sem Value)(r:R2):Prop where
 run:OpR X f r
structure UnQ (X:Cx)(f:Value->Sem Value)(r:V->Hp->VK->Prop):Prop where
 run:UnR X f r
structure CallQ (X:Cx)(f:Value)(r:AT->Hp->VK->Prop):Prop where
 run:Ck X f r
structure IxQ (X:Cx)(r:R2):Prop where
 run:IxR X r
structure SlQ (X:Cx)(r:V->AQ->AQ->Hp->VK->Prop):Prop where
 run:SlR X r
section
variable{a b:Expr}{ta tb tc:TE}{t u:TT}{pos:Pos}
def qv(i:Nat)(F:X.N[i]?=some x:=by rfl)(I:Vis X.env.scope x:=by fail"v")(J:Ah x:=by ext)(B:h_ x:=by ext):QE X (.Name x pos) (BX i):=#[FZ F I J B]
def yv{i:Int}:QE X (.Constant (.int i) j pos) (tC (.int i)):=#[Jy]
def Kw:QE X (.Constant (.bool k) j pos) (tC (.bl k)):=#[OQ]
def Kx:QE X (.Constant .none j pos) (tC .non):=#[OR]
def xE:QE X (.Constant (.str x) j pos) (tC (.str x)):=#[OS]
def Gx(B:Gl X x)(h:∃w,ye v w/\X.mg x=some w)(F:Ah x:=by ext):QE X (.Name x pos) (tC v):=by obtain⟨w,r,I⟩:=h;show#[OT B I r F]
def EH{w:_}(B:Gl X x)(F:X.mg x=none)(I:bootBuiltins x=some w)(r:ye v w)(J:x ≠ "__name__" := by ext)(O:Ah x:=by ext):QE X (.Name x pos) (tC v):=#[OU B F I r J O]
def yZ:OpQ X (binaryOp .Add) (rI0 λi j=>.int (i+j)):=#[Px]
def Rc:OpQ X (binaryOp .Sub) (rI0 λi j=>.int (i-j)):=#[Py]
def CC:OpQ X (binaryOp .Mult) (rI Cl λi j=>.int (i*j)):=#[Pz]
def Gy:OpQ X (binaryOp .FloorDiv) (rI CDiv λi j=>.int (i / j)):=#[PB]
def Ca:OpQ X (binaryOp .Mod) (rI (λ_ j=>0<j) λi j=>.int (i % j)):=#[PD]
def Gz:OpQ X (binaryOp .Pow) (rI CPow λi j=>.int (i ^ j.toNat)):=#[PF]
def yO:OpQ X (binaryOp .Add) (DD X.K):=#[QX]
def Ky:OpQ X (compareOp .Lt) (rI0 λi j=>.bl (decide (i<j))):=#[PK]
def EI:OpQ X (compareOp .LtE) (rI0 λi j=>.bl (decide (i<=j))):=#[PL]
def EJ:OpQ X (compareOp .Gt) (rI0 λi j=>.bl (decide (j<i))):=#[PM]
def Re:OpQ X (compareOp .GtE) (rI0 λi j=>.bl (decide (j<=i))):=#[PP]
def BZ:OpQ X (compareOp .Eq) rEq:=#[PH]
def B0:OpQ X (compareOp .NotEq) rNe:=#[PJ]
def Rf:OpQ X (compareOp .NotIn) (rIn X.K true):=#[QF]
def Rg:UnQ X (unaryOp .USub) (rU λi=>.int (-i)):=#[JN]
def y4(B:OpQ X (binaryOp op) r)(F:QE X a ta)(I:QE X b tb):QE X (.BinOp a op b pos) (tOp r ta tb):=#[Pw B.run F.run I.run]
def Rh(B:UnQ X (unaryOp op) r)(F:QE X a ta):QE X (.UnaryOp op a pos) (tUn r ta):=#[JM B.run F.run]
def Ri(B:OpQ X (compareOp op) r)(F:QE X a ta)(I:QE X b tb)(J:behindInMarks op b=false):QE X (.Compare a [op] [b] pos) (tOp r ta tb):=#[PQ B.run F.run I.run J]
def DF(B:OpQ X (compareOp op) r)(F:QE X a ta)(I:QE X b tb)(J:behindInMarks op b=false):QT X (.Compare a [op] [b] pos) (Gc (tOp r ta tb)):=#[PR B.run F.run I.run J]
def Rj(J:OpQ X (compareOp op) r)(F:OpQ X (compareOp B) I)(O:QE X a ta)(U:QE X b tb)(Y:QE X c tc)(hm:lastMarks [op,B] [b,c]=false:=by with_unfolding_all rfl):
  QE X (.Compare a [op,B] [b,c] pos) (Gd r I ta tb tc):=#[PU J.run F.run O.run U.run Y.run hm]
def Rk(B:QE X a ta):QC X .Is a (.Constant .none j pos') (F0 ta):=#[OV B.run]
def Rl(h:QC X op a b te)(h1:behindInMarks op b=false:=by first | show Jz _ '#' '#' | rfl):QT X (.Compare a [op] [b] pos) (tB te):=#[OW h.run h1]
def GA (h:QE X e te)(he:∀whole,isTrue e X.env whole=(do let v <- whole;standAt e.pos;holding [v] (truthy v)):=by intro _;rfl):QT X e (tB te):=#[OX h.run he]
def GB (h:QT X a t):QT X (.UnaryOp .Not a pos) (tNot t):=#[O2 h.run]
def Kz (h:QT X a t):QW X (.BoolOp .And [a] pos) t:=#[OY h.run]
def KA (h:QT X a t):QW X (.BoolOp .Or [a] pos) t:=#[OZ h.run]
def KB{zu:AO}(h:QT X a t)(h':QW X (.BoolOp .And (b::zu) pos) u):QW X (.BoolOp .And (a::b::zu) pos) (F3 t u):=#[O0 h.run h'.run]
def KC{zu:AO}(h:QT X a t)(h':QW X (.BoolOp .Or (b::zu) pos) u):QW X (.BoolOp .Or (a::b::zu) pos) (tOr t u):=#[O1 h.run h'.run]
def QW.pt (h:QW X e t):QT X e t:=#[h.run.pt]
def Rm(h:QE X a ta):QE X (.BoolOp op [a] pos) ta:=#[O3 h.run]
def Rn{zu:AO}(B:QE X a ta)(F:QE X (.BoolOp .And (b::zu) pos) tb):QE X (.BoolOp .And (a::b::zu) pos) (JC ta tb):=#[O4 B.run F.run]
def KD (B:QE X a ta):QE X (.UnaryOp .Not a pos) (JD ta):=#[O5 B.run]
def Ro (B:QT X c t)(F:QE X a ta)(I:QE X b tb):QE X (.IfExp c a b pos) (tIf t ta tb):=#[O6 B.run F.run I.run]
def yu:QA X [] Cy:=#[P3]
def zB(B:QE X e te)(F:QA X es ts)(hs:gy e es X:=by rfl):QA X (e::es) (Cm te ts):=#[P4 B.run F.run hs]
def KE{x1}(h:QA X es ts):QE X (.Tuple es x1 pos) (tTup ts):=#[P5 h.run]
def Rp:QP X pos [] [] []:=#[Qf]
def GC(F:QE X k tk)(I:QE X v tv)(J:QP X pos ks vs B):QP X pos (some k::ks) (v::vs) ((tk,tv)::B):=#[Qg F.run I.run J.run]
def Rq(h:QP X pos B F I)(J:B.all (·.isSome)=true)(U:B.length=F.length)(Y:B≠[])(O:B.length<=15):QE X (.Dict B F pos) (Kd I):=#[Qh h.run J U Y O]
def KF:QO X none Kf:=#[Qm]
def KG (h:QE X e te):QO X (some e) (Kg te):=#[Qn h.run]
def Rr:SlQ X rSlA:=#[QY]
def Rs:SlQ X (rSlL X.K):=#[QB]
def KH{r:V->AQ->AQ->Hp->VK->Prop}{lo hi:Option Expr}{tl:TO}(B:SlQ X r)(F:QE X e te)(I:QO X lo tl)(J:QO X hi th):QE X (.Subscript e (.Slice lo hi none p2) pos) (tSl r te tl th):=#[Qo B.run F.run I.run J.run]
def C8:IxQ X (EC X.K):=#[Qw]
def zA:IxQ X (ED X.K):=#[Qx]
def KI(B:IxQ X r)(F:QE X a ta)(I:QE X b tb)(hs:Gm b):QE X (.Subscript a b pos) (tOp r ta tb):=#[Qv B.run F.run I.run hs]
def x9 (B:X.A.units+1<cLine)(F:QE X a ta)(I:QE X b tb)(hs:EB b):QE X (.Subscript a b pos) (J9 ta tb):=#[Qc B F.run I.run hs]
def yW:CallQ X (.builtin "len") (λxs H Q=>∃x n,xs=[x]/\Ex X.K x H n/\Q (.int n) H):=#[PX]
def GD:CallQ X (.builtin "abs") (λxs H Q=>∃i,xs=[.int i]/\Q (.int (if i<0 then -i else i)) H):=#[PV]
def Rt:CallQ X (.builtin "isinstance") (λxs H Q=>∃x T t b,xs=[x,.ty T]/\TyOf X.K H x t/\PySem.W.kitOne X.K t (.type T)=some b/\Q (.bl b) H):=#[QV]
def GE (B:X.calm=true):CallQ X (.builtin "all") (λxs H Q=>∃ (p:Addr) (bs:List Bool),xs=[.ref p]/\Rd H p (.lst (bs.map V.bl))/\Q (.bl (bs.all id)) H):=#[Rb B]
def Ru:CallQ X (.type "tuple") (λxs H Q=>∃p ys,xs=[.ref p]/\((SqL X.K H p ys/\∀l,H l=none->Q (.ref l) (upd H l (.tup ys)))\/(SqT X.K H p ys/\Q (.ref p) H))):=#[QJ]
def yr{id:String}{r:AT->Hp->VK->Prop}{x:Str}(I:CallQ X (.builtin id) r)(J:Gl X x)(O:X.mg x=none)(U:bootBuiltins x=some (.builtin id))(Y:QA X (e::es) ts)(hn:x ≠ "__name__" := by ext)(B:Ah x:=by ext)(he:gy e es X:=by rfl)(F:iI pos es X:=by rfl):QE X '<' (tCB r ts):=#[P7 I.run J O U Y.run hn B he F]
def GF(I:CallQ X (.type T) r)(J:Gl X x)(O:X.mg x=none)(U:bootBuiltins x=some (.type T))(Y:QA X (e::es) ts)(hn:x ≠ "__name__" := by ext)(B:Ah x:=by ext)(he:gy e es X:=by rfl)(F:iI pos es X:=by rfl):QE X '<' (tCB r ts):=#[P8 I.run J O U Y.run hn B he F]
def KJ{x:Str}{st:Stmt}{f:Addr}(BB:Dfn X.K X.mg x st ps f fd)(BA:FnOk X.prog X.w X.K X.mg X.base CX0 j f fd ps sp)(J:Room k X.A)(O:QA X (e::es) ts)(B:j<=k:=by ext)(U:Gl X x:=by rfl)(F:Ah x:=by ext)(Y:gy e es X:=by rfl)(I:iI pos es X:=by rfl):
  QE X '<' (Cz sp [] E0 ts):=#[Q_ BB BA J O.run B U F Y I]
def DG(B:X.N.Nodup)(hi:X.N[i]?=some x)(F:Loc X.env.scope x)(hf:g_ x X:=by fail"l"):QG X (.Name x pos) (BJ i):=#[Pb B hi F hf]
def Rv:QGs X [] gNil:=#[Pc]
def Rw(h1:QG X e g)(h2:QGs X es gs)(hs:(assignEach (e::es) X.env).map (·.2)=assign e X.env::(assignEach es X.env).map (·.2):=by rfl):QGs X (e::es) (JK g gs):=#[Pd h1.run h2.run hs]
def Rx{k:Nat}{gs:TGs}(F:X.calm=true)(h:QGs X es gs)(I:(assignEach es X.env).length=n:=by rfl)(B:(assignEach es X.env).findIdx? (·.1)=none:=by rfl):QG X (.Tuple es k pos) (F6 X.K n gs):=#[Pe F h.run I B]
def GG(B:QE X e te):QI X tg e (F7 X.K te):=#[Pk B.run]
def KK(B:QE X e te):QI X tg e (F8 X.K te):=#[Pl B.run]
def Ry(B:Gl X "range")(F:X.mg "range" = none)(I:QA X [a] ts)(hs:ig a X:=by rfl):QI X tg (.Call (.Name "range" p) [a] [] pos) (JL ts):=#[Pq B F I.run hs]
def GH:QTs X [] C7:=#[Q6]
def Rz (h:QT X c t):QTs X [c] t:=#[Q7 h.run]
def RC(B:X.calm=true)(c:CompOk X scope N A8)(hi:QI X tg iter wi)(F:∀C s H ex,QG ')' tg g)(J:∀C s H ex,QTs ')' ifs ti)(O:∀C s H ex,QE ')' elt te)(hs:gM iter X:=by intro _;rfl):QE X (.ListComp elt [#[tg,iter,ifs,0]] scope pos) (Q8 wi g ti te A8):=#[λA6 s G H Q I h=>by
 rw[eval_ListComp];show Q9 (Fin:=λacc H=>Q (.ref acc) H) (uJ c) B hi.run (A_ λC s H ex=>(F C s H ex).run) (A_ λC s H ex=>(J C s H ex).run) (A_ λC s H ex=>(O C s H ex).run) hs I h λ_ _ _ _ _ U Y q=>Gv U Y q]
end
section
variable{st:Stmt}{A9 body a b:List Stmt}{t u:TS}{o i:Expr}{ty:TE}{pos:Pos}
def DH:QSs X [] JF:=#[O7]
def zD (h1:QS X st t)(h2:QSs X A9 u):QSs X (st::A9) (F4 t u):=#[O8 h1.run h2.run]
def yP (h1:QS X st t):QSs X [st] t:=#[O9 h1.run]
def EK (B:QE X e te)(hs:swapsWith e none pos.line X.env=pure false:=by rfl):QS X (.Expr e pos) (F5 te):=#[JH B.run hs]
def u7 (B:QE X e te):QS X (.Return (some e) pos) (Es te):=#[JJ B.run]
def C9(B:QT X c tc)(F:QSs X a t)(I:QSs X b u):QS X (.If c a b pos) (tIfS tc t u):=#[O_ B.run F.run I.run]
def xF{i:Nat}{x:Str}(B:X.N.Nodup)(hi:X.N[i]?=some x)(F:Loc X.env.scope x)(I:QE X e te)(hs:swapsWith e (some (.Name x pos')) pos.line X.env=pure false:=by rfl)(hf:g_ x X:=by fail"l"):
  QS X (.Assign [.Name x pos'] e pos) (BK te (BJ i)):=#[Pg B hi F I.run hs hf]
def RD(B:QE X e te)(F:QG X tg g)(hs:swapsWithSole [tg] e pos.line X.env=pure false:=by rfl)(I:swappedStores [tg] e X.env=pure none:=by rfl)(h1:(assignEach [tg] X.env).map (·.2)=[assign tg X.env]:=by rfl):QS X (.Assign [tg] e pos) (BK te g):=#[Pf B.run F.run hs I h1]
def GI(B:X.A.units+1<cLine)(F:QE X o td)(hi:QE X i ty)(I:QE X e tv)(hs:swapsWith e (some (.Subscript o i pos')) pos.line X.env=pure false):QS X (.Assign [.Subscript o i pos'] e pos) (J_ td ty tv):=#[Qd B F.run hi.run I.run hs]
def GJ(hp:PassesOwn '5' X.A X.env X.xe)(B:X.calm=true)(hi:QI X tg iter wi)(F:QG X tg g)(I:QSs X body t)(hs:gM iter X:=by intro _;rfl):QS X (.For tg iter body [] pos) (F9 wi g t):=#[Ps hp B hi.run F.run I.run hs]
end
def Fun.okQ{P:Aa}{mg:AI}{x:Str}{st:Stmt}{f:Addr}(F:Fun K x qual st f fd)(S:FnScope N ps (zb st))(J:∀vs H Q E,sp vs H Q E->vs.length=ps.length)(I:∀B A outer s H vs Q E,Room k (A.deeper (envOfC qual (zb st) s.heap.objs.size f B))->sp vs H Q E->
   ∃t,QSs '='.nox (zE st) t/\t { nx:=λ_ H'=>Q .non H',rt:=Q } (yS N vs) H):FnOk P w K mg base CX0 (k+1) f fd ps sp:=
 F.ok S J λB A outer s H vs Q E O h=>by obtain⟨t,h1,h2⟩:=I B A outer s H vs Q E O h;show#[t,h1.run,h2]
def s_ca:¬ (("cells" : Str) = "at"):=by decide +kernel
def s_cl:¬ (("cells" : Str) = "rest"):=by decide +kernel
def s_al:¬ (("at" : Str) = "rest"):=by decide +kernel
def GK:¬ (Sum.inr "cells" : Key)=(Sum.inr "at" : Key):=λz=>s_ca (Sum.inr.inj z)
def GL:¬ (Sum.inr "cells" : Key)=(Sum.inr "rest" : Key):=λz=>s_cl (Sum.inr.inj z)
def EL:¬ (Sum.inr "at" : Key)=(Sum.inr "rest" : Key):=λz=>s_al (Sum.inr.inj z)
def Ba (c:Addr)(a l:Int):List (Key×V):=[(Sum.inr "cells",.ref c),(Sum.inr "at",.int a),(Sum.inr "rest",.int l)]
def RF (c:Addr)(a l:Int):Be (Ba c a l) (Sum.inr "cells" : Key)=some (.ref c):=xl A5
def GM (c:Addr)(a l:Int):Be (Ba c a l) (Sum.inr "at" : Key)=some (.int a):=by unfold Ba;rw[xk GK,xl rfl]
def RH (c:Addr)(a l:Int):Be (Ba c a l) (Sum.inr "rest" : Key)=some (.int l):=by unfold Ba;rw[xk GL,xk EL,xl rfl]
def RJ (c:Addr)(a l b:Int):u6 (Ba c a l) (Sum.inr "at" : Key) (.int b)=Ba c b l:=by unfold u6 Ba;have B:=GK;have F:¬ (Sum.inr "rest" : Key)=(Sum.inr "at" : Key):=λz=>EL z.symm;simp[B,F]
def RK (c:Addr)(a l b:Int):u6 (Ba c a l) (Sum.inr "rest" : Key) (.int b)=Ba c a b:=by unfold u6 Ba;have B:=GL;have F:=EL;simp[B,F]
theorem RL (c:Addr)(a l:Int):CA [] (Ba c a l)=Ba c a l:=by unfold CA Ba;have B:=GK;have F:=GL;have I:=EL;simp[u6,B,F,I]
structure Pen (H:Hp)(p c:Addr)(ns:AG)(n:Nat):Prop where
 ob:∃a l:Int,H p=some (.dK (Ba c a l))/\0<=a/\a<=n/\0<=l
 ls:∃ob,H c=some (.frz ob (.lst (ns.map V.int)))
 len:ns.length<=63
def Pen.same{c p:_}(P:Pen H p c ns n)(h:yL H H'):Pen H' p c ns n:=by obtain⟨⟨a,l,h1,h2,B,F⟩,I,J⟩:=P;show#[#[a,l,h _ _ h1,h2,B,F],let ⟨ob,e⟩:=I;#[ob,h _ _ e],J]
section
variable{p c:Addr}{a l:Int}
def EM (h:H p=some (.dK (Ba c a l))):Bt H p (.str "cells") (some (.ref c)):=by have:=Bt.k (k:=(Sum.inr "cells" : Key)) h;rw[RF] at this;show this
def RM (h:H p=some (.dK (Ba c a l))):Bt H p (.str "at") (some (.int a)):=by have:=Bt.k (k:=(Sum.inr "at" : Key)) h;rw[GM] at this;show this
def GN (h:H p=some (.dK (Ba c a l))):Bt H p (.str "rest") (some (.int l)):=by have:=Bt.k (k:=(Sum.inr "rest" : Key)) h;rw[RH] at this;show this
def RN (h:H p=some (.dK (Ba c a l)))(b:Int):Bn H p (.str "at") (.int b) (upd H p (.dK (Ba c b l))):=by have:=Bn.k (k:=(Sum.inr "at" : Key)) (v:=.int b) h (by change 3<sizeLine;decide);rw[RJ] at this;show this
def KL (h:H p=some (.dK (Ba c a l)))(b:Int):Bn H p (.str "rest") (.int b) (upd H p (.dK (Ba c a b))):=by have:=Bn.k (k:=(Sum.inr "rest" : Key)) (v:=.int b) h (by change 3<sizeLine;decide);rw[RK] at this;show this
end
def RO (ns:AG)(a:Int)(h:0<('4'.length:Int)):∃z,atI '4' (a % ('4'.length:Int))=some (.int z):=by
 have B:=c8 a (show ('4'.length:Int)≠0 by lia);have h1:=cz a h;generalize I:a % ('4'.length:Int)=m at B h1;obtain⟨j,rfl⟩:∃j:Nat,m=j:=#[m.toNat,by lia];have F:j<ns.length:=by rw[af] at h1;lia
 show#[ns[j],Qu (by simp[F])]
def RP{a:Int}(B:0<=a)(h1:a<=n)(h2:n<=1000000):0<=60013*a*a/\60013*a*a<=60013000000000000:=by have e:60013*a*a=60013*(a*a):=Int.mul_assoc _ _ _;have m0:0<=a*a:=Int.mul_nonneg B B;have F:a*a<=1000000*1000000:=Int.mul_le_mul '!' '!' B '!';rw[e];lia
def meet{BA:Prop}(P:α->Prop)(h:(∀a,P a)->BA)(r:∀a,P a):BA:=h r
def RQ{BA:Prop}(P:Prop)(h:P->BA)(r:P):BA:=h r
def EN (K:AH):Sp:=λvs H Q _=>∃a ns,vs=[.ref a]/\SqL K H a '4'/\ns.length<=63/\∀p c H',Pen H' p c ns 0->yL H H'->Q (.ref p) H'
def yK (ns:AG):Int:=ns.foldl (· * ·) 1
def xR (ns:AG)(n:Int):yK (ns++[n])=yK ns*n:=by unfold yK;rw[List.foldl_append];rfl
def zj{l:List α}{x:α}(h:l[i]?=some x):l.take (i+1)=l.take i++[x]:=by rw[List.take_succ,h];rfl
def KM:Sp:=λvs H Q _=>∃a ns,vs=[.ref a]/\H a=some (.tup '4')/\(∀n∈ns,2<=n/\n<=4)/\Q (.int (yK ns)) H
def Dt.inBox:Dt->Bool
 | .int i=>decide (2<=i)&&decide (i<=4)
 | _=>false
def Dt.val:Dt->Int
 | .int i=>i
 | _=>0
theorem uf:∀ (ns:AG),(ns.map Dt.int).map Dt.val=ns
 | []=>rfl
 | n::ns=>by simp only[ax,uf ns];rfl
def KN{g:TG}{x:V}{A B:St->Hp->Prop}(h:g x G H A):g x G H λF H3=>C7 F H3 λI H4=>if I=true then A F H4 else B F H4:=by
 have e:(λF H3=>C7 F H3 λI H4=>if I=true then A F H4 else B F H4)=A:=by funext F H3;change (if true=true then A F H3 else B F H3)=A F H3;rw[if_pos rfl]
 rw[e];show h
section
variable{A:Ae}
def yN{items}(B:s.heap.IsTupleIter it t i)(U:s.heap.IsTuple t items)(Y:items[i]?=some x)(hQ:∀h',h'.IsTupleIter it t (i+1)->Heap.SameBut it s.heap h'->Q x '1'):Ag prog w A (Builtin.SmallTypes.nextOf (.ref it)) Q E s:=by
 obtain⟨o,I,hc,F⟩:=id B;obtain⟨ol,J,_,nl,O⟩:=U;unfold Builtin.SmallTypes.nextOf
 show aa (wpAny_callSpecial?_slot (name:=Str.ofString "__next__") B.typeIs c9
  (aW c9 B.typeIs gB ?_ (gf _)))
 change wpAny _ _ (field (.ref it) 0 >>= _) _ _ s;show aa (bP I F (x:=.ref t) A5 ?_);rw[if_neg (by grind)];show aa (bP I F (x:=.int i 0) A5 ?_);show aa (cJ J O ?_);simp only[bg,Y];show aa (bW I F '$' (ae #[x,A5,ae (hQ _ ?_ (bn ..))]))
 show#[_,bJ _ I (dY (cA F _)),(fJ ..).trans hc,by
  rw[cA F];simp[rawInt]]
def xb{items}(U:A.handled=none)(B:s.heap.IsTupleIter it t i)(Y:s.heap.IsTuple t items)(hx:items[i]?=none)(hE:∀h' e,Heap.ExtBut it s.heap h'->(∃o,h'.get? e=some o/\o.cls = .type "StopIteration")->E (.ref e) '1'):Ag prog w A (Builtin.SmallTypes.nextOf (.ref it)) Q E s:=by
 obtain⟨o,F,hc,I⟩:=id B;obtain⟨ol,J,_,nl,O⟩:=Y;unfold Builtin.SmallTypes.nextOf
 show aa (wpAny_callSpecial?_slot (name:=Str.ofString "__next__") B.typeIs c9
  (aW c9 B.typeIs gB ?_ (gf _)))
 change wpAny _ _ (field (.ref it) 0 >>= _) _ _ s;show aa (bP F I (x:=.ref t) A5 ?_);change wpAny _ _ (if (Value.ref t==Value.none)=true then _ else _) _ _ s;rw[if_neg (by grind)];change wpAny _ _ (field (.ref it) 1 >>= _) _ _ s;show aa (bP F I (x:=.int i 0) A5 ?_);change wpAny _ _ (seqItems? (.ref t) >>= _) _ _ s;show aa (cJ J O ?_);simp only[bg,hx];show aa (cD (aa (bW F I '$' ?_)));change wpAny _ _ (newExc (.type "StopIteration") [] >>= _) _ _ _;show aa ?_;simp only[newExc,newTuple];show aa (bh ?_ (by size_fits));show aa (m:=firstArgMember _ _) (wpAny_of_eq (a:=Value.none) (by first | rfl | (simp only[firstArgMember];rfl)) ?_);show bh ?_ (by size_fits);simp only[raiseNew];show aa (iq ?_)
 first | rw[show A.in1.handled=none from U] | rw[U]
 show aa (ae (wpAny_throw ?_));show hE _ _ (((bn ..).extBut.push _).push _) #[_,ar _ A5,A5]
def RR (U:A.handled=none)(it l:Addr)(J:l≠it)(B:AK):
  Draws prog w A it [it,l] B.size (λi v=>B[i]?=some v) (λi h=>h.IsTupleIter it l i/\h.IsTuple l B) where
 live:=λ_ _ st=>let ⟨o,ho,_⟩:=st.1;#[o,ho]
 frame:=λ_ _ _ st O=>#[let ⟨o,ho,r⟩:=st.1;#[o,O it '$' o ho,r],let ⟨o,ho,r⟩:=st.2;#[o,O l '$' o ho,r]]
 item:=λi s Q E hi st Y=>by show yN st.1 st.2 (x:=B[i]) (by simp[hi]) λh' F I=>?_;show Y _ h' s.toks (by simp[hi]) #[F,st.2.extBut I.extBut J] I
 done:=λs Q E st hE=>xb U st.1 st.2 '$' hE
def uV (l:Addr)(B:AK)(n:Nat)(I:Option Addr)(U:Array AJ):
  Meets (Builtin.«enumerate.__new__» #[[.type "enumerate",.ref l],[]]) (λ_ R s=>s.heap.get? l=some { cls:=.type "tuple",dict:=I,data:=.seq B n,slots:=U }/\
   R (.ok (.ret (.ref (s.heap.push { cls:=.type "tuple_iterator",data:=.fields #v[.ref l,.int 0 0] }).objs.size)))
    { s with heap:=(s.heap.push { cls:=.type "tuple_iterator",data:=.fields #v[.ref l,.int 0 0] }).push { cls:=.type "enumerate",data:=.fields #v[.none,.bool false,.ref s.heap.objs.size,rawInt 0,.none,.none] } }):=
 .of_wp λprog w A R s h=>by
  obtain⟨hp,g,d,tk,Y⟩:=s;obtain⟨F,h⟩:=h;have O:=sub_enumerate;have J:Heap.IsTuple (Shared.heap #[hp,g,d,tk,Y]) l B:=#[_,F,A5,n,A5]
  wp_walk using dH F
  show wpAny_stack_any λst=>ae ?_;split
  ·rename_i c _ _ _ _ _;cases (c==Value.type "enumerate")
   wp_walk using dH F,dq J
   show#[_,A5,h]
   wp_walk using dH F,dq J
   show#[_,A5,h]
  wp_walk using dH F,dq J
  show#[_,A5,h]
def uU(hL:s.heap.IsTuple l B)(h:∀h',IsEnum h' (s.heap.objs.size+1) s.heap.objs.size 0 .none->h'.IsTupleIter s.heap.objs.size l 0->h'.objs.size=s.heap.objs.size+2->
   (∀b o,s.heap.get? b=some o->h'.get? b=some o)->Q (.ref (s.heap.objs.size+1)) '1'):
  Ag prog w A (call (.type "enumerate") [.ref l]) Q E s:=by
 obtain⟨⟨c,I,dt,sl⟩,hl,J,n,O⟩:=hL
 replace J:c = .type "tuple" := J
 replace O:dt = .seq B n:=O
 subst J O
 show callType_new F.called_enumerate '#' (F.typeCall_enumerate_1 _) (F.newCall_enumerate_1 _) (λU=>F.args_object_init_2 U _) F.entry_enumerate_new
  (uV l B n I sl) #[hl,?_]
 have Y:(s.heap.push { cls:=.type "tuple_iterator",data:=.fields #v[.ref l,.int 0 0] }).objs.size=s.heap.objs.size+1:=dF ..;rw[Y]
 have he:IsEnum ((s.heap.push { cls:=.type "tuple_iterator",data:=.fields #v[.ref l,.int 0 0] }).push
   { cls:=.type "enumerate",data:=.fields #v[.none,.bool false,.ref s.heap.objs.size,rawInt 0,.none,.none] }) (s.heap.objs.size+1) s.heap.objs.size 0 .none:=by
  have:=ar (s.heap.push { cls:=.type "tuple_iterator",data:=.fields #v[.ref l,.int 0 0] })
   (o:={ cls:=.type "enumerate",data:=.fields #v[.none,.bool false,.ref s.heap.objs.size,rawInt 0,.none,.none] }) A5
  rw[Y] at this;show this
 show#[#[_,he,A5],h _ he #[_,ah _ (ar _ A5),A5,A5] '$' λb o x=>ah _ (ah _ x)]
end
def Ite (K:AH)(a:Addr):It:=
 #[λi H=>∃xs x,SqT K H a xs/\xs[i]?=some x,λi H v H'=>∃T x,v = .ref T/\H T=none/\H'=upd H T (.tup [.int i,x])/\∀xs,SqT K H a xs->xs[i]?=some x,λi H=>∃xs,SqT K H a xs/\xs.length<=i]
def RU{P:Aa}{an:AO}{x1}(a it e:Addr)(ac:e≠it):
  Turn P w K (.Tuple an x1 tpos) (Ite K a) [e,it] e (λi h=>(∃U,IsEnum h e it i U)/\h.IsTupleIter it a i) where
 mem:=by simp
 obj:=λi h st b J=>by
  rcases au.mp J with rfl | J;grind;rw[ao.mp J];obtain⟨_,o,e,c,d⟩:=st;right
 keep:=λi h h' st k=>by obtain⟨⟨U,he⟩,o,ho,r⟩:=st;show#[#[U,k e '$' _ he],o,k it '$' _ ho,r]
 item:=by
  intro X hP hw hK hc i A6 s G H E I hf st hg;subst hP hw hK;obtain⟨xs,x,hq,hx⟩:=hg;obtain⟨ag,rv,p,hz⟩:=I.tuple hq;obtain⟨u,hu,ru⟩:=rv.get hx;obtain⟨f0,f1,f2,f3,f4,f5⟩:=hf e '$';obtain⟨g0,g1,g2,g3,g4,g5⟩:=hf it '$';obtain⟨⟨U,he⟩,Y⟩:=st;have hsz:i<ag.toArray.size:=by have:=(ai.mp hu).1;simpa using this
  have a5:a≠it:=by
   intro z;obtain⟨o,ho,a7,_⟩:=p;obtain⟨o',b1,bt,_⟩:=Y;grind
  have bb:e≠a:=by
   intro z;obtain⟨o,ho,a7,_⟩:=p;grind
  show wpAny_pyNext_enum_itemD (RR (A:=X.A.in1) (I.ok.hd hc) it a a5 ag.toArray) he #[Y,p] hsz ac (by simp[ac,bb]) λy h' tk hy ho as hT bx hk=>?_;have bc:y=u:=by right
  subst bc;show#[_,A5,?_];show wpAny_letOwnedTupleGo_enum ho λab ad O=>?_;have a0:s.heap.objs.size≠e:=eO (aw he);have bd:s.heap.objs.size≠it:=by obtain⟨o,a1,_⟩:=Y;show eO (aw a1)
  have B:=I.hok.fresh (ak s.heap.objs.size);have kp:∀b o,b≠e->b≠it->s.heap.get? b=some o->ab.get? b=some o:=λb o h1 h2 J=>(O.2 b h1).trans (hk b o h1 h2 J);have a2:ab.get? s.heap.objs.size=some { cls:=.type "tuple",data:=.seq #v[.int i tk,y] }:=(O.2 _ a0).trans hT;obtain⟨oe,b2⟩:∃o,ab.get? e=some o:=#[_,ad];obtain⟨oi,a1⟩:∃o,ab.get? it=some o:=by obtain⟨⟨o,al,_⟩,_⟩:=as;show#[o,(O.2 it (Ne.symm ac)).trans al]
  have b0:∀b u',H b=some u'->b≠e/\b≠it:=λb u' J=>#[ze J f0,ze J g0]
  have a3:HOk X.prog X.w (upd H s.heap.objs.size (.tup [.int i,x])) ab:=by
   intro b u' J;by_cases a4:b=s.heap.objs.size;subst a4;rw[zg] at J;cases J;show#[by change 2<=sizeLine;decide,[.int i tk,y],.cons #[tk,A5] (.cons ru .nil),_,a2,A5,#[0,A5],A5]
   ·rw[zc a4] at J;show (I.hok b u' J).stay (λc v b3 q=>?_) (λc q=>?_) (λc ys q=>?_)
    ·show kp c v ?_ ?_ q
     all_goals grind
    rw[zc (ze q B)];show q;rw[zc (ze q B)];show q
  have I1:Inv X A6 G (upd H s.heap.objs.size (.tup [.int i,x])) { s with heap:=ab,toks:=tk+1 }:=by
   show Inv.step (ch:=[e,it]) (g':=s.gens) (d':=s.drawn) (t':=tk+1) I (λb J=>?_) (λb o h1 h2 h3 h4 h5=>?_) (λb o h1 h2 h3 h4 h5=>?_) (λb o h3 h4 h5=>?_) (λb o h3 h4=>?_) (λb ys q=>?_) (λb o u' q=>?_) (λb ps q=>?_) (λm hm=>?_) a3 I.bare;rcases au.mp J with rfl | J;show#[f3,f1,f4,f5];rw[ao.mp J];show#[g3,g1,g4,g5];right;show#[o.slots,kp b o (λz=>h3 (by simp[z])) (λz=>h3 (by simp[z])) h4];rw[zc (aY (aw h4))];show h5;right;rw[zc (ze q B)];show q;rw[zc (ze q B)];show q;show#[#v[],by rw[zc (ze q B),gO];show q];obtain⟨o,es,ep,bk,r1⟩:=hm;show#[o,es,ep,kp _ o (Ne.symm f1) (Ne.symm g1) bk,r1]
  show#[.ref s.heap.objs.size,_,I1,A5,#[s.heap.objs.size,x,A5,B,A5,λys bl=>by rw[I.tuple_inj bl hq];show hx],#[#[y,by have:=ad;push_cast;show this],?_],λb J=>?_];obtain⟨⟨o,al,r2⟩,_⟩:=as;show#[o,(O.2 it (Ne.symm ac)).trans al,r2];rcases au.mp J with rfl | J;rw[zc (Ne.symm a0)];show f0;rw[ao.mp J,zc (Ne.symm bd)];show g0
 done:=by
  intro X hP hw hK hc i A6 s G H E I hf st hg;subst hP hw hK;obtain⟨xs,hq,hx⟩:=hg;obtain⟨ag,rv,p,hz⟩:=I.tuple hq;obtain⟨f0,f1,f2,f3,f4,f5⟩:=hf it '$';obtain⟨⟨U,he⟩,Y⟩:=st;have hl:=rv.length;have hT:s.TypeIs (.ref e) "enumerate" := #[_,he,A5];unfold pyNext
  show aa (dM (wpAny_callSpecial?_slot (name:=Str.ofString "__next__") hT F.slot_enumerate_next
   (aW F.slot_enumerate_next hT F.entry_enumerate_next ?_ (F.args_enumerate_next_1 _))))
  change wpAny _ _ (field (.ref e) 2 >>= _) _ _ _;show aa (bP he A5 (x:=.ref it) A5 ?_);show aa (xb (A:=X.A.in1) (I.ok.hd hc) Y p (by simp;lia) λh' x bm bo=>?_);obtain⟨o,ho,bs⟩:=bo;show aa (cN (T := "StopIteration") (b:=true) #[o,ho,bs] fN ?_);show ae #[A5,I.turned (t':=s.toks) (λb o J e=>bm b o J e) f0 f1 f3 f4 f5]
 self:=λA i s Q E st h=>by obtain⟨⟨U,he⟩,Y⟩:=st;show wpAny_pyIter_enum he h
def KO (K:AH)(ta:TA):TI:=λG H R=>ta G H λvs H1=>∃a,vs=[.ref a]/\(∃xs,SqT K H1 a xs)/\R (Ite K a) H1
def RV{x1}(Y:Gl X "enumerate")(hm:X.mg "enumerate" = none)(ha:PA X [a] ta)(hs:ig a X:=by rfl):
  PI X (.Tuple B x1 tpos) (.Call (.Name "enumerate" p) [a] [] pos) (KO X.K ta):=by
 intro A6 s G H R I h;show Call_ (C4 I Y hm boot_enumerate (cZ (thn (ha pos A6 s G H _ I h) λus s1 ⟨vs,H1,I1,r1,q1⟩=>?_) hs A5));obtain⟨b,rfl,⟨xs,hq⟩,q⟩:=q1;obtain⟨u,rfl,ru⟩:=B9 r1;cases ru;obtain⟨F,rv,pt,hz⟩:=I1.tuple hq;show uU (show s1.heap.IsTuple b F.toArray from pt) λh' U J hsz hk=>?_;have I2:Inv X A6 G H1 { s1 with heap:=h',toks:=s1.toks }:=I1.kept (t':=s1.toks) hk;show wpAny_pyIter_enum U ?_;show#[s1.heap.objs.size+1,[s1.heap.objs.size+1,s1.heap.objs.size],_,_,H1,A5,I2,RU b s1.heap.objs.size (s1.heap.objs.size+1) (Nat.succ_ne_self _),#[#[_,U],J],λc O=>?_,q];rcases au.mp O with rfl | O;show I1.fpOk (Nat.le_succ _) (I1.hok.fresh (Nat.le_succ _));rw[ao.mp O];show I1.fpOk (ak _) (I1.hok.fresh (ak _))
def RW{x1}(F:Gl X "enumerate")(I:X.mg "enumerate" = none)(J:QA X [a] ta)(hs:ig a X:=by rfl):
  QI X (.Tuple B x1 tpos) (.Call (.Name "enumerate" p) [a] [] pos) (KO X.K ta):=#[RV F I J.run hs]
mutual
def Dt.toW:Dt->PySem.W.Dat
 | .non=>.none
 | .bl b=>.bool b
 | .int i=>.int i
 | .str x=>.str x
 | .tup l=>.tuple (Dt.toWs l)
 | .lst l=>.list (Dt.toWs l)
 | .dct=>.bytes #v[]
def Dt.toWs:AS->List PySem.W.Dat
 | []=>[]
 | d::ds=>d.toW::Dt.toWs ds
end
mutual
theorem DI:∀ {d e:Dt},d.toW=e.toW->d=e
 | .non,e,h=>by cases e <;> simp[Dt.toW] at h ⊢
 | .bl b,e,h=>by cases e <;> simp[Dt.toW] at h ⊢;show h
 | .int b,e,h=>by cases e <;> simp[Dt.toW] at h ⊢;show h
 | .str b,e,h=>by cases e <;> simp[Dt.toW] at h ⊢;show h
 | .tup l,e,h=>by
  cases e with
  | tup m=>simp only[Dt.toW,PySem.W.Dat.tuple.injEq] at h;rw[GO h]
  | _=>simp[Dt.toW] at h
 | .lst l,e,h=>by
  cases e with
  | lst m=>simp only[Dt.toW,PySem.W.Dat.list.injEq] at h;rw[GO h]
  | _=>simp[Dt.toW] at h
 | .dct,e,h=>by cases e <;> simp[Dt.toW] at h ⊢
theorem GO:∀ {l m:AS},Dt.toWs l=Dt.toWs m->l=m
 | [],m,h=>by cases m <;> simp[Dt.toWs] at h ⊢
 | d::l,m,h=>by
  cases m with
  | nil=>simp[Dt.toWs] at h
  | cons e m=>
   simp only[Dt.toWs,dZ] at h;rw[DI h.1,GO h.2]
end
def Dt.eqOk (d:Dt):Prop:=PySem.W.kqdOk 8 d.toW=true
section
variable{P:Aa}{h:Heap}
mutual
theorem yT (ok:HOk P w H h):∀ (n:Nat) {d:Dt} {v:V} {u:Value},Is H d v->ye v u->PySem.W.kqdOk n d.toW=true->∃as,Reads h u (PySem.W.kqdP d.toW) as
 | _,.non,_,_,h1,r,_=>by cases h1;cases r;show#[_,Reads.none]
 | n,.bl b,_,_,_,_,k=>by cases n <;> simp[Dt.toW,PySem.W.kqdOk] at k
 | _,.int i,_,_,h1,r,_=>by cases h1;obtain⟨t,rfl⟩:=r;show#[_,Reads.int i t]
 | _,.str x,_,_,h1,r,_=>by cases h1;obtain⟨t,rfl⟩:=r;show#[_,Reads.str x t]
 | 0,.tup l,_,_,_,_,k=>by simp[Dt.toW,PySem.W.kqdOk] at k
 | n+1,.tup l,_,_,h1,r,k=>by obtain⟨a,xs,rfl,ha,hl⟩:=h1;cases r;obtain⟨_,its,rv,o,ho,hc,⟨m,hd⟩,_⟩:=ok a _ ha;obtain⟨as,q⟩:=GP ok n hl rv (by simpa [Dt.toW,PySem.W.kqdOk] using k);show#[as,reads_tuple_at ho hc hd (by simpa using q)]
 | 0,.lst l,_,_,_,_,k=>by simp[Dt.toW,PySem.W.kqdOk] at k
 | n+1,.lst l,_,_,h1,r,k=>by obtain⟨a,xs,rfl,ha,hl⟩:=h1;cases r;obtain⟨_,its,m,rv,e⟩:=(show zJ P w H h a (.lst xs) from Gf ok ha);obtain⟨as,q⟩:=GP ok n hl rv (by simpa [Dt.toW,PySem.W.kqdOk] using k);show#[_,reads_list_at e A5 A5 (by simpa using q)]
 | n,.dct,_,_,_,_,k=>by cases n <;> simp[Dt.toW,PySem.W.kqdOk] at k
theorem GP (ok:HOk P w H h):∀ (n:Nat) {ds:AS} {xs:AT} {us:AN},IsL H ds xs->yf xs us->(∀d∈Dt.toWs ds,PySem.W.kqdOk n d=true)->∃as,ReadsAll h us (PySem.W.kqdPs (Dt.toWs ds)) as
 | _,[],_,_,h1,r,_=>by cases h1;cases r;show#[_,ReadsAll.nil]
 | n,d::ds,_,_,h1,r,k=>by
  obtain⟨x,xr,rfl,hd,hr⟩:=h1
  cases r with
  | cons rx rr=>
   obtain⟨as,q⟩:=yT ok n hd rx (k _ (by simp[Dt.toWs]));obtain⟨bs,q2⟩:=GP ok n hr rr λe he=>k e (by simp[Dt.toWs,he]);show#[_,ReadsAll.cons q q2]
end
end
def xW{d:Dt}(h:d.eqOk):SeqAt.shaped (PySem.W.kqdP d.toW)=true:=by
 have l:=ee 8 _ h;unfold SeqAt.shaped;grind
def EO:R2:=λx y H Q=>∃d e,Is H d x/\Is H e y/\d.eqOk/\e.eqOk/\∀b:Bool,(b=true↔d=e)->Q (.bl b) H
def EQ:R2:=λx y H Q=>∃d e,Is H d x/\Is H e y/\d.eqOk/\e.eqOk/\∀b:Bool,(b=true↔d=e)->Q (.bl (!b)) H
def KP{d e:Dt}(h1:d.eqOk)(h2:e.eqOk):PyData.eqv (PySem.W.kqdP d.toW) (PySem.W.kqdP e.toW)=true↔d=e:=
 (ef 8 d.toW e.toW 8 h1 h2).trans #[DI,λz=>by rw[z]]
def RX (B:X.A.units+64<cLine):OpR X (compareOp .Eq) EO:=by intro A6 s G H x y v u Q I F J h;obtain⟨d,e,O,U,kd,ke,q⟩:=h;obtain⟨as,ra⟩:=yT I.hok 8 O F kd;obtain⟨bs,rb⟩:=yT I.hok 8 U J ke;show eq_dataH ra rb (xW kd) (xW ke) B #[.bl _,H,I,A5,q _ (KP kd ke)]
def RY (B:X.A.units+64<cLine):OpR X (compareOp .NotEq) EQ:=by intro A6 s G H x y v u Q I F J h;obtain⟨d,e,O,U,kd,ke,q⟩:=h;obtain⟨as,ra⟩:=yT I.hok 8 O F kd;obtain⟨bs,rb⟩:=yT I.hok 8 U J ke;show ne_dataH ra rb (xW kd) (xW ke) B #[.bl _,H,I,A5,q _ (KP kd ke)]
def ER (B:X.A.units+64<cLine):OpQ X (compareOp .Eq) EO:=#[RX B]
def RZ (B:X.A.units+64<cLine):OpQ X (compareOp .NotEq) EQ:=#[RY B]
def R0{t:TA}(U:QE X o to)(Y:QA X [e] t)(I:attributeBase o "append" X.env (eval o X.env)=eval o X.env:=by rfl)(O:((backTo cpos (starEach [e] X.env)).all (λx=>!x.1)&&(backToKw cpos (keywordEach [] X.env)).all (λx=>x.1.isSome)&&decide (([e]:AO).length+([]:List Keyword).length+(if ([]:List Keyword).isEmpty then 0 else 1)<30))=true:=by rfl)(J:(apos.endLine==cpos.line)=true:=by rfl)(hs:starEach [e] X.env=(false,eval e X.env)::starEach [] X.env:=by rfl)(B:(backTo cpos (starEach [] X.env)).any (·.1)=false:=by rfl):
  QE X (.Call (.Attribute o "append" apos) [e] [] cpos) (tBM X.K "list" Gq to t):=#[Kl eU PySem.F.slot_list_append PySem.F.type_list_append Km U.run Y.run I O J hs B]
def xn:(Dt.tup (ns.map .int)).eqOk:=by
 have e:∀ns:AG,(Dt.toWs (ns.map .int)).all (PySem.W.kqdOk 7)=true:=by
  intro ns
  induction ns with
  | nil=>rfl
  | cons n ns B=>simp only[ax,Dt.toWs,cj,B,cB];rfl
 show e ns
def zy (rm:AG)(i:Int):Int:=rm.getD i.toNat 0
abbrev yp (q:Int×Int):Dt:=.tup [.int q.1,.int q.2]
structure Giv (rm:AG)(g:List (Int×Int)):Prop where
 ok:∀q∈g,0<=q.1/\q.1<rm.length/\0<=q.2/\q.2<zy rm q.1
 up:g.Pairwise λa b=>a.1<b.1
def KQ{g:List (Int×Int)}:(Dt.tup (g.map yp)).eqOk/\(Dt.lst (g.map yp)).eqOk:=by
 have e:∀g:List (Int×Int),(Dt.toWs (g.map yp)).all (PySem.W.kqdOk 7)=true:=by
  intro g
  induction g with
  | nil=>rfl
  | cons n ns B=>simp only[ax,Dt.toWs,cj,B,cB];rfl
 show#[e g,e g]
def Cn (H H':Hp):Prop:=∀b xs,H b=some (.tup xs)->H' b=some (.tup xs)
def Cn.app{a:Addr}{xs ys:AT}(h:H a=some '+'):Cn H (upd H a (.lst ys)):=λb zs e=>by
 by_cases B:b=a;grind;rw[zc B];show e
mutual
def Dt.noL:Dt->Bool
 | .tup l=>Dt.noLs l
 | .lst _=>false
 | .dct=>false
 | _=>true
def Dt.noLs:AS->Bool
 | []=>true
 | d::ds=>d.noL&&Dt.noLs ds
end
mutual
theorem Is.stayT {H H1:Hp}(a:Cn H H1):∀ {d:Dt} {v:V},d.noL=true->Is H d v->Is H1 d v
 | .non,_,_,h=>h
 | .bl _,_,_,h=>h
 | .int _,_,_,h=>h
 | .str _,_,_,h=>h
 | .tup l,_,n,h=>by obtain⟨p,xs,e,hp,hl⟩:=h;show#[p,xs,e,a _ _ hp,IsL.stayT a (by simpa [Dt.noL] using n) hl]
 | .lst l,_,n,_=>by simp[Dt.noL] at n
 | .dct,_,n,_=>by simp[Dt.noL] at n
theorem IsL.stayT {H H1:Hp}(a:Cn H H1):∀ {ds:AS} {xs:AT},Dt.noLs ds=true->IsL H ds xs->IsL H1 ds xs
 | [],_,_,h=>h
 | d::ds,_,n,h=>by
  obtain⟨x,r,e,hd,hr⟩:=h;have n':d.noL=true/\Dt.noLs ds=true:=by simpa [Dt.noLs] using n
  show#[x,r,e,Is.stayT a n'.1 hd,IsL.stayT a n'.2 hr]
end
def Giv.snoc{g:List (Int×Int)}{i w:Int}(h:Giv rm g)(B:∀q∈g,q.1<i)(O:0<=i)(h1:i<rm.length)(h2:0<=w)(U:w<zy rm i):Giv rm (g++[(i,w)]):=by
 show#[λq F=>?_,br.mpr #[h.up,eV _ _,λa I b J=>?_]];rcases aA.mp F with z | z;show h.ok q z;right;rw[ao.mp J];show B a I
def New (H:Hp)(o:HO)(R:V->Hp->Prop):Prop:=∀p H',H p=none->H' p=some o->yL H H'->R (.ref p) H'
def New.at{p:_}(h:New H o R)(hp:H p=none):R (.ref p) (upd H p o):=h p _ hp zg (yL.upd hp)
def KR (t:TA):TE:=λG H Q=>t G H λxs H1=>xs.length<=sizeLine/\New H1 (.tup xs) Q
def KS (t:TA):TE:=λG H Q=>t G H λxs H1=>xs.length<=sizeLine/\New H1 '+' Q
section
variable{t:TA}{pos:Pos}
def R4{x1}(h:PA X es t):PE X (.Tuple es x1 pos) (KR t):=by intro A6 s G H Q I B;show wpAny_Tuple_spliced (thn (h pos A6 s G H _ I B) λus s1 ⟨xs,H1,I1,r,z,q⟩=>#[by rw[<- r.length];show z,?_]);have hf:H1 s1.heap.objs.size=none:=I1.hok.fresh (ak _);show#[.ref s1.heap.objs.size,upd H1 s1.heap.objs.size (.tup xs),I1.laid (t':=s1.toks) (λb u e=>ah _ e) (ak _) ?_,A5,q.at hf];show#[z,us,r,#[_,ar _ A5,A5,#[_,A5],A5]]
def R5 (h:PA X es t):PE X (.List es pos) (KS t):=by intro A6 s G H Q I B;show wpAny_List_spliced (thn (h pos A6 s G H _ I B) λus s1 ⟨xs,H1,I1,r,z,q⟩=>#[by rw[<- r.length];show z,?_]);have hf:H1 s1.heap.objs.size=none:=I1.hok.fresh (ak _);show#[.ref s1.heap.objs.size,upd H1 s1.heap.objs.size '+',I1.laid (t':=s1.toks) (λb u e=>ah _ e) (ak _) ?_,A5,q.at hf];show#[z,us,0,r,ar _ A5]
def GQ{x1}(h:QA X es t):QE X (.Tuple es x1 pos) (KR t):=#[R4 h.run]
def KU (h:QA X es t):QE X (.List es pos) (KS t):=#[R5 h.run]
def CallQ.weak(h:CallQ X f r)(k:∀xs H Q,B xs H Q->r xs H Q):CallQ X f B:=#[λA6 s G H xs us Q I F z=>h.run A6 s G H xs us Q I F (k _ _ _ z)]
def GR (K:AH):AT->Hp->VK->Prop:=λxs H Q=>∃p ys,xs=[.ref p]/\((SqL K H p ys/\New H (.tup ys) Q)\/(SqT K H p ys/\Q (.ref p) H))
def yi:CallQ X (.type "tuple") (GR X.K):=Ru.weak<|by rintro xs H Q ⟨p,ys,e,h⟩;show#[p,ys,e,h.elim (by rintro⟨a,n⟩;show .inl #[a,λl B=>n.at B]) .inr]
end
def R6 (J:It)(g:TG)(ti:TT)(te:TE)(acc:Addr)(Q:VK)(G:St)(H:Hp):Prop:=∃W:Nat->Nat->St->Hp->Prop,(∃m,W 0 m G H)/\
 ∀i m B H',W i m B H'->(J.stop i H'/\Q (.ref acc) H')\/(J.go i H'/\∃N:St->Hp->Prop,(∀ F H2,N F H2->∃I,I<m/\W (i+1) I F H2)/\∀x H2,J.yld i H' x H2->DE g ti te acc N x B H2)
def GS (wi:TI)(g:TG)(ti:TT)(te:TE)(A8:List '0'):TE:=λG H Q=>wi G H λJ H1=>∀acc,H1 acc=none->R6 J g ti te acc Q (xw G A8) (upd H1 acc (.lst []))
def KW(B:X.calm=true)(c:CompOk X scope N A8)(hi:QI X tg iter wi)(F:∀C s H ex,QG ')' tg g)(I:∀C s H ex,QTs ')' ifs ti)(J:∀C s H ex,QE ')' elt te)(hs:gM iter X:=by intro _;rfl):QE X (.ListComp elt [#[tg,iter,ifs,0]] scope pos) (GS wi g ti te A8):=RC B c hi F I J hs
def R7{N:_}(h:g x G H λB H3=>te B H3 λv H5=>∃xs,H5 acc=some '+'/\xs.length<sizeLine/\N B (upd H5 acc (.lst (xs++[v])))):DE g C7 te acc N x G H:=KN h
def R8(h:H acc=none)(s:yL H H1):yL H (upd H1 acc o):=λb u e=>by rw[zc (ze e h)];show s b u e
section
variable(K:AH)(h:X.K=K)include h
def R9:OpQ X (binaryOp .Add) (DD K):=h ▸ yO
end
def R_ (K:AH)(F:X.K=K){pos:Pos}{k:Nat}{gs:TGs}(I:X.calm=true)(h:QGs X es gs)(J:(assignEach es X.env).length=n:=by rfl)(B:(assignEach es X.env).findIdx? (·.1)=none:=by rfl):QG X (.Tuple es k pos) (F6 K n gs):=F ▸ Rx I h J B
def Sa(K:AH)(B:X.K=K)(F:QE X e te):QI X tg e (F8 K te):=B ▸ KK F
def GT(K:AH)(B:X.K=K)(F:QE X e te):QI X tg e (F7 K te):=B ▸ GG F
structure Wi where
 g:List (Int×Int)
 b:Int
 r:Int
 w:Int
abbrev AW:=List Wi
abbrev z5 (x:Wi):Dt:=.tup [.tup (x.g.map yp),.int x.b,.int x.r,.int x.w]
structure WishOk (rm:AG)(x:Wi):Prop where
 giv:Giv rm x.g
 b0:0<=x.b
 b1:x.b<rm.length
 apart:∀q∈x.g,q.1≠x.b
 r0:0<=x.r
 r1:x.r<zy rm x.b
 w0:0<=x.w
 w1:x.w<zy rm x.b
 ne:x.r≠x.w
def KY (rm:AG)(d:Dt):Prop:=∃x,d=z5 x/\WishOk rm x
def KZ (x:Wi):PySem.W.kqdOk 7 (z5 x).toW=true:=by
 have e:∀g:List (Int×Int),(Dt.toWs (g.map yp)).all (PySem.W.kqdOk 5)=true:=by
  intro g
  induction g with
  | nil=>rfl
  | cons n ns B=>simp only[ax,Dt.toWs,cj,B,cB];rfl
 change ((Dt.toWs (x.g.map yp)).all (PySem.W.kqdOk 5)&&_)=true;rw[e];rfl
def Sb(h:∀d∈ds,KY rm d):(Dt.tup ds).eqOk/\(Dt.lst ds).eqOk:=by
 have e:∀ds:AS,(∀d∈ds,KY rm d)->(Dt.toWs ds).all (PySem.W.kqdOk 7)=true:=by
  intro ds
  induction ds with
  | nil=>intro _;rfl
  | cons n ns B=>
   intro h;obtain⟨x,rfl,_⟩:=h n aq;simp only[Dt.toWs,cj,B λd F=>h d (aj _ F),KZ x,cB]
 show#[e ds h,e ds h]
def Sd (b:Int)(ns:AG):inV (.int b) '4'=ns.contains b:=by
 unfold inV
 induction ns with
 | nil=>rfl
 | cons n ns B=>
  rw[ax,dB,B,eW];show ((n==b) || _)=((b==n) || _);rw[show (n==b)=(b==n) from BEq.comm]
def Se (ns:AG):'4'.all B_=true:=by rw[bu];intro x B;obtain⟨n,_,rfl⟩:=aH.mp B;rfl
theorem GU{m:Int}:∀ {g:List (Int×Int)} {lo:Int},(∀q∈g,lo<=q.1/\q.1<m)->(g.Pairwise λa b=>a.1<b.1)->lo<=m->(g.length:Int)<=m-lo
 | [],lo,_,_,h=>by simp;lia
 | q::g,lo,h,hp,I=>by
  have h1:=h q aq;have B:=aR.mp hp;have J:=GU (g:=g) (lo:=q.1+1) (λx F=>#[by have:=B.1 x F;lia,(h x (aj _ F)).2]) B.2 '!';grind
def GV{g:List (Int×Int)}(h:Giv rm g)(F:rm.length<=8):g.length<=100:=by have:=GU (g:=g) (lo:=0) (m:=rm.length) (λq B=>#[(h.ok q B).1,(h.ok q B).2.1]) h.up '!';lia
def Sf (xs:AT)(k:Nat):Bj xs none (some (k:Int))=xs.take k:=by
 have e:HT.sIx xs.length xs.length (some (k:Int))=min k xs.length:=by simp[HT.sIx];try lia
 unfold Bj;rw[e,show HT.sIx xs.length 0 none=0 from rfl,eE,iD];grind
def Sg (xs:AT)(k:Nat):Bj xs (some (k:Int)) none=xs.drop k:=by
 have e:HT.sIx xs.length 0 (some (k:Int))=min k xs.length:=by simp[HT.sIx];try lia
 unfold Bj;rw[e,show HT.sIx xs.length xs.length none=xs.length from rfl];by_cases h:k<=xs.length;rw[eX h,bz '$'];rw[Nat.min_eq_right '!',List.drop_eq_nil_of_le (as:=xs) (i:=xs.length) '!',List.drop_eq_nil_of_le (as:=xs) (i:=k) '!',List.take_nil]
end L2
variable{g':Int->Int->L2.Dt}
namespace HT
open PyProof.Rows
section
variable{A:Ae}
def Sh (n:Nat):Builtin.Slice.sliceAdjust none none (-1) (n:Int)=((n:Int)-1,-1):=by unfold Builtin.Slice.sliceAdjust;simp
def Si (n:Nat):Builtin.Slice.slicePlaces ((n:Int)-1) (-1) (-1)=n:=by
 unfold Builtin.Slice.slicePlaces;grind
theorem xz{B:Type}{f g:α->Option B}:∀ {l:List α},(∀m∈l,f m=g m)->l.filterMap f=l.filterMap g
 | [],_=>rfl
 | a::l,h=>by rw[List.filterMap_cons,List.filterMap_cons,h a List.mem_cons_self,xz λm F=>h m (List.mem_cons_of_mem _ F)]
def Sj (xs:AK):((List.range xs.size).filterMap λ(m:Nat)=>xs[((xs.size:Int)-1+(m:Int)*(-1)).toNat]?).toArray=xs.toList.reverse.toArray:=by
 congr 1
 have e:∀m∈List.range xs.size,xs[((xs.size:Int)-1+(m:Int)*(-1)).toNat]?=some (xs.toList.reverse.getD m .none):=by
  intro m B;have I:((xs.size:Int)-1+(m:Int)*(-1)).toNat=xs.size-1-m:=by lia
  right
 rw[xz e];rw[List.filterMap_eq_map' (f:=λm=>xs.toList.reverse.getD m .none)];show List.ext_getElem? λi=>?_;rw[List.getElem?_map];by_cases hi:i<xs.size
 all_goals right
def Sl{I:Addr}{t:Tok}{Q:Int×Int×Nat->AZ->Prop}(hs:s.heap.IsSliceOf I .none .none (.int (-1) t))(h:Q ((n:Int)-1,-1,n) s):Ag prog w A (Builtin.Slice.sliceApplied (.ref I) (pure (n:Int))) Q E s:=by obtain⟨O,B,J,F⟩:=id hs;unfold Builtin.Slice.sliceApplied Builtin.Slice.sliceFields;show wpAny_bind (wpAny_bind (wpAny_field B F (x:=.none) A5 (wpAny_bind (wpAny_field B F (x:=.none) A5 (wpAny_bind (wpAny_field B F (x:=.int (-1) t) A5 (wpAny_pure ?_)))))));show wpAny_bind (xT (.int (-1) t) ?_);rw[if_neg '#'];show wpAny_bind (xT .none (wpAny_bind (xT .none (wpAny_bind (wpAny_pure ?_)))));change wpAny _ _ (match Builtin.Slice.sliceAdjust none none (-1) (n:Int) with | (lo,hi)=>pure (lo,(-1:Int),Builtin.Slice.slicePlaces lo hi (-1))) _ _ s;rw[Sh n];change wpAny _ _ (pure ((n:Int)-1,(-1:Int),Builtin.Slice.slicePlaces ((n:Int)-1) (-1) (-1))) _ _ s;rw[Si];show wpAny_pure h
def getItem_tuple_rev(I:IsTup s.heap t B)(hs:s.heap.IsSliceOf J .none .none (.int (-1) tk))(h:Q (.ref s.heap.objs.size) { s with heap:=s.heap.push { cls:=.type "tuple",data:=.seq B.toList.reverse.toArray } })(hsz:B.size<=sizeLine):Ag prog w A (getItem (.ref t) (.ref J)) Q E s:=by
 have F:sizeOk (.seq B.toList.reverse.toArray):=by
  change B.toList.reverse.toArray.size<=sizeLine;right
 obtain⟨os,O,U,ac⟩:=id hs;have Y:s.TypeIs (.ref J) "slice" := #[os,O,U];unfold getItem;try with_reducible show wpAny_holding ?_
 first | show wpAny_bind (wpAny_pure ?_) | skip
 show wpAny_bind (wpAny_sequenceKey I.typeIs '#' ?_)
 show wpAny_bind (wpAny_callSpecial?_slot (name:=Str.ofString "__getitem__") I.typeIs PyProof.Rows.slot_tuple_getitem
  (wpAny_call_entry PyProof.Rows.slot_tuple_getitem I.typeIs entry_tuple_getitem ?_ (args_tuple_getitem _ _)))
 change wpAny _ _ (Builtin.Tuple.tupleItemsOf (.ref t) >>= _) _ _ s;show wpAny_bind (tupleItemsOf_ I ?_);show wpAny_bind (wpAny_typeOf Y ?_);rw[if_pos '#'];show wpAny_bind (Sl hs ?_);have ab:¬ ((((B.size:Int)-1)==0&&(-1:Int)==1&&B.size==B.size)=true):=by right
 change wpAny _ _ (if (((B.size:Int)-1)==0&&(-1:Int)==1&&B.size==B.size)=true then _ else _) _ _ s;rw[if_neg ab,Sj]
 first
  | show wpAny_bind (m:=Builtin.Tuple.tupleExact _) (wpAny_newObj_type (wpAny_pure #[_,A5,wpAny_pure h]) F)
  | show wpAny_bind (by grind) (by grind)
end
end HT
namespace L2
open PyProof.Rows
section
variable{pos:Pos}
def Sm{us:_}(r:yf xs us):yf xs.reverse us.reverse:=by
 induction r with
 | nil=>show .nil
 | cons h _ B=>rw[en,en];show B.append (.cons h .nil)
def K0 (te:TE):TE:=λG H Q=>te G H λx H1=>∃a xs,x = .ref a/\H1 a=some (.tup xs)/\New H1 (.tup xs.reverse) Q
def Sn (U:PE X e te):PE X (.Subscript e (.Slice none none (some (.UnaryOp .USub (.Constant (.int 1) j p4) p3)) p2) pos) (K0 te):=by
 intro A6 s G H Q I h;show Subscript_ (thn (U A6 s G H _ I h) ?_);rintro v s1 ⟨x,H1,I1,Y,q1⟩;obtain⟨a,xs,rfl,ha,q⟩:=q1;cases Y;show wpAny_Slice ?_;rw[evalPart_none];show ae (ae ?_);rw[evalPart_some];show thn (JM (JN (X:=X)) (Jy (X:=X)) A6 s1 G H1 (λz H2=>z = .int (-1)/\H2=H1) I1 #[1,A5,A5,A5]) ?_;rintro u B ⟨z,H2,I2,r2,e1,e2⟩;subst e1 e2;obtain⟨tk,rfl⟩:=r2;have I3:Inv X A6 G H2 { B with heap:=B.heap.push { cls:=.type "slice",data:=.fields #v[.none,.none,.int (-1) tk] } }:=I2.kept (t':=B.toks) λb ob q=>ah _ q;obtain⟨J,r,O,hz⟩:=I3.tuple (.of ha);have F:J.toArray.size=xs.length:=by rw[aU];show r.length.symm
 show tail_any (ops:=[.ref a,.ref B.heap.objs.size]) O.typeIs PyProof.Rows.slot_tuple_getitem.lookup ?_ (by with_unfolding_all rfl);show HT.getItem_tuple_rev O (Heap.IsSliceOf.new ..) ?_ (by rw[F];show hz);show#[.ref _,_,I3.laid (t':=B.toks) (o:=.tup xs.reverse) (λb ob q=>ah _ q) (ak _) ?_,A5,q.at (I3.hok.fresh (ak _))];show#[by right,_,Sm r,uw.new _ _]
def So (B:QE X e te):QE X (.Subscript e (.Slice none none (some (.UnaryOp .USub (.Constant (.int 1) j p4) p3)) p2) pos) (K0 te):=#[Sn B.run]
end
def chg (st:AG)(b w:Int):AG:=st.take b.toNat++[w]++st.drop (b.toNat+1)
def Sq (st:AG){b w:Int}(B:0<=b):Bj (st.map V.int) none (some b)++[.int w]++Bj (st.map V.int) (some (b+1)) none=(chg st b w).map V.int:=by
 obtain⟨j,rfl⟩:∃j:Nat,b=j:=#[b.toNat,by lia];rw[Sf,show ((j:Int)+1)=((j+1:Nat):Int) by lia,Sg];unfold chg;right
def GW{st:AG}{b w:Int}(B:0<=b)(h1:b<st.length):(chg st b w).length=st.length:=by
 unfold chg;grind
def uz{st:AG}{b w c:Int}(F:0<=b)(h1:b<st.length)(I:0<=c):zy (chg st b w) c=if c=b then w else zy st c:=by
 obtain⟨j,rfl⟩:∃j:Nat,b=j:=#[b.toNat,by lia];obtain⟨k,rfl⟩:∃k:Nat,c=k:=#[c.toNat,by lia]
 unfold zy chg;simp only[bg,bq];have B:(st.take j).length=j:=by rw[bi];lia
 rcases cW k j with h | h | h;rw[if_neg '!',aC,bE (by rw[B];show h),cm h];right;rw[if_neg '!',aC,bp (by rw[B];lia),B];obtain⟨m,rfl⟩:∃m,k=j+1+m:=#[k-(j+1),by lia];rw[show j+1+m-j=m+1 by lia];right
def xp (st:AG)(g:List (Int×Int)):Bool:=g.all λq=>decide (zy st q.1=q.2)
def uu (st:AG)(x:Wi):Bool:=decide (zy st x.b=x.w)&&xp st x.g
def GX (F B:AG)(x:Wi):Bool:=uu F x&&decide (chg F x.b x.r=B)
def x5 (st:AG)(j:Nat):zy st (j:Int)=st.getD j 0:=by unfold zy;simp
def K1{st:AG}{r b:Int}(F:0<=b)(h1:b<st.length):zy (st++[r]) b=zy st b:=by
 obtain⟨j,rfl⟩:∃j:Nat,b=j:=#[b.toNat,by lia];have B:j<st.length:=by lia
 rw[x5,x5,bq,bq,bE B]
def K4{st:AG}{r:Int}:zy (st++[r]) (st.length:Int)=r:=by rw[x5,bq,bp (ak _),Nat.sub_self];rfl
def Sr{st:AG}{i:Nat}{m:Int}(h:st[i]?=some m):zy st (i:Int)=m:=by rw[x5,bq,h];rfl
def ES (F:∀r∈rm,2<=r/\r<=4){b:Int}(I:0<=b)(h1:b<rm.length):2<=zy rm b/\zy rm b<=4:=by
 obtain⟨j,rfl⟩:∃j:Nat,b=j:=#[b.toNat,by lia];have B:j<rm.length:=by lia
 rw[Sr (am B)];right
def IsSt (n:Nat)(d:Dt):Prop:=∃st:AG,d = .tup (st.map .int)/\st.length=n
theorem K5:∀st:AG,Dt.noLs (st.map .int)=true
 | []=>rfl
 | _::st=>by change (true&&Dt.noLs (st.map .int))=true;rw[K5 st];rfl
def Ss (st:AG):PySem.W.kqdOk 7 (Dt.tup (st.map .int)).toW=true:=by
 have e:∀ns:AG,(Dt.toWs (ns.map .int)).all (PySem.W.kqdOk 6)=true:=by
  intro ns
  induction ns with
  | nil=>rfl
  | cons n ns B=>simp only[ax,Dt.toWs,cj,B,cB];rfl
 show e st
def Su(h:∀d∈ds,IsSt n d):(Dt.lst ds).eqOk:=by
 have e:∀ds:AS,(∀d∈ds,IsSt n d)->(Dt.toWs ds).all (PySem.W.kqdOk 7)=true:=by
  intro ds
  induction ds with
  | nil=>intro _;rfl
  | cons m I B=>
   intro h;obtain⟨x,rfl,_⟩:=h m aq;simp only[Dt.toWs,cj,B λd F=>h d (aj _ F),Ss x,cB]
 show e ds h
end L2
namespace L2
open PyProof.Rows
section
variable{A:Ae}
variable{R:Result->AZ->Prop}
def Sv{acc:_}(I:Nat->AZ->Prop)(turn:∀n s,I n s->Ag prog w A (pyNext it) (λr s₁=>match r with
   | none=>R (.ok .next) s₁
   | some v=>Ag prog w A (letOwnedTupleGo target it v) (λ_ s₂=>Ag prog w A (assign target env v) (λ_ s₃=>
     Ag prog w A 'A' (λok s₄=>
      if ok=true then Ag prog w A (eval elt env) (λx s₅=>
       Ag prog w A (call (.builtin "list.append") [acc,x]) (λ_ s₆=>∃m,m<n/\I m s₆) '%' s₅) '%' s₄
      else ∃m,m<n/\I m s₄) '%' s₃) '%' s₂) '%' s₁) '%' s)(n:Nat)(h:I n s):
  codeAny '/' A (.compLoop (.ListComp elt [c1,'9'] scope pos) 1 it acc env) R s:=by
 show dX A5 I (λn s hI=>?_) n h;show eJ ?_;unfold compTurn;show aa '?'
 cases r with
 | none=>show ae h₁
 | some v=>
  show aa (aE h₁ (λ_ s₂ h₂=>?_) λ_ _ h'=>h'.elim);show aa '>'
  cases ok with
  | false=>show ae #[A5,h₄]
  | true=>
   show aa (aa (aE h₄ (λx s₅ h₅=>aa (aE h₅ (λ_ s₆ h₆=>ae (ae #[A5,h₆])) λ_ _ h'=>h'.elim)) λ_ _ h'=>h'.elim))
def Sw{acc:_}(h1:codeAny '/' A (.compLoop (.ListComp elt [c1,'9'] scope pos) 1 it acc env) R s)(h2:Ag prog w A (pyIter it) (λit' s'=>codeAny '/' A (.compLoop (.ListComp elt [c1,'9'] scope pos) 1 it' acc env) R s') '%' s):
  codeAny '/' A (.compStart (.ListComp elt [c1,'9'] scope pos) 1 it acc env) R s:=by
 show eY ?_;show eZ ?_;unfold compStart;rw[if_neg (by change ¬ ((0 != 0)=true);decide)];show aa (bB ?_);split;show ae #[A5,h1];show aa (cD ?_);show aa (bw ?_);show aa (aE h2 (λit' s' h'=>ae #[A5,h']) λ_ _ h'=>h'.elim)
def Sx{acc:_}(hf:∀x,foldedSetIterable it2 env x=pure x)(I:Nat->AZ->Prop)(turn:∀n s,I n s->Ag prog w A (pyNext it) (λr s₁=>match r with
   | none=>R (.ok .next) s₁
   | some v=>Ag prog w A (letOwnedTupleGo target it v) (λ_ s₂=>Ag prog w A (assign target env v) (λ_ s₃=>
     Ag prog w A 'A' (λok s₄=>
      if ok=true then Ag prog w A (eval it2 env) (λx s₅=>Ag prog w A (pyIter x) (λiv s₆=>
       codeAny '/' A (.compStart (.ListComp elt ['9',#[t2,it2,ifs2,0]] scope pos) 1 iv acc env) (λr s₇=>match r with
        | .ok _=>∃m,m<n/\I m s₇
        | .error _=>False) s₆) '%' s₅) '%' s₄
      else ∃m,m<n/\I m s₄) '%' s₃) '%' s₂) '%' s₁) '%' s)(n:Nat)(h:I n s):
  codeAny '/' A (.compLoop (.ListComp elt ['9',#[t2,it2,ifs2,0]] scope pos) 0 it acc env) R s:=by
 show dX A5 I (λn s hI=>?_) n h;show eJ ?_;unfold compTurn;show aa '?'
 cases r with
 | none=>show ae h₁
 | some v=>
  show aa (aE h₁ (λ_ s₂ h₂=>?_) λ_ _ h'=>h'.elim);show aa '>'
  cases ok with
  | false=>show ae #[A5,h₄]
  | true=>
   show aa (aE h₄ (λx s₅ h₅=>?_) λ_ _ h'=>h'.elim);show aa (bw ?_);show wpAny _ _ (foldedSetIterable it2 env x >>= _) _ _ _;rw[hf];show aa (ae ?_);show wpAny _ _ (holding [x] (pyIter x) >>= _) _ _ _;show aa (bQ (aE h₅ (λiv s₆ h₆=>?_) λ_ _ h'=>h'.elim));show aa (wpAny_runOwn (h:=none) ?_);show dS (show codeAny '/' (A.mark none) _ _ s₆ from h₆) λr s₇ h₇=>?_
   cases r with
   | ok f=>show ae #[A5,h₇]
   | error e=>show h₇.elim
end
def GY (J:It)(g:TG)(ti:TT)(te:TE)(acc:Addr)(N:St->Hp->Prop)(G:St)(H:Hp):Prop:=∃W:Nat->Nat->St->Hp->Prop,(∃m,W 0 m G H)/\
 ∀i m B H',W i m B H'->(J.stop i H'/\N B H')\/(J.go i H'/\∃N2:St->Hp->Prop,(∀ F H2,N2 F H2->∃I,I<m/\W (i+1) I F H2)/\∀x H2,J.yld i H' x H2->DE g ti te acc N2 x B H2)
def GZ (g:TG)(ti:TT)(wi2:TI)(g2:TG)(ti2:TT)(te:TE)(acc:Addr)(N:St->Hp->Prop)(x:V)(G:St)(H:Hp):Prop:=
 g x G H λB H3=>ti B H3 λF H4=>if F=true then wi2 B H4 λJ2 H5=>GY J2 g2 ti2 te acc N B H5 else N B H4
def K6 (J:It)(g:TG)(ti:TT)(wi2:TI)(g2:TG)(ti2:TT)(te:TE)(acc:Addr)(Q:VK)(G:St)(H:Hp):Prop:=∃W:Nat->Nat->St->Hp->Prop,(∃m,W 0 m G H)/\
 ∀i m B H',W i m B H'->(J.stop i H'/\Q (.ref acc) H')\/(J.go i H'/\∃N:St->Hp->Prop,(∀ F H2,N F H2->∃I,I<m/\W (i+1) I F H2)/\∀x H2,J.yld i H' x H2->GZ g ti wi2 g2 ti2 te acc N x B H2)
def K7 (wi:TI)(g:TG)(ti:TT)(wi2:TI)(g2:TG)(ti2:TT)(te:TE)(A8:List '0'):TE:=λG H Q=>wi G H λJ H1=>∀acc,H1 acc=none->K6 J g ti wi2 g2 ti2 te acc Q (xw G A8) (upd H1 acc (.lst []))
section
variable{pos:Pos}{g:TG}{Q:VK}
def Sy (O:Opn X scope A8 Fam)(hc:X.calm=true)(hi:PI X tg iter wi)(hg:∀X',Fam X'->PG X' tg g)(ht:∀X',Fam X'->PTs X' ifs ti)(ad:∀X',Fam X'->PI X' tg2 iter2 wi2)(ag:∀X',Fam X'->PG X' tg2 g2)(al:∀X',Fam X'->PTs X' ifs2 ti2)(he:∀X',Fam X'->PE X' elt te)(hs:gM iter X)(an:∀X',Fam X'->∀x,foldedSetIterable iter2 X'.env x=pure x)(I:'&')(h:K7 wi g ti wi2 g2 ti2 te A8 G H Q)(ab:EG X A6 G use Qp Q):
  Af X (comprehension (.ListComp elt [#[tg,iter,ifs,0],#[tg2,iter2,ifs2,0]] scope pos) scope X.env ipos (newList []) false (eval iter X.env) use) Qp X.xe s:=
 uB (ob:={ cls:=.type "list",dict:=none,data:=.seq ([]:AN).toArray }) (o0:=λ_=>.lst []) (Fin:=λacc H=>Q (.ref acc) H)
  (B:=λX' acc P s=>wpAny '8' X'.A (eval iter2 X'.env) (λx s5=>wpAny '8' X'.A (pyIter x) (λiv s6=>codeAny '8' X'.A (.compStart (.ListComp elt [#[tg,iter,ifs,0],#[tg2,iter2,ifs2,0]] scope pos) 1 iv (.ref acc) X'.env) (λr s7=>match r with | .ok _=>P s7 | .error _=>False) s6) '%' s5) '%' s) (tb:=λacc Nx G H=>wi2 G H λJ2 H5=>GY J2 g2 ti2 te acc Nx G H5)
  O hc A5 hs (λ_ _ _ _ _ h0 h1=>fE h0 h1) (λX' Y _ _ _ _ I F n h=>Sx (an X' Y) I F n h) (λs Q h=>bh h) (λ_ _=>#[aQ _,[],0,.nil,ar _ A5]) hi hg ht (λX' Y pX wX AX cX xX acc pl s G H Nx P I q k=>by
  have e9:=ad X' Y pl s G H _ I q;rw[xX] at e9;show thn e9 λxv s1 h1=>thn h1 λa0 s2 h2=>?_;obtain⟨it,fp,tn,J,H2,e,I2,T,ac,f2,W,⟨m0,w0⟩,F⟩:=h2;subst e
  have U:=Gu (X:=X') (e:=.ListComp elt [#[tg,iter,ifs,0],#[tg2,iter2,ifs2,0]] scope pos) (pl:=pl) (R:=λr s7=>match r with | .ok _=>P s7 | .error _=>False) (k:=1) (B:=λP s=>wpAny '8' X'.A (eval elt X'.env) (λx s5=>wpAny '8' X'.A (call (.builtin "list.append") [.ref acc,x]) (λ_ s6=>P s6) '%' s5) '%' s) (tb:=λNx G H=>te G H λv H'=>∃xs,H' acc=some '+'/\xs.length<sizeLine/\Nx G (upd H' acc (.lst (xs++[v]))))
   (λ_ _ I F n h=>Sv I F n h) cX xX T (λhn b hb=>#[hn b hb,(f2 b hb).2]) (ag X' Y) (al X' Y) (λ_ _ _ _ _ _ I q k=>Gw (he X' Y) xX I q k) F (λas H' s' I' q'=>k as H' s' I' q') I2 ac (λb hb=>(f2 b hb).1) w0
  show Sw U (T.self X'.A 0 _ _ _ ac U)) I h (λJ H1 acc q hn=>q acc hn) ab
end
def Sz{pos:Pos}{g:TG}(B:X.N.Nodup)(F:X.N[ix]?=some nx)(J:X.env.scope.names.lookup nx=some .local)(hc:X.calm=true)(c:CompOk X scope N A8)(hi:QI X tg iter wi)(hg:∀C s H ex,QG ')' tg g)(ht:∀C s H ex,QTs ')' ifs ti)(O:∀C s H ex,QI ')' tg2 iter2 wi2)(Y:∀C s H ex,QG ')' tg2 g2)(ab:∀C s H ex,QTs ')' ifs2 ti2)(he:∀C s H ex,QE ')' elt te)(ac:swapsWithSole [.Name nx px] (.ListComp elt [#[tg,iter,ifs,0],#[tg2,iter2,ifs2,0]] scope pos) spos.line X.env=pure true:=by rfl)(hs:gM iter X:=by intro _;rfl)(ad:∀C s H ex x,foldedSetIterable iter2 ')'.env x=pure x:=by intro _ _ _ _ _;rfl)(ag:(assignEach [.Name nx px] X.env).map (·.2)=[assign (.Name nx px) X.env]:=by rfl):QS X (.Assign [.Name nx px] (.ListComp elt [#[tg,iter,ifs,0],#[tg2,iter2,ifs2,0]] scope pos) spos) (BK (K7 wi g ti wi2 g2 ti2 te A8) (BJ ix)):=#[λA6 s G H BB I h=>Kv B F J ac ag (λ_=>rfl) λU Qp hf=>Sy (Q:=λv H=>BB.nx (G.set ix (some v)) H) (uJ c) hc hi.run (A_ λC s H ex=>(hg C s H ex).run) (A_ λC s H ex=>(ht C s H ex).run) (A_ λC s H ex=>(O C s H ex).run) (A_ λC s H ex=>(Y C s H ex).run) (A_ λC s H ex=>(ab C s H ex).run) (A_ λC s H ex=>(he C s H ex).run) hs (A_ λC s H ex=>ad C s H ex) I h hf]
section
variable{a:Addr}{xs:AT}{g:TG}{Q:VK}{N:St->Hp->Prop}
def SA (B:H acc=none)(Pv:Nat->St->Hp->Prop)(I:∀H',H' acc=some (.lst [])->yL H H'->Pv 0 G H')(J:∀i G H,i<=xs.length->Pv i G H->SqL K H a xs)(hs:∀i x G H,xs[i]?=some x->Pv i G H->GZ g ti wi2 g2 ti2 te acc (Pv (i+1)) x G H)(O:∀ G H,Pv xs.length G H->Q (.ref acc) H):K6 (Itl K a) g ti wi2 g2 ti2 te acc Q G (upd H acc (.lst [])):=by
 show#[λi m G H=>m=xs.length-i/\i<=xs.length/\Pv i G H,#[xs.length,by simp,aQ _,I _ zg (yL.upd B)],?_];rintro i m G H ⟨rfl,hi,p⟩;have q:=J i G H hi p;by_cases F:i<xs.length;show .inr #[#[xs,xs[i],q,by simp[F]],Pv (i+1),λU H' Y=>#[xs.length-(i+1),by lia,A5,F,Y],λx H' y=>?_];obtain⟨e,y⟩:=y;subst e;show hs i x G _ (y xs q) p;have e:i=xs.length:=by lia
 subst e;show .inl #[#[xs,q,ak _],O G H p]
def SB (Pv:Nat->St->Hp->Prop)(F:Pv 0 G H)(I:∀i G H,i<=xs.length->Pv i G H->SqL K H a xs)(hs:∀i x G H,xs[i]?=some x->Pv i G H->DE g ti te acc (Pv (i+1)) x G H)(J:∀ G H,Pv xs.length G H->N G H):GY (Itl K a) g ti te acc N G H:=by
 show#[λi m G H=>m=xs.length-i/\i<=xs.length/\Pv i G H,#[xs.length,by simp,aQ _,F],?_];rintro i m G H ⟨rfl,hi,p⟩;have q:=I i G H hi p;by_cases B:i<xs.length;show .inr #[#[xs,xs[i],q,by simp[B]],Pv (i+1),λO H' U=>#[xs.length-(i+1),by lia,A5,B,U],λx H' y=>?_];obtain⟨e,y⟩:=y;subst e;show hs i x G _ (y xs q) p;have e:i=xs.length:=by lia
 subst e;show .inl #[#[xs,q,ak _],J G H p]
end
def SC:CallQ X (.type "range") (λxs H Q=>∃n,xs=[.int n]/\New H (.rng 0 n) Q):=#[by
 intro A6 s G H xs us Q I r h;obtain⟨n,rfl,q⟩:=h;obtain⟨u,rfl,B⟩:=B9 r;obtain⟨t,rfl⟩:=B;show call_range_1 ?_;show#[.ref s.heap.objs.size,_,I.laid (t':=s.toks+1+1) (o:=.rng 0 n) (λb ob q=>ah _ q) (ak _) ?_,A5,q.at (I.hok.fresh (ak _))];show#[_,_,_,ar _ A5]]
def K8 (n:Nat):Builtin.Range.rangeSize 0 (n:Int) 1=n:=by
 unfold Builtin.Range.rangeSize;grind
theorem K9:∀ {xs:AT} {us:AN},xs.length=us.length->(∀ (i:Nat) x u,xs[i]?=some x->us[i]?=some u->ye x u)->yf xs us
 | [],[],_,_=>.nil
 | [],_::_,h,_=>by simp at h
 | _::_,[],h,_=>by simp at h
 | x::xs,u::us,h,k=>.cons (k 0 x u A5 A5) (K9 (by simpa using h) λi y v B F=>k (i+1) y v B F)
def SD (Y:X.calm=true):CallQ X (.type "list") (λxs H Q=>∃ (p:Addr) (n:Nat),xs=[.ref p]/\H p=some (.rng 0 n)/\n<=1000/\New H (.lst ((List.range n).map λi:Nat=>V.int i)) Q):=#[by
 intro A6 s G H xs us Q I r h;obtain⟨p,n,rfl,hp,O,q⟩:=h;obtain⟨u,rfl,ru⟩:=B9 r;cases ru;obtain⟨t,u,v,ho⟩:=I.hok p _ hp;have J:n<sizeLine:=Kr O;show call_list_range (a:=0) (b:=n) (c:=1) (n:=n) (I.ok.hd Y) ho ?_ ?_ (av O '#') λh' tk B c' kp hg F=>?_;have e:=K8 n;unfold Builtin.Range.small;rw[e];simp[Builtin.Range.rangeFitsLong];lia;show K8 n
 have hv:yf ((List.range n).map λi:Nat=>V.int i) B.toList:=by
  show K9 (by rw[af,aZ,aM,F.1]) λj x u U hu=>?_;rw[aF] at U;obtain⟨k,hk,rfl⟩:=aI.mp U;obtain⟨ab,e⟩:=ai.mp hk;have:k=j:=by simpa using e.symm
  subst this;obtain⟨t',rfl⟩:=F.2 k u (by simpa using hu);show#[t',by lia]
 show#[.ref s.heap.objs.size,_,I.laid (t':=tk) (o:=.lst ((List.range n).map λi:Nat=>V.int i)) kp (ak _) ?_,A5,q.at (I.hok.fresh (ak _))];show#[by rw[af,aZ];show cS J,B.toList,c',hv,by simpa using hg]]
def zl (m:Int):AG:=(List.range m.toNat).map λi:Nat=>(i:Int)
def ug (B:AF)(F:AG):AF:=B.flatMap λr=>F.map λw=>r++[w]
def yg (cs:AF):AF:=cs.foldl ug [[]]
def yF (cs:AF)(c:AG):yg (cs++[c])=ug (yg cs) c:=by
 unfold yg;right
abbrev stD (st:AG):Dt:=.tup (st.map .int)
theorem uQ:∀A9:AF,Dt.noLs (A9.map stD)=true
 | []=>rfl
 | st::A9=>by show ((stD st).noL&&Dt.noLs (A9.map stD))=true;rw[uQ A9,show (stD st).noL=true from K5 st];rfl
def K_ (H:Hp)(xs:AT)(cs:AF):Prop:=xs.length=cs.length/\∀ (i:Nat) c,cs[i]?=some c->∃a,xs[i]?=some (.ref a)/\Rd H a (.lst (c.map V.int))
def La (K:AH):Sp:=λvs H Q _=>∃B xs cs,vs=[.ref B]/\Rd H B '+'/\K_ H xs cs/\cs.length<=8/\(∀c∈cs,c.length<=4)/\
 ∀a ys H',H a=none->H' a=some (.lst ys)->IsL H' ((yg cs).map stD) ys->yL H H'->Q (.ref a) H'
def SE (B:AF)(r F:AG):ug (B++[r]) F=ug B F++F.map λw=>r++[w]:=by
 unfold ug;right
def uP (B:AF)(F:AG):(ug B F).length=B.length*F.length:=by
 unfold ug;rw[List.length_flatMap]
 induction B with
 | nil=>simp
 | cons r B I=>rw[ax,List.sum_cons,I,af,aS,Nat.succ_mul,Nat.add_comm]
def G5:∀ (cs:AF) (B:AG),B∈yg cs->B.length=cs.length:=by
 intro cs
 have:∀ (n:Nat) (cs:AF),cs.length=n->∀B,B∈yg cs->B.length=cs.length:=by
  intro n
  induction n with
  | zero=>
   intro cs h B F;have:cs=[]:=a9 h;subst this;have:B=[]:=by simpa [yg] using F
   right
  | succ n J=>
   intro cs h B F;have I:cs≠[]:=by intro z;rw[z] at h;simp at h
   rw[<- bG I,yF] at F;unfold ug at F;grind
 show this cs.length cs A5
def SF:∀n cs,cs.length=n->(∀c∈cs,c.length<=4)->(yg cs).length<=4 ^ n:=by
 intro n
 induction n with
 | zero=>
  intro cs h _;have:cs=[]:=a9 h;subst this;show ak _
 | succ n I=>
  intro cs h F;have B:cs≠[]:=by intro z;rw[z] at h;simp at h
  rw[<- bG B,yF,uP,Nat.pow_succ];show Nat.mul_le_mul (I cs.dropLast (by grind) λc J=>F c ((List.dropLast_sublist cs).subset J)) (F _ (List.getLast_mem B))
def Lb{cs:AF}(I:cs.length<=8)(B:∀c∈cs,c.length<=4)(k:Nat):(yg (cs.take k)).length<=65536:=by
 show av (SF _ (cs.take k) A5 λc F=>B c (bH F)) ?_;have:(cs.take k).length<=8:=by rw[bi];lia
 show av (fY '#' this) '#'
def xS (m:Int):(zl m).length=m.toNat:=by unfold zl;rw[af,aZ]
section
open PySem.W
variable{f:Nat->Int}
def ansK (f:Nat->Int)(i j:Nat):Bool:=decide (f i<f j)
def key (f:Nat->Int)(p:Array Nat)(k:Nat):Int:=f (p.getD k 0)
structure Up (n:Nat)(f:Nat->Int)(p:Array Nat)(m:Nat):Prop where
 perm:p.Perm (List.range n).toArray
 le:m<=n
 up:∀k,k+1<m->key f p k<key f p (k+1)
def Lc{p:Array Nat}(h:p.Perm (List.range n).toArray):p.size=n:=by have:=h.size_eq;simpa using this
def Up.lt_of{p:_}(h:Up n f p m):∀ {i j:Nat},i<j->j<m->key f p i<key f p j:=by
 intro i j
 induction j with
 | zero=>intro I;lia
 | succ j J=>
  intro B F;have h1:=h.up j F;grind
def G_ (n:Nat)(f:Nat->Int):Prop:=∀i j,i<n->j<n->f i=f j->i=j
end
def Ld:Bool->Keyed->Array Keyed->Nat->Nat->Nat->StateT SortSt Sem '0':=sortPriv% PySem.Builtin.gallop
def SG:Array Keyed->Array Keyed->StateT SortSt Sem (Array Keyed):=sortPriv% PySem.Builtin.mergeLo
def SH:Array Keyed->Array Keyed->StateT SortSt Sem (Array Keyed):=sortPriv% PySem.Builtin.mergeHi
def BL (M:Model)(A:Ae)(s:AZ)(κ:SortKind)(L0:List Keyed)(f:Keyed->Int):Prop:=
 ∀x y,x∈L0->y∈L0->∀Q E,Q (decide (f x<f y)) s->wpAny M A (keyLt' κ x.1 y.1) Q E s
section
variable{M:Model}{A:Ae}{κ:SortKind}{f:Keyed->Int}
def DJ (R:BL M A s κ L0 f){x y:Keyed}(B:x∈L0)(F:y∈L0){st:SortSt}(I:kindOf st=κ){Q:Option Bool->SortSt->Prop}(h:Q (some (decide (f x<f y))) st):wpS M A E s (lt' x y) Q st:=by rw[lt'_eq];show wpS_bind (wpS_get ?_);rw[I];show wpS_bind (wpS_lift (dM (R x y B F _ _ #[A5,wpS_pure h])))
def yn{a:Array Keyed}{i:Nat}{x:Keyed}(e:a[i]?=some x){st:SortSt}{Q:Keyed->SortSt->Prop}(h:Q x st):wpS M A E s (elem' a i) Q st:=by rw[elem'_eq,e];show wpS_pure h
def xG (f:Keyed->Int)(left:Bool)(key x:Keyed):Bool:=if left=true then decide (f x<f key) else !decide (f key<f x)
def SJ (R:BL M A s κ L0 f){key x:Keyed}(B:x∈L0)(F:key∈L0){st:SortSt}(I:kindOf st=κ){Q:Option Bool->SortSt->Prop}(h:Q (some (xG f left key x)) st):
  wpS M A E s (if left=true then lt' x key else lt' key x >>= λr=>pure (Option.map (λb=>!b) r)) Q st:=by
 unfold xG at h
 cases left with
 | true=>rw[if_pos rfl] at h ⊢;show DJ R B F I h
 | false=>rw[if_neg aB] at h ⊢;show wpS_bind (DJ R F B I (wpS_pure h))
def SK (R:BL M A s κ L0 f){key:Keyed}{a:Array Keyed}{base:Nat}(hy:key∈L0)(ha:∀x∈a,x∈L0)(hn:base+n<=a.size)(hh:hint<n){B:Nat->Bool}(hB:∀i x,i<n->a[base+i]?=some x->xG f left key x=B i)(hm:∀i j,i<=j->j<n->B j=true->B i=true){st:SortSt}(hk:kindOf st=κ){Q:Option Nat->SortSt->Prop}(h:∀k,k<=n->(∀i,i<k->B i=true)->(∀i,k<=i->i<n->B i=false)->Q (some k) st):wpS M A E s (Ld left key a base n hint) Q st:=by
 have U:∀i,i<n->∀ {Q:Option Bool->SortSt->Prop},Q (some (B i)) st->wpS M A E s (elem' a (base+i) >>= λx=>if left=true then lt' x key else lt' key x >>= λr=>pure (Option.map (λb=>!b) r)) Q st:=λi hi {Q} hq=>by have e:a[base+i]?=some a[base+i]:=aX '!';show wpS_bind (yn e (SJ R (ha _ (et _)) hy hk ?_));rw[hB i _ hi e];show hq
 have up:∀i j,i<=j->j<n->B i=false->B j=false:=λi j h1 h2 J=>by
  cases e:B j with
  | false=>rfl
  | true=>rw[hm i j h1 h2 e] at J;cases J
 have fin:∀lo hi,lo<=hi->hi<=n->(∀i,i<lo->B i=true)->(∀i,hi<=i->i<n->B i=false)->∀ {BA:Option '0'×Nat×Nat->SortSt->Prop},(∀l k,k<=n->(∀i,i<k->B i=true)->(∀i,k<=i->i<n->B i=false)->BA (none,l,k) st)->∀ {body:Nat->Option '0'×Nat×Nat->StateT SortSt Sem (ForInStep (Option '0'×Nat×Nat))},
   (∀x lo hi (G':ForInStep (Option '0'×Nat×Nat)->SortSt->Prop),lo ≥ hi->G' (.done (none,lo,hi)) st->wpS M A E s (body x (none,lo,hi)) G' st)->
   (∀x lo hi (G':ForInStep (Option '0'×Nat×Nat)->SortSt->Prop),lo<hi->hi<=n->(B (lo+(hi-lo) / 2)=true->G' (.yield (none,lo+(hi-lo) / 2+1,hi)) st)->(B (lo+(hi-lo) / 2)=false->G' (.yield (none,lo,lo+(hi-lo) / 2)) st)->wpS M A E s (body x (none,lo,hi)) G' st)->
   wpS M A E s (forIn [0:n] (none,lo,hi) body) BA st:=by
  intro lo hi h1 h2 J O BA hG body b1 b2;show cT (I:=λx c F=>F=st/\∃lo hi,c=(none,lo,hi)/\lo<=hi/\hi<=n/\(∀i,i<lo->B i=true)/\(∀i,hi<=i->i<n->B i=false)/\hi-lo+x<=n) ?_ ?_ #[A5,lo,hi,A5,h1,h2,J,O,by lia];rintro x c F _ hx ⟨rfl,lo,hi,rfl,h1,h2,J,O,h5⟩;by_cases e:lo ≥ hi;show b1 x lo hi _ e ?_;obtain rfl:lo=hi:=by lia
  show hG _ _ h2 J O;show b2 x lo hi _ '!' h2 (λhb=>?_) (λhb=>?_);show#[A5,_,_,A5,by lia,h2,λi ac=>hm i _ '!' '!' hb,O,by lia];show#[A5,_,_,A5,by lia,by lia,J,λi h1 h2=>up _ i h1 h2 hb,by lia];rintro c F ⟨rfl,lo,hi,rfl,h1,h2,J,O,h5⟩;obtain rfl:lo=hi:=by lia
  show hG _ _ h2 J O
 show wpS_bind (U hint hh ?_);dsimp only
 cases eB:B hint with
 | true=>
  rw[if_pos rfl];show wpS_bind (wpS_mono (cT (I:=λx c F=>F=st/\∃l o,c=(none,l,o)/\l<o/\hint+l<n/\B (hint+l)=true/\x+1<=o) (Q:=λc F=>F=st/\∃l o,c=(none,l,o)/\l<o/\hint+l<n/\B (hint+l)=true/\(o ≥ n-hint\/(hint+o<n/\B (hint+o)=false))) ?_ ?_ #[A5,0,1,A5,by lia,by lia,eB,by lia]) ?_);rintro x c F _ hx ⟨rfl,l,o,rfl,h1,h2,J,O⟩;dsimp only;by_cases e:o ≥ n-hint;rw[if_pos e];show wpS_pure #[A5,l,o,A5,h1,h2,J,.inl e];rw[if_neg e];show wpS_bind (U (hint+o) '!' ?_)
  cases eo:B (hint+o) with
  | true=>show wpS_pure #[A5,o,2*o+1,A5,by lia,by lia,eo,by lia]
  | false=>show wpS_pure #[A5,l,o,A5,h1,h2,J,.inr #[by lia,eo]]
  rintro c F ⟨rfl,l,o,rfl,h1,h2,J,O⟩;show#[A5,l,o,A5,h1,h2,J,.inl '!'];rintro c F ⟨rfl,l,o,rfl,h1,h2,J,O⟩;dsimp only;show wpS_bind (fin (hint+l+1) (hint+min o (n-hint)) '!' '!' (λi hi=>hm i _ '!' h2 J) (λi h5 h6=>?_) (λl' k k1 k2 k3=>?_) (λx lo hi G' e hg=>?_) (λx lo hi G' e e2 Y ab=>?_));rcases O with O | ⟨O,h7⟩;lia;show up _ i '!' h6 h7;show wpS_pure (h k k1 k2 k3);dsimp only;rw[if_pos e];show wpS_pure hg;dsimp only;rw[if_neg '!'];show wpS_bind (U _ '!' ?_)
  cases eb:B (lo+(hi-lo) / 2) with
  | true=>show wpS_pure (Y eb)
  | false=>show wpS_pure (ab eb)
 | false=>
  rw[if_neg aB];show wpS_bind (wpS_mono (cT (I:=λx c F=>F=st/\∃l o,c=(none,l,o)/\l<o/\l<=hint/\B (hint-l)=false/\x+1<=o) (Q:=λc F=>F=st/\∃l o,c=(none,l,o)/\l<o/\l<=hint/\B (hint-l)=false/\(o ≥ hint+1\/(o<=hint/\B (hint-o)=true))) ?_ ?_ #[A5,0,1,A5,by lia,by lia,eB,by lia]) ?_);rintro x c F _ hx ⟨rfl,l,o,rfl,h1,h2,J,O⟩;dsimp only;by_cases e:o ≥ hint+1;rw[if_pos e];show wpS_pure #[A5,l,o,A5,h1,h2,J,.inl e];rw[if_neg e];show wpS_bind (U (hint-o) '!' ?_)
  cases eo:B (hint-o) with
  | true=>show wpS_pure #[A5,l,o,A5,h1,h2,J,.inr #[by lia,eo]]
  | false=>show wpS_pure #[A5,o,2*o+1,A5,by lia,by lia,eo,by lia]
  rintro c F ⟨rfl,l,o,rfl,h1,h2,J,O⟩;show#[A5,l,o,A5,h1,h2,J,.inl '!'];rintro c F ⟨rfl,l,o,rfl,h1,h2,J,O⟩;dsimp only;show wpS_bind (fin (hint+1-min o (hint+1)) (hint-l) '!' '!' (λi hi=>?_) (λi h5 h6=>up _ i h5 h6 J) (λl' k k1 k2 k3=>?_) (λx lo hi G' e hg=>?_) (λx lo hi G' e e2 Y ab=>?_));rcases O with O | ⟨O,h7⟩;lia;show hm i _ '!' '!' h7;show wpS_pure (h k k1 k2 k3);dsimp only;rw[if_pos e];show wpS_pure hg;dsimp only;rw[if_neg '!'];show wpS_bind (U _ '!' ?_)
  cases eb:B (lo+(hi-lo) / 2) with
  | true=>show wpS_pure (Y eb)
  | false=>show wpS_pure (ab eb)
def SL{key x y:Keyed}(h:f x<=f y)(e:xG f left key y=true):xG f left key x=true:=by
 unfold xG at e ⊢
 cases left with
 | true=>rw[if_pos rfl] at e ⊢;have:=be e;show aD '!'
 | false=>
  rw[if_neg aB] at e ⊢;simp only[eu,bX] at e ⊢;lia
abbrev leF (f:Keyed->Int)(x y:Keyed):Prop:=f x<=f y
def C_ (R:BL M A s κ L0 f){key:Keyed}{a:Array Keyed}{base:Nat}(hy:key∈L0)(ha:∀x∈a,x∈L0)(hn:base+n<=a.size)(hh:hint<n)(hs:((a.toList.drop base).take n).Pairwise (leF f)){st:SortSt}(hk:kindOf st=κ){Q:Option Nat->SortSt->Prop}(h:∀k,k<=n->(∀x∈(a.toList.drop base).take k,xG f left key x=true)->(∀x∈((a.toList.drop base).take n).drop k,xG f left key x=false)->Q (some k) st):wpS M A E s (Ld left key a base n hint) Q st:=by
 have O:((a.toList.drop base).take n).length=n:=by simp;lia
 have F:∀i,i<n->∃x,a[base+i]?=some x/\((a.toList.drop base).take n)[i]?=some x:=λi hi=>by show#[a[base+i],aX '!',?_];rw[cm hi,gQ,cq,aX '!']
 show SK R hy ha hn hh (B:=λi=>match a[base+i]? with | some x=>xG f left key x | none=>false) (λi x hi e=>by rw[e]) (λi j al hj Y=>?_) hk λk ab h1 h2=>h k ab (λx hx=>?_) (λx hx=>?_);obtain⟨x,I,J⟩:=F i '!';obtain⟨y,e3,U⟩:=F j hj;rw[I];rw[e3] at Y;by_cases e:i=j;subst e;rw[I] at e3;cases e3;show Y;show SL ?_ Y;obtain⟨ac,q1⟩:=ai.mp J;obtain⟨ad,q2⟩:=ai.mp U;have:=ce.mp hs i j ac ad '!';rw[q1,q2] at this;show this;obtain⟨i,hi,e⟩:=cE.mp hx;have ag:i<k:=by simp at hi;lia
 have:=h1 i ag;obtain⟨y,I,J⟩:=F i '!';rw[I] at this;rw[cm '!'] at J;rw[ii] at e;obtain⟨_,U⟩:=ai.mp J;rw[<- e,U];show this;obtain⟨i,hi,e⟩:=cE.mp hx;rw[eI,O] at hi;have:=h2 (k+i) '!' '!';obtain⟨y,I,J⟩:=F (k+i) '!';rw[I] at this;rw[List.getElem_drop] at e;obtain⟨_,U⟩:=ai.mp J;rw[<- e,U];show this
end
structure Mg (R:Keyed->Keyed->Prop)(T out ra rb:List Keyed):Prop where
 perm:(out++(ra++rb)).Perm T
 up:out.Pairwise R
 le:∀x∈out,∀y∈ra++rb,R x y
 ua:ra.Pairwise R
 ub:rb.Pairwise R
section
variable{R:Keyed->Keyed->Prop}{T out ra rb c:List Keyed}
def Mg.a (h:Mg R T out (c++ra) rb)(k:∀x∈c,∀y∈rb,R x y):Mg R T (out++c) ra rb:=by
 have I:=br.mp h.ua;show#[?_,br.mpr #[h.up,I.1,λx F y B=>h.le x F y (by simp[B])],λx F y B=>?_,I.2.1,h.ub];have:=h.perm;simpa only[aC] using this
 ·rcases aA.mp F with F | F
  ·show h.le x F y (by rcases aA.mp B with B | B <;> simp[B])
  rcases aA.mp B with B | B;show I.2.2 x F y B;show k x F y B
def Mg.b (h:Mg R T out ra (c++rb))(k:∀x∈c,∀y∈ra,R x y):Mg R T (out++c) ra rb:=by
 have I:=br.mp h.ub;show#[?_,br.mpr #[h.up,I.1,λx F y B=>h.le x F y (by simp[B])],λx F y B=>?_,h.ua,I.2.1];show List.Perm.trans ?_ h.perm;rw[aC];show fP _ ?_;rw[<- aC,<- aC];show List.Perm.append_right _ List.perm_append_comm
 ·rcases aA.mp F with F | F
  ·show h.le x F y (by rcases aA.mp B with B | B <;> simp[B])
  rcases aA.mp B with B | B;show k x F y B;show I.2.2 x F y B
def Bk (R:Keyed->Keyed->Prop)(T out:List Keyed):Prop:=out.Perm T/\out.Pairwise R
def Mg.told (h:Mg R T out [] []):Bk R T out:=#[by have:=h.perm;simpa using this,h.up]
def Mg.doneA (h:Mg R T out ra []):Bk R T (out++ra):=(Mg.a (c:=ra) (ra:=[]) (by simpa using h) (λ_ _ _ B=>by simp at B)).told
def Mg.doneB (h:Mg R T out [] rb):Bk R T (out++rb):=(Mg.b (c:=rb) (rb:=[]) (by simpa using h) (λ_ _ _ B=>by simp at B)).told
def Mg.last(h:Mg R T out [z] rb)(k:∀y∈rb,R y z):Bk R T (out++rb++[z]):=(Mg.b (c:=rb) (rb:=[]) (by simpa using h) (λx B y F=>by rw[ao.mp F];show k x B)).doneA
def Mg.lastB(h:Mg R T out ra [z])(k:∀y∈ra,R y z):Bk R T (out++ra++[z]):=(Mg.a (c:=ra) (ra:=[]) (by simpa using h) (λx B y F=>by rw[ao.mp F];show k x B)).doneB
end
def Da{a:Array Keyed}(h:i<a.size):∃x,a[i]?=some x/\x∈a/\a.toList.drop i=x::a.toList.drop (i+1):=
 #[a[i],aX h,et h,by rw[cK (by simpa using h)];rfl]
def ET (a:Array Keyed)(i:Nat):(a.extract i a.size).toList=a.toList.drop i:=by simp[bz]
def Ha (l:List Keyed)(i k:Nat):(l.drop i).take k++l.drop (i+k)=l.drop i:=by rw[<- eF,aV]
def Le (a:Array Keyed)(i k:Nat):(a.extract i (i+k)).toList=(a.toList.drop i).take k:=by simp
structure Like (st st':SortSt):Prop where
 kind:kindOf st'=kindOf st
 arr:arrOf st'=arrOf st
 pend:pendingOf st'=pendingOf st
 fail:failedOf st'=failedOf st
section
variable{M:Model}{A:Ae}{κ:SortKind}{f:Keyed->Int}
structure LoI (f:Keyed->Int)(T:List Keyed)(a b:Array Keyed)(out:Array Keyed)(ia ib:Nat):Prop where
 mg:Mg (leF f) T out.toList (a.toList.drop ia) (b.toList.drop ib)
 la:ia+1<a.size
 lb:ib<b.size
def EU{T:List Keyed}{a b out:Array Keyed}{B:Nat}(mg:Mg (leF f) T out.toList (a.toList.drop ia) (b.toList.drop B))(e:(ia+1==a.size)=true)(F:∀x∈b,∀y,a[a.size-1]?=some y->f x<=f y):Bk (leF f) T (out++b.extract B b.size++a.extract ia a.size).toList:=by
 obtain⟨z,I,Y,J⟩:=Da (a:=a) (i:=ia) '!';have O:a.toList.drop (ia+1)=[]:=by rw[fZ];simp;lia
 rw[a6,a6,ET,ET];rw[J,O] at mg ⊢;show mg.last λy U=>F y ?_ z ?_;have:=bO U;simpa using this;rw[<- I];congr 1;lia
def DK{T:List Keyed}{a b out:Array Keyed}{B:Nat}(mg:Mg (leF f) T out.toList (a.toList.drop ia) (b.toList.drop B))(e:B=b.size\/ia=a.size):Bk (leF f) T (out++a.extract ia a.size++b.extract B b.size).toList:=by
 rw[a6,a6,ET,ET];rcases e with e | e;have F:b.toList.drop B=[]:=by rw[fZ];simp;lia
 rw[F] at mg ⊢;rw[bU];show mg.doneA;have F:a.toList.drop ia=[]:=by rw[fZ];simp;lia
 rw[F] at mg ⊢;rw[bU];show mg.doneB
def Db{B:Type}{BA:Prop}(C:α->B->Prop)(P:α->B->Prop)(h:(∀a b,C a b->P a b)->BA)(r:∀a b,C a b->P a b):BA:=h r
def Hb{c:Prop}[Decidable c]{x y:StateT SortSt Sem α}{Q:α->SortSt->Prop}{st:SortSt}(B:c)(h:wpS M A E s x Q st):wpS M A E s (if c then x else y) Q st:=by rw[if_pos B];show h
def Hc{c:Prop}[Decidable c]{x y:StateT SortSt Sem α}{Q:α->SortSt->Prop}{st:SortSt}(B:¬c)(h:wpS M A E s y Q st):wpS M A E s (if c then x else y) Q st:=by rw[if_neg B];show h
def zW{c:Prop}[Decidable c]{x y:StateT SortSt Sem α}{Q:α->SortSt->Prop}{st:SortSt}(h:c->wpS M A E s x Q st)(h':¬c->wpS M A E s y Q st):wpS M A E s (if c then x else y) Q st:=if hc:c then Hb hc (h hc) else Hc hc (h' hc)
def ex4{m p q:T0->T1->T2->T3->Prop}{X BA:Prop}(H:X/\∃B F I J,m B F I J/\p B F I J/\q B F I J)(k:X->∀B F I J,m B F I J->p B F I J->q B F I J->BA):BA:=by obtain⟨x,B,F,I,J,e,h,h'⟩:=H;show k x B F I J e h h'
def ex5{m p q:T0->T1->T2->T3->T4->Prop}{X BA:Prop}(H:X/\∃B F I J O,m B F I J O/\p B F I J O/\q B F I J O)(k:X->∀B F I J O,m B F I J O->p B F I J O->q B F I J O->BA):BA:=by obtain⟨x,B,F,I,J,O,e,h,h'⟩:=H;show k x B F I J O e h h'
def exO5{S:Type}{m p q:T0->T1->T2->T3->T4->Prop}{U t:S->T0->T1->T2->T3->T4->Prop}{X BA:Prop}(H:X/\((∃r B F I J O,U r B F I J O/\t r B F I J O)\/∃B F I J O,m B F I J O/\p B F I J O/\q B F I J O))(Y:X->∀r B F I J O,U r B F I J O->t r B F I J O->BA)(k:X->∀B F I J O,m B F I J O->p B F I J O->q B F I J O->BA):BA:=by
 rcases H with ⟨x,⟨r,B,F,I,J,O,e,h⟩ | ⟨B,F,I,J,O,e,h,h'⟩⟩;show Y x r B F I J O e h;show k x B F I J O e h h'
def ex6{m p q:T0->T1->T2->T3->T4->T5->Prop}{X BA:Prop}(H:X/\∃B F I J O U,m B F I J O U/\p B F I J O U/\q B F I J O U)(k:X->∀B F I J O U,m B F I J O U->p B F I J O U->q B F I J O U->BA):BA:=by obtain⟨x,B,F,I,J,O,U,e,h,h'⟩:=H;show k x B F I J O U e h h'
def exO6{S:Type}{m p q:T0->T1->T2->T3->T4->T5->Prop}{Y t:S->T0->T1->T2->T3->T4->T5->Prop}{X BA:Prop}(H:X/\((∃r B F I J O U,Y r B F I J O U/\t r B F I J O U)\/∃B F I J O U,m B F I J O U/\p B F I J O U/\q B F I J O U))(k':X->∀r B F I J O U,Y r B F I J O U->t r B F I J O U->BA)(k:X->∀B F I J O U,m B F I J O U->p B F I J O U->q B F I J O U->BA):BA:=by
 rcases H with ⟨x,⟨r,B,F,I,J,O,U,e,h⟩ | ⟨B,F,I,J,O,U,e,h,h'⟩⟩;show k' x r B F I J O U e h;show k x B F I J O U e h h'
def BQ{T:Type}{p q r:T->Prop}{BA:Prop}(H:∃y,p y/\q y/\r y)(k:∀y,p y->q y->r y->BA):BA:=by obtain⟨y,a,b,c⟩:=H;show k y a b c
def uT{F:Type}{g:Nat->F->StateT SortSt Sem (ForInStep F)}(I:Nat->F->SortSt->Prop){Q:F->SortSt->Prop}(hs:∀i c st (R:ForInStep F->SortSt->Prop),a<=i->i<b->(∀J B,I (i+1) J B->R (.yield J) B)->(∀J B,Q J B->R (.done J) B)->I i c st->wpS M A E s (g i c) R st)(O:∀c st,I (max a b) c st->Q c st){c:F}{st:SortSt}(h:I a c st):wpS M A E s (forIn [a:b] c g) Q st:=cT I (λi c st h1 h2 U=>hs i c st _ h1 h2 (λ_ _ z=>z) (λ_ _ z=>z) U) O h
def SM (R:BL M A s κ L0 f){a b:Array Keyed}(ha:∀x∈a,x∈L0)(hb:∀x∈b,x∈L0)(sa:a.toList.Pairwise (leF f))(sb:b.toList.Pairwise (leF f))(na:1<=a.size)(nb:1<=b.size)(hf:∀x∈a,∀y,b[0]?=some y->f y<=f x)(hl:∀x∈b,∀y,a[a.size-1]?=some y->f x<=f y){st:SortSt}(hk:kindOf st=κ){Q:Array Keyed->SortSt->Prop}(h:∀out Y,Like st Y->Bk (leF f) '2' out.toList->Q out Y):wpS M A E s (SG a b) Q st:=by
 show wpS_bind (wpS_lift (cD #[A5,?_]));show BQ (Da (a:=b) (i:=0) '!') λy y1 y2 y3=>?_;show wpS_bind (yn y1 ?_)
 have m0:Mg (leF f) '2' (#v[y]:Array Keyed).toList (a.toList.drop 0) (b.toList.drop 1):=by
  have h0:Mg (leF f) '2' [] a.toList ([y]++b.toList.drop 1):=by have e:b.toList=[y]++b.toList.drop 1:=y3;rw[<- e];show#[by simp,.nil,λ_ hx=>by simp at hx,sa,sb]
  show h0.b λx hx z hz=>by rw[ao.mp hx];show hf z (by simpa using hz) y y1
 dsimp only;show zW (λe1=>?_) (λe1=>?_);show wpS_pure (h _ _ #[A5,A5,A5,A5] (DK m0 (.inl (cG e1))));show zW (λe2=>?_) (λe2=>?_);show wpS_pure (h _ _ #[A5,A5,A5,A5] (EU m0 e2 hl));have bs:1≠b.size:=λz=>e1 (by rw[<- z];rfl);have bt:1≠a.size:=λz=>e2 (by rw[<- z];rfl);show wpS_bind (wpS_get ?_);show wpS_bind (wpS_mono (uT (I:=λx c Y=>Like st Y/\∃out ia ib g,c=(none,out,ia,ib,g)/\LoI f '2' a b out ia ib/\x+1<=ia+ib) (Q:=λc Y=>Like st Y/\∃r out ia ib g,c=(some r,out,ia,ib,g)/\Bk (leF f) '2' r.toList) ?_ ?_ #[#[A5,A5,A5,A5],_,0,1,_,A5,#[m0,by lia,by lia],by lia]) ?_)
 ·intro x c a4 R1 _ hx bl a5 H;show ex4 H λl1 out ia ib g e I hp=>?_;clear H;subst e;dsimp only
  show wpS_bind (wpS_mono (uT (I:=λx c Y=>Like st Y/\∃B J O ac bc,c=(none,B,J,O,ac,bc)/\LoI f '2' a b B J O/\x+(ia+ib)<=J+O)
   (Q:=λc Y=>Like st Y/\((∃r B J O ac bc,c=(some r,B,J,O,ac,bc)/\Bk (leF f) '2' r.toList)\/∃B J O ac bc,c=(none,B,J,O,ac,bc)/\LoI f '2' a b B J O/\ia+ib+1<=J+O)) ?_ ?_ #[l1,_,_,_,_,_,A5,I,by lia]) ?_)
  intro x2 c a7 R2 _ bx bb a0 H;show ex5 H λl2 o2 ad ag ac bc e I2 bd=>?_;clear H;subst e;dsimp only;have la:=I2.la;have lb:=I2.lb;show BQ (Da lb) λy y1 y2 y3=>?_;show BQ (Da (a:=a) (i:=ad) '!') λz z1 z2 z3=>?_;show wpS_bind (yn y1 (wpS_bind (yn z1 (wpS_bind (DJ R (hb _ y2) (ha _ z2) (l2.kind.trans hk) ?_)))));have mg:=I2.mg;by_cases bk:f y<f z;rw[aD bk];dsimp only;show Hb A5 ?_;show wpS_bind (yn y1 ?_);have ua:=mg.ua;rw[z3] at ua;have ua:=aR.mp ua
  have m2:Mg (leF f) '2' (o2.push y).toList (a.toList.drop ad) (b.toList.drop (ag+1)):=by
   rw[y3] at mg;rw[bY];show Mg.b (c:=[y]) mg λx hx w hw=>?_;rw[ao.mp hx];rw[z3] at hw;change f y<=f w;rcases au.mp hw with rfl | hw;lia;have h9:f z<=f w:=ua.1 w hw;lia
  show zW (λe3=>?_) (λe3=>?_);show wpS_pure (a0 _ _ #[l2,.inl #[_,_,_,_,_,_,A5,DK m2 (.inl (cG e3))]]);have bm:ag+1≠b.size:=λq=>e3 (by rw[q];show cO _);split;show wpS_pure (a0 _ _ #[l2,.inr #[_,_,_,_,_,A5,#[m2,la,by lia],by lia]]);show wpS_pure (bb _ _ #[l2,_,_,_,_,_,A5,#[m2,la,by lia],by lia]);rw[aJ bk];dsimp only;show Hc aB ?_;show wpS_bind (yn z1 ?_);have ub:=mg.ub;rw[y3] at ub;have ub:=aR.mp ub
  have m2:Mg (leF f) '2' (o2.push z).toList (a.toList.drop (ad+1)) (b.toList.drop ag):=by
   rw[z3] at mg;rw[bY];show Mg.a (c:=[z]) mg λx hx w hw=>?_;rw[ao.mp hx];rw[y3] at hw;change f z<=f w;rcases au.mp hw with rfl | hw;lia;have h9:f y<=f w:=ub.1 w hw;lia
  show zW (λe3=>?_) (λe3=>?_);show wpS_pure (a0 _ _ #[l2,.inl #[_,_,_,_,_,_,A5,EU m2 e3 hl]]);have bm:ad+1+1≠a.size:=λq=>e3 (by rw[q];show cO _);split;show wpS_pure (a0 _ _ #[l2,.inr #[_,_,_,_,_,A5,#[m2,by lia,lb],by lia]]);show wpS_pure (bb _ _ #[l2,_,_,_,_,_,A5,#[m2,by lia,lb],by lia]);rintro c a7 ⟨l2,o2,ad,ag,ac,bc,rfl,I2,bd⟩;have la:=I2.la;have lb:=I2.lb;lia
  ·intro c a7 H;show exO5 H (λl2 r o2 ad ag ac bc e ht=>?_) (λl2 o2 ad ag ac bc e I2 bd=>?_)
   all_goals clear H
   all_goals subst e
   show wpS_pure (a5 _ _ #[l2,_,_,_,_,_,A5,ht]);dsimp only;show wpS_bind (wpS_lift (cD #[A5,?_]))
   show wpS_bind (wpS_mono (uT (I:=λx c Y=>Like st Y/\∃B J O g ac bc,c=(none,B,J,O,g,ac,bc)/\LoI f '2' a b B J O/\ad+ag<=J+O)
    (Q:=λc Y=>Like st Y/\((∃r B J O g ac bc,c=(some r,B,J,O,g,ac,bc)/\Bk (leF f) '2' r.toList)\/∃B J O g ac bc,c=(none,B,J,O,g,ac,bc)/\LoI f '2' a b B J O/\ad+ag<=J+O)) ?_ ?_ #[l2,_,_,_,_,_,_,A5,I2,ak _]) ?_)
   ·intro x3 c an R3 _ b0 bo as H;show ex6 H λl3 o3 U F g3 a1 a2 e I3 a3=>?_;clear H;subst e;dsimp only;have la:=I3.la;have lb:=I3.lb;have mg:=I3.mg;show BQ (Da lb) λy y1 y2 y3=>?_;have ub:=mg.ub;rw[y3] at ub;have ub:=aR.mp ub;refine' Db (λ(_:Nat) (_:Unit)=>True) _ (λzu=>?_) ?_;rotate_left;by_cases g0:g3 > 1;rw[if_pos g0];generalize g3-1=g4;generalize hu:()=u;show zu g4 u trivial;rw[if_neg g0];show zu g3 () trivial;rintro g4 u -
    all_goals
     show wpS_bind (ev ?_);have lk:∀g,Like st (SortSt.mk' (kindOf an) (arrOf an) (pendingOf an) g (failedOf an)):=λg=>#[l3.kind,l3.arr,l3.pend,l3.fail];show wpS_bind (yn y1 ?_);show wpS_bind (C_ (n:=a.size-U) (left:=false) (hint:=0) R (hb _ y2) ha '!' '!' (mg.ua.sublist (cV _ _)) ((lk _).kind.trans hk) λk k1 k2 k3=>?_);dsimp only;have h4:∀w∈a.toList.drop (U+k),f y<=f w:=λw hw=>by have:=k3 w (by rw[bz '$',eF];show hw);unfold xG at this;rw[if_neg aB,gR,cH] at this;lia
     have m4:Mg (leF f) '2' (o3++a.extract U (U+k)).toList (a.toList.drop (U+k)) (b.toList.drop F):=by
      rw[a6,Le];show Mg.a (by rw[Ha];show mg) λx hx w hw=>?_;have h5:=k2 x hx;unfold xG at h5;rw[if_neg aB,eu,bX] at h5;rw[y3] at hw;change f x<=f w;rcases au.mp hw with rfl | hw;lia;have h9:f y<=f w:=ub.1 w hw;lia
     refine' Db (λ(o4:Array Keyed) (ab:Nat)=>Mg (leF f) '2' o4.toList (a.toList.drop ab) (b.toList.drop F)/\(∀w∈a.toList.drop ab,f y<=f w)/\ab+1<a.size/\U<=ab) _ (λzu=>?_) ?_;rotate_left;show zW (λk0=>?pos) (λk0=>?neg)
     case pos=>
      show zW (λe4=>?_) (λe4=>?_);show wpS_pure (as _ _ #[lk _,.inl #[_,_,_,_,_,_,_,A5,EU m4 e4 hl]]);show zW (λe5=>?_) (λe5=>?_);show wpS_pure (as _ _ #[lk _,.inl #[_,_,_,_,_,_,_,A5,DK m4 (.inr (cG e5))]]);have b1:U+k+1≠a.size:=λq=>e4 (by rw[q];show cO _);have b2:U+k≠a.size:=λq=>e5 (by rw[q];show cO _);have q1:U+k+1<a.size:=by lia
      have q2:U<=U+k:=by lia
      generalize ho:o3++a.extract U (U+k)=o4;generalize hi:U+k=ab;show zu o4 ab (by rw[<- ho,<- hi];show#[m4,h4,q1,q2])
     case neg=>
      have kz:k=0:=by lia
      rw[kz,iE] at h4;show zu o3 U #[mg,h4,la,ak _]
     clear h4 m4 k1 k2 k3;intro o4 ab H;have m4:=H.1;have h4:=H.2.1;have q1:=H.2.2.1;have q2:=H.2.2.2;clear H
     all_goals
      show wpS_bind (yn y1 ?_);have m5:Mg (leF f) '2' (o4.push y).toList (a.toList.drop ab) (b.toList.drop (F+1)):=by rw[y3] at m4;rw[bY];show Mg.b (c:=[y]) m4 λx hx w hw=>by rw[ao.mp hx];show h4 w hw
      show zW (λe6=>?_) (λe6=>?_);show wpS_pure (as _ _ #[lk _,.inl #[_,_,_,_,_,_,_,A5,DK m5 (.inl (cG e6))]]);have b3:F+1≠b.size:=λq=>e6 (by rw[q];show cO _);show BQ (Da (a:=a) (i:=ab) '!') λz z1 z2 z3=>?_;show wpS_bind (yn z1 ?_);have ua:=m5.ua;rw[z3] at ua;have ua:=aR.mp ua;show wpS_bind (C_ (n:=b.size-(F+1)) (left:=true) (hint:=0) R (ha _ z2) hb '!' '!' (m5.ub.sublist (cV _ _)) ((lk _).kind.trans hk) λj j1 j2 j3=>?_);dsimp only;have h6:∀w∈b.toList.drop (F+1+j),f z<=f w:=λw hw=>by have:=j3 w (by rw[bz '$',eF];show hw);unfold xG at this;rw[if_pos rfl,bX] at this;lia
      have m6:Mg (leF f) '2' (o4.push y++b.extract (F+1) (F+1+j)).toList (a.toList.drop ab) (b.toList.drop (F+1+j)):=by
       rw[a6,Le];show Mg.b (by rw[Ha];show m5) λx hx w hw=>?_;have h5:=j2 x hx;unfold xG at h5;rw[if_pos rfl,cH] at h5;rw[z3] at hw;change f x<=f w;rcases au.mp hw with rfl | hw;lia;have h9:f z<=f w:=ua.1 w hw;lia
      refine' Db (λ(o5:Array Keyed) (al:Nat)=>Mg (leF f) '2' o5.toList (a.toList.drop ab) (b.toList.drop al)/\(∀w∈b.toList.drop al,f z<=f w)/\al<b.size/\F<=al) _ (λzu=>?_) ?_;rotate_left;show zW (λj0=>?pos) (λj0=>?neg)
      case pos=>
       show zW (λe7=>?_) (λe7=>?_);show wpS_pure (as _ _ #[lk _,.inl #[_,_,_,_,_,_,_,A5,DK m6 (.inl (cG e7))]]);have b4:F+1+j≠b.size:=λq=>e7 (by rw[q];show cO _);have q3:F+1+j<b.size:=by lia
       have q4:F<=F+1+j:=by lia
       generalize ho:o4.push y++b.extract (F+1) (F+1+j)=o5;generalize hi:F+1+j=al;show zu o5 al (by rw[<- ho,<- hi];show#[m6,h6,q3,q4])
      case neg=>
       have jz:j=0:=by lia
       rw[jz,iE] at h6;show zu (o4.push y) (F+1) #[m5,h6,by lia,by lia]
      clear h6 m6 j1 j2 j3;intro o5 al H;have m6:=H.1;have h6:=H.2.1;have q3:=H.2.2.1;have q4:=H.2.2.2;clear H
      all_goals
       show wpS_bind (yn z1 ?_);have m7:Mg (leF f) '2' (o5.push z).toList (a.toList.drop (ab+1)) (b.toList.drop al):=by rw[z3] at m6;rw[bY];show Mg.a (c:=[z]) m6 λx hx w hw=>by rw[ao.mp hx];show h6 w hw
       show zW (λe8=>?_) (λe8=>?_);show wpS_pure (as _ _ #[lk _,.inl #[_,_,_,_,_,_,_,A5,EU m7 e8 hl]]);have b5:ab+1+1≠a.size:=λq=>e8 (by rw[q];show cO _);split;show wpS_pure (as _ _ #[lk _,.inr #[_,_,_,_,_,_,A5,#[m7,by lia,q3],by lia]]);show wpS_pure (bo _ _ #[lk _,_,_,_,_,_,_,A5,#[m7,by lia,q3],by lia])
   rintro c an ⟨l3,o3,U,F,g3,a1,a2,rfl,I3,a3⟩;show#[l3,.inr #[_,_,_,_,_,_,A5,I3,a3]]
   ·intro c an H;show exO6 H (λl3 r o3 U F g3 a1 a2 e ht=>?_) (λl3 o3 U F g3 a1 a2 e I3 a3=>?_)
    all_goals clear H
    all_goals subst e
    show wpS_pure (a5 _ _ #[l3,_,_,_,_,_,A5,ht]);dsimp only;show wpS_bind (ev (wpS_pure (bl _ _ #[#[l3.kind,l3.arr,l3.pend,l3.fail],_,_,_,_,A5,I3,by lia])))
 rintro c a4 ⟨l1,out,ia,ib,g,rfl,I,hp⟩;have:=I.la;have:=I.lb;lia;rintro c a4 ⟨l1,r,out,ia,ib,g,rfl,ht⟩;show wpS_pure (h _ _ l1 ht)
abbrev geF (f:Keyed->Int)(x y:Keyed):Prop:=f y<=f x
def Hd(h:Bk (geF f) T l):Bk (leF f) T l.reverse:=#[(ij l).trans h.1,fQ.mpr h.2]
def Dc{a:Array Keyed}(h1:1<=n)(h:n<=a.size):∃x,a[n-1]?=some x/\x∈a/\(a.toList.take n).reverse=x::(a.toList.take (n-1)).reverse:=by obtain⟨i,rfl⟩:∃i,n=i+1:=#[n-1,by lia];show#[a[i],aX '!',et _,?_];rw[List.take_succ_eq_append_getElem (by rw[aM];show h),List.reverse_append];rfl
def EV (a:Array Keyed)(n:Nat):(a.extract 0 n).toList=a.toList.take n:=by simp
def Lf (a:Array Keyed)(i n:Nat):(a.extract i n).reverse.toList=((a.toList.take n).drop i).reverse:=by simp[List.drop_take]
def Lg(l:List Keyed)(h:i<=n):((l.take n).drop i).reverse++(l.take i).reverse=(l.take n).reverse:=by
 rw[<- List.reverse_append];congr 1;have:l.take i=(l.take n).take i:=by rw[List.take_take,eX h]
 rw[this,aV]
structure HiI (f:Keyed->Int)(T:List Keyed)(a b:Array Keyed)(out:Array Keyed)(na nb:Nat):Prop where
 mg:Mg (geF f) T out.toList (a.toList.take na).reverse (b.toList.take nb).reverse
 la:1<=na
 ma:na<=a.size
 lb:2<=nb
 mb:nb<=b.size
def EW{T:List Keyed}{a b out:Array Keyed}(mg:Mg (geF f) T out.toList (a.toList.take B).reverse (b.toList.take F).reverse)(e:(F==1)=true)(J:1<=b.size)(hf:∀x∈a,∀y,b[0]?=some y->f y<=f x):Bk (leF f) T (b.extract 0 F++a.extract 0 B++out.reverse).toList:=by
 have e:=cG e;subst e;show BQ (Dc (a:=b) (n:=1) (ak _) J) λz O z2 I=>?_;rw[a6,a6,EV,EV,Array.toList_reverse];rw[I] at mg;have mg:Mg (geF f) T out.toList (a.toList.take B).reverse [z]:=mg;have t:=Hd (mg.lastB λy U=>hf y (by have:=bH (di.mp U);simpa using this) z O);have Y:b.toList.take 1=[z]:=by rw[<- List.reverse_reverse (b.toList.take 1),I];rfl
 rw[Y];simpa using t
def DL{T:List Keyed}{a b out:Array Keyed}(mg:Mg (geF f) T out.toList (a.toList.take B).reverse (b.toList.take F).reverse)(e:B=0\/F=0):Bk (leF f) T (a.extract 0 B++b.extract 0 F++out.reverse).toList:=by
 rw[a6,a6,EV,EV,Array.toList_reverse];rcases e with rfl | rfl;have t:=Hd (Mg.doneB (by simpa using mg));simpa using t;have t:=Hd (Mg.doneA (by simpa using mg));simpa using t
def SN (R:BL M A s κ L0 f){a b:Array Keyed}(ha:∀x∈a,x∈L0)(hb:∀x∈b,x∈L0)(sa:a.toList.Pairwise (leF f))(sb:b.toList.Pairwise (leF f))(na:1<=a.size)(nb:1<=b.size)(hf:∀x∈a,∀y,b[0]?=some y->f y<=f x)(hl:∀x∈b,∀y,a[a.size-1]?=some y->f x<=f y){st:SortSt}(hk:kindOf st=κ){Q:Array Keyed->SortSt->Prop}(h:∀out U,Like st U->Bk (leF f) '2' out.toList->Q out U):wpS M A E s (SH a b) Q st:=by
 show wpS_bind (wpS_lift (cD #[A5,?_]));show BQ (Dc na (ak _)) λy y1 y2 y3=>?_;show wpS_bind (yn y1 ?_)
 have m0:Mg (geF f) '2' (#v[y]:Array Keyed).toList (a.toList.take (a.size-1)).reverse (b.toList.take b.size).reverse:=by
  have ea:a.toList.take a.size=a.toList:=bz '$';have eb:b.toList.take b.size=b.toList:=bz '$'
  have h0:Mg (geF f) '2' [] ([y]++(a.toList.take (a.size-1)).reverse) (b.toList.take b.size).reverse:=by
   have e:a.toList.reverse=[y]++(a.toList.take (a.size-1)).reverse:=by rw[ea] at y3;show y3
   rw[<- e,eb];show#[(ij _).append (ij _),.nil,λ_ hx=>by simp at hx,fQ.mpr sa,fQ.mpr sb]
  show h0.a λx hx z hz=>by rw[ao.mp hx];show hl z (by have:=bH (di.mp hz);simpa using this) y y1
 dsimp only;show zW (λe1=>?_) (λe1=>?_);show wpS_pure (h _ _ #[A5,A5,A5,A5] (DL m0 (.inl (cG e1))));show zW (λe2=>?_) (λe2=>?_);show wpS_pure (h _ _ #[A5,A5,A5,A5] (EW m0 e2 nb hf));have bs:a.size-1≠0:=λz=>e1 (by rw[z];rfl);have bt:b.size≠1:=λz=>e2 (by rw[z];rfl);show wpS_bind (wpS_get ?_);show wpS_bind (wpS_mono (uT (I:=λx c U=>Like st U/\∃ia ib out g,c=(none,ia,ib,out,g)/\HiI f '2' a b out ia ib/\x+(ia+ib)+1<=a.size+b.size) (Q:=λc U=>Like st U/\∃r ia ib out g,c=(some r,ia,ib,out,g)/\Bk (leF f) '2' r.toList) ?_ ?_ #[#[A5,A5,A5,A5],_,_,_,_,A5,#[m0,by lia,by lia,by lia,by lia],by lia]) ?_)
 ·intro x c a3 R1 _ hx bk a4 H;show ex4 H λl1 ia ib out g e I hp=>?_;clear H;subst e;dsimp only
  show wpS_bind (wpS_mono (uT (I:=λx c U=>Like st U/\∃F J B ac bc,c=(none,F,J,B,ac,bc)/\HiI f '2' a b B F J/\x+(F+J)<=ia+ib)
   (Q:=λc U=>Like st U/\((∃r F J B ac bc,c=(some r,F,J,B,ac,bc)/\Bk (leF f) '2' r.toList)\/∃F J B ac bc,c=(none,F,J,B,ac,bc)/\HiI f '2' a b B F J/\F+J+1<=ia+ib)) ?_ ?_ #[l1,_,_,_,_,_,A5,I,by lia]) ?_)
  intro x2 c a5 R2 _ bx a7 as H;show ex5 H λl2 ad ab o2 ac bc e I2 bb=>?_;clear H;subst e;dsimp only;have la:=I2.la;have lb:=I2.lb;have ma:=I2.ma;have mb:=I2.mb;show BQ (Dc (a:=b) (n:=ab) '!' mb) λy y1 y2 y3=>?_;show BQ (Dc la ma) λz z1 z2 z3=>?_;show wpS_bind (yn y1 (wpS_bind (yn z1 (wpS_bind (DJ R (hb _ y2) (ha _ z2) (l2.kind.trans hk) ?_)))));have mg:=I2.mg;by_cases bd:f y<f z;rw[aD bd];dsimp only;show Hb A5 ?_;show wpS_bind (yn z1 ?_);have ub:=mg.ub;rw[y3] at ub;have ub:=aR.mp ub
  have m2:Mg (geF f) '2' (o2.push z).toList (a.toList.take (ad-1)).reverse (b.toList.take ab).reverse:=by
   rw[z3] at mg;rw[bY];show Mg.a (c:=[z]) mg λx hx w Y=>?_;rw[ao.mp hx];rw[y3] at Y;change f w<=f z;rcases au.mp Y with rfl | Y;lia;have h9:f w<=f y:=ub.1 w Y;lia
  show zW (λe3=>?_) (λe3=>?_);show wpS_pure (as _ _ #[l2,.inl #[_,_,_,_,_,_,A5,DL m2 (.inl (cG e3))]]);have bl:ad-1≠0:=λq=>e3 (by rw[q];rfl);split;show wpS_pure (as _ _ #[l2,.inr #[_,_,_,_,_,A5,#[m2,by lia,by lia,lb,mb],by lia]]);show wpS_pure (a7 _ _ #[l2,_,_,_,_,_,A5,#[m2,by lia,by lia,lb,mb],by lia]);rw[aJ bd];dsimp only;show Hc aB ?_;show wpS_bind (yn y1 ?_);have ua:=mg.ua;rw[z3] at ua;have ua:=aR.mp ua
  have m2:Mg (geF f) '2' (o2.push y).toList (a.toList.take ad).reverse (b.toList.take (ab-1)).reverse:=by
   rw[y3] at mg;rw[bY];show Mg.b (c:=[y]) mg λx hx w Y=>?_;rw[ao.mp hx];rw[z3] at Y;change f w<=f y;rcases au.mp Y with rfl | Y;lia;have h9:f w<=f z:=ua.1 w Y;lia
  show zW (λe3=>?_) (λe3=>?_);show wpS_pure (as _ _ #[l2,.inl #[_,_,_,_,_,_,A5,EW m2 e3 nb hf]]);have bl:ab-1≠1:=λq=>e3 (by rw[q];rfl);split;show wpS_pure (as _ _ #[l2,.inr #[_,_,_,_,_,A5,#[m2,la,ma,by lia,by lia],by lia]]);show wpS_pure (a7 _ _ #[l2,_,_,_,_,_,A5,#[m2,la,ma,by lia,by lia],by lia]);rintro c a5 ⟨l2,ad,ab,o2,ac,bc,rfl,I2,bb⟩;have la:=I2.la;have lb:=I2.lb;lia
  ·intro c a5 H;show exO5 H (λl2 r ad ab o2 ac bc e ht=>?_) (λl2 ad ab o2 ac bc e I2 bb=>?_)
   all_goals clear H
   all_goals subst e
   show wpS_pure (a4 _ _ #[l2,_,_,_,_,_,A5,ht]);dsimp only;show wpS_bind (wpS_lift (cD #[A5,?_]))
   show wpS_bind (wpS_mono (uT (I:=λx c U=>Like st U/\∃F J B g ac bc,c=(none,F,J,B,g,ac,bc)/\HiI f '2' a b B F J/\F+J<=ad+ab)
    (Q:=λc U=>Like st U/\((∃r F J B g ac bc,c=(some r,F,J,B,g,ac,bc)/\Bk (leF f) '2' r.toList)\/∃F J B g ac bc,c=(none,F,J,B,g,ac,bc)/\HiI f '2' a b B F J/\F+J<=ad+ab)) ?_ ?_ #[l2,_,_,_,_,_,_,A5,I2,ak _]) ?_)
   ·intro x3 c al R3 _ b0 bm an H;show ex6 H λl3 ag O o3 g3 a0 a1 e I3 a2=>?_;clear H;subst e;dsimp only;have la:=I3.la;have lb:=I3.lb;have ma:=I3.ma;have mb:=I3.mb;have mg:=I3.mg;show BQ (Dc (a:=b) (n:=O) '!' mb) λy y1 y2 y3=>?_;have ub:=mg.ub;rw[y3] at ub;have ub:=aR.mp ub;refine' Db (λ(_:Nat) (_:Unit)=>True) _ (λzu=>?_) ?_;rotate_left;by_cases g0:g3 > 1;rw[if_pos g0];generalize g3-1=g4;generalize hu:()=u;show zu g4 u trivial;rw[if_neg g0];show zu g3 () trivial;rintro g4 u -
    all_goals
     show wpS_bind (ev ?_);have lk:∀g,Like st (SortSt.mk' (kindOf al) (arrOf al) (pendingOf al) g (failedOf al)):=λg=>#[l3.kind,l3.arr,l3.pend,l3.fail];show wpS_bind (yn y1 ?_);show wpS_bind (C_ (left:=false) (base:=0) (n:=ag) (hint:=ag-1) R (hb _ y2) ha '!' '!' (sa.sublist ((cV _ _).trans (ez _ _))) ((lk _).kind.trans hk) λk k1 k2 k3=>?_);dsimp only;rw[eE] at k2 k3;have h4:∀w∈(a.toList.take k).reverse,f w<=f y:=λw Y=>by have h5:=k2 w (di.mp Y);unfold xG at h5;rw[if_neg aB,eu,bX] at h5;lia
     have m4:Mg (geF f) '2' (o3++(a.extract k ag).reverse).toList (a.toList.take k).reverse (b.toList.take O).reverse:=by
      rw[a6,Lf];show Mg.a (by rw[Lg _ k1];show mg) λx hx w Y=>?_;have h5:=k3 x (di.mp hx);unfold xG at h5;rw[if_neg aB,gR,cH] at h5;rw[y3] at Y;change f w<=f x;rcases au.mp Y with rfl | Y;lia;have h9:f w<=f y:=ub.1 w Y;lia
     have q2:k<=a.size:=by lia
     have q5:k+O<=ad+ab:=by lia
     refine' Db (λ(o4:Array Keyed) (k:Nat)=>Mg (geF f) '2' o4.toList (a.toList.take k).reverse (b.toList.take O).reverse/\(∀w∈(a.toList.take k).reverse,f w<=f y)/\1<=k/\k<=a.size/\k+O<=ad+ab) _ (λzu=>?_) ?_;rotate_left;show zW (λk0=>?pos) (λk0=>?neg)
     case pos=>
      show zW (λe4=>?_) (λe4=>?_);show wpS_pure (an _ _ #[lk _,.inl #[_,_,_,_,_,_,_,A5,DL m4 (.inl (cG e4))]]);have b1:k≠0:=λq=>e4 (by rw[q];rfl);have q1:1<=k:=by lia
      generalize ho:o3++(a.extract k ag).reverse=o4;generalize hi:k=k4;show zu o4 k4 (by rw[<- ho,<- hi];show#[m4,h4,q1,q2,q5])
     case neg=>
      have bo:k=ag:=by lia
      rw[bo] at h4 q5 ⊢;show zu o3 ag #[mg,h4,la,ma,q5]
     clear h4 m4 q2 q5 k1 k2 k3;clear k;intro o4 k H;have m4:=H.1;have h4:=H.2.1;have q1:=H.2.2.1;have q2:=H.2.2.2.1;have q5:=H.2.2.2.2;clear H
     all_goals
      show wpS_bind (yn y1 ?_);have m5:Mg (geF f) '2' (o4.push y).toList (a.toList.take k).reverse (b.toList.take (O-1)).reverse:=by rw[y3] at m4;rw[bY];show Mg.b (c:=[y]) m4 λx hx w Y=>by rw[ao.mp hx];show h4 w Y
      show zW (λe6=>?_) (λe6=>?_);show wpS_pure (an _ _ #[lk _,.inl #[_,_,_,_,_,_,_,A5,EW m5 e6 nb hf]]);have b2:O-1≠1:=λq=>e6 (by rw[q];rfl);show BQ (Dc q1 q2) λz z1 z2 z3=>?_;show wpS_bind (yn z1 ?_);have ua:=m5.ua;rw[z3] at ua;have ua:=aR.mp ua;show wpS_bind (C_ (left:=true) (base:=0) (n:=O-1) (hint:=O-1-1) R (ha _ z2) hb '!' '!' (sb.sublist ((cV _ _).trans (ez _ _))) ((lk _).kind.trans hk) λj j1 j2 j3=>?_);dsimp only;rw[eE] at j2 j3;have h6:∀w∈(b.toList.take j).reverse,f w<=f z:=λw Y=>by have h5:=j2 w (di.mp Y);unfold xG at h5;rw[if_pos rfl,cH] at h5;lia
      have m6:Mg (geF f) '2' (o4.push y++(b.extract j (O-1)).reverse).toList (a.toList.take k).reverse (b.toList.take j).reverse:=by
       rw[a6,Lf];show Mg.b (by rw[Lg _ j1];show m5) λx hx w Y=>?_;have h5:=j3 x (di.mp hx);unfold xG at h5;rw[if_pos rfl,bX] at h5;rw[z3] at Y;change f w<=f x;rcases au.mp Y with rfl | Y;lia;have h9:f w<=f z:=ua.1 w Y;lia
      refine' Db (λ(o5:Array Keyed) (j:Nat)=>Mg (geF f) '2' o5.toList (a.toList.take k).reverse (b.toList.take j).reverse/\(∀w∈(b.toList.take j).reverse,f w<=f z)/\2<=j/\j<=O-1) _ (λzu=>?_) ?_;rotate_left;show zW (λj0=>?pos) (λj0=>?neg)
      case pos=>
       show zW (λe7=>?_) (λe7=>?_);show wpS_pure (an _ _ #[lk _,.inl #[_,_,_,_,_,_,_,A5,EW m6 e7 nb hf]]);show zW (λe8=>?_) (λe8=>?_);show wpS_pure (an _ _ #[lk _,.inl #[_,_,_,_,_,_,_,A5,DL m6 (.inr (cG e8))]]);have b3:j≠1:=λq=>e7 (by rw[q];rfl);have b4:j≠0:=λq=>e8 (by rw[q];rfl);have q3:2<=j:=by lia
       generalize ho:o4.push y++(b.extract j (O-1)).reverse=o5;generalize hi:j=j4;show zu o5 j4 (by rw[<- ho,<- hi];show#[m6,h6,q3,j1])
      case neg=>
       have hj:j=O-1:=by lia
       rw[hj] at h6 ⊢;show zu (o4.push y) (O-1) #[m5,h6,by lia,ak _]
      clear h6 m6 j1 j2 j3;clear j;intro o5 j H;have m6:=H.1;have h6:=H.2.1;have q3:=H.2.2.1;have j1:=H.2.2.2;clear H
      all_goals
       show wpS_bind (yn z1 ?_);have m7:Mg (geF f) '2' (o5.push z).toList (a.toList.take (k-1)).reverse (b.toList.take j).reverse:=by rw[z3] at m6;rw[bY];show Mg.a (c:=[z]) m6 λx hx w Y=>by rw[ao.mp hx];show h6 w Y
       show zW (λe9=>?_) (λe9=>?_);show wpS_pure (an _ _ #[lk _,.inl #[_,_,_,_,_,_,_,A5,DL m7 (.inl (cG e9))]]);have b5:k-1≠0:=λq=>e9 (by rw[q];rfl);split;show wpS_pure (an _ _ #[lk _,.inr #[_,_,_,_,_,_,A5,#[m7,by lia,by lia,q3,by lia],by lia]]);show wpS_pure (bm _ _ #[lk _,_,_,_,_,_,_,A5,#[m7,by lia,by lia,q3,by lia],by lia])
   rintro c al ⟨l3,ag,O,o3,g3,a0,a1,rfl,I3,a2⟩;show#[l3,.inr #[_,_,_,_,_,_,A5,I3,a2]]
   ·intro c al H;show exO6 H (λl3 r ag O o3 g3 a0 a1 e ht=>?_) (λl3 ag O o3 g3 a0 a1 e I3 a2=>?_)
    all_goals clear H
    all_goals subst e
    show wpS_pure (a4 _ _ #[l3,_,_,_,_,_,A5,ht]);dsimp only;show wpS_bind (ev (wpS_pure (bk _ _ #[#[l3.kind,l3.arr,l3.pend,l3.fail],_,_,_,_,A5,I3,by lia])))
 rintro c a3 ⟨l1,ia,ib,out,g,rfl,I,hp⟩;have:=I.la;have:=I.lb;lia;rintro c a3 ⟨l1,r,ia,ib,out,g,rfl,ht⟩;show wpS_pure (h _ _ l1 ht)
end
def kA (f:Keyed->Int)(a:Array Keyed)(i:Nat):Int:=match a[i]? with | some x=>f x | none=>0
def Seg (f:Keyed->Int)(a:Array Keyed)(lo hi:Nat):Prop:=∀i j,lo<=i->i<=j->j<hi->kA f a i<=kA f a j
def Gse (f:Keyed->Int)(a:Array Keyed)(lo hi:Nat):Prop:=∀i j,lo<=i->i<=j->j<hi->kA f a j<=kA f a i
structure Lk (lo:Nat)(st st':SortSt):Prop where
 kind:kindOf st'=kindOf st
 pend:pendingOf st'=pendingOf st
 fail:failedOf st'=failedOf st
 perm:(arrOf st').Perm (arrOf st)
 low:∀k,k<lo->(arrOf st')[k]?=(arrOf st)[k]?
section
variable{M:Model}{A:Ae}{κ:SortKind}{f:Keyed->Int}
def DM(h:a[i]?=b[j]?):kA f a i=kA f b j:=by unfold kA;rw[h]
def Lk.refl (lo:Nat)(st:SortSt):Lk lo st st:=#[A5,A5,A5,.refl _,λ_ _=>rfl]
def Lk.trans{st F B:SortSt}(h:Lk lo st F)(k:Lk lo F B):Lk lo st B:=#[k.kind.trans h.kind,k.pend.trans h.pend,k.fail.trans h.fail,k.perm.trans h.perm,λi hi=>(k.low i hi).trans (h.low i hi)]
def Lk.size{st B:SortSt}(h:Lk lo st B):(arrOf B).size=','.size:=h.perm.size_eq
def Lk.mem{st B:SortSt}(h:Lk lo st B)(k:∀x∈arrOf st,x∈L0):∀x∈arrOf B,x∈L0:=λx F=>k x (h.perm.mem_iff.mp F)
def DN (R:BL M A s κ L0 f){st:SortSt}{i:Nat}(J:kindOf st=κ)(B:∀x∈arrOf st,x∈L0)(hi:i<','.size)(O:j<','.size){Q:Option Bool->SortSt->Prop}(h:Q (some (decide (kA f ',' i<kA f ',' j))) st):wpS M A E s (ltAt' i j) Q st:=by rw[ltAt'_eq];show wpS_bind (wpS_get ?_);have F:','[i]?=some ','[i]:=aX hi;have I:','[j]?=some ','[j]:=aX O;show wpS_bind (yn F (wpS_bind (yn I (DJ R (B _ (et _)) (B _ (et _)) J ?_))));unfold kA at h;rw[F,I] at h;show h
def EX{st:SortSt}{Q:Unit->SortSt->Prop}(h:Q () (setArr st (mirror ',' i j ((j-i) / 2)))):wpS M A E s (reverseSlice' i j) Q st:=by rw[reverseSlice'_eq];show ev h
def Lk.rev (st:SortSt){i:Nat}(h1:lo<=i)(h2:j<=','.size):Lk lo st (setArr st (mirror ',' i j ((j-i) / 2))):=#[A5,A5,A5,mirror_perm _ _ _ _,λk B=>by change (mirror ',' i j ((j-i) / 2))[k]?=_;rw[getElem?_mirror_all h2,if_neg '!']]
def He(h2:j<=a.size)(k:Nat):kA f (mirror a i j ((j-i) / 2)) k=if i<=k/\k<j then kA f a (i+j-1-k) else kA f a k:=by
 have e:=getElem?_mirror_all (i:=i) h2 k;by_cases h:i<=k/\k<j;rw[if_pos h] at e ⊢;show DM e;rw[if_neg h] at e ⊢;show DM e
def uF{a:Array Keyed}{i:Nat}(h2:j<=a.size)(h:∀k,i<=k->k<j->kA f a k=kA f a (j-1))(k:Nat):kA f (mirror a i j ((j-i) / 2)) k=kA f a k:=by
 rw[He h2];split;rw[h _ '!' '!',h k '!' '!'];rfl
def Gse.turn{a:Array Keyed}{i:Nat}(h2:j<=a.size)(h:Gse f a i j):Seg f (mirror a i j ((j-i) / 2)) i j:=λp q B I F=>by rw[He h2,He h2,if_pos #[B,by lia],if_pos #[by lia,F]];show h _ _ '!' '!' '!'
def SO (R:BL M A s κ L0 f){st:SortSt}{nrem:Nat}(hk:kindOf st=κ)(ha:∀x∈arrOf st,x∈L0)(h1:1<=nrem)(hz:lo+nrem<=','.size){Q:Option Nat->SortSt->Prop}(h:∀m st',Lk lo st st'->1<=m->m<=nrem->Seg f (arrOf st') lo (lo+m)->Q (some m) st'):wpS M A E s (countRun' lo nrem) Q st:=by
 rw[countRun'_eq]
 have asc:∀ (n:Nat) (st1:SortSt),Lk lo st st1->1<=n->n<=nrem->Seg f (arrOf st1) lo (lo+n)->∀ {BA:Option '0'×Nat->SortSt->Prop} {body:Nat->Option '0'×Nat->StateT SortSt Sem (ForInStep (Option '0'×Nat))},
   (∀m,n<=m->m<=nrem->Seg f (arrOf st1) lo (lo+m)->(m<nrem->kA f (arrOf st1) (lo+m)<kA f (arrOf st1) (lo+m-1))->BA (none,m) st1)->
   (∀x m (G':ForInStep (Option '0'×Nat)->SortSt->Prop),n<=m->m<nrem->(kA f (arrOf st1) (lo+m)<kA f (arrOf st1) (lo+m-1)->G' (.done (none,m)) st1)->(¬ kA f (arrOf st1) (lo+m)<kA f (arrOf st1) (lo+m-1)->G' (.yield (none,m+1)) st1)->wpS M A E s (body x (none,m)) G' st1)->
   wpS M A E s (forIn [n:nrem] (none,n) body) BA st1:=by
  intro n st1 l1 hn1 hn2 hs BA body hG hb;have hz1:=l1.size;show cT (I:=λx c st2=>st2=st1/\c=(none,x)/\n<=x/\Seg f (arrOf st1) lo (lo+x)) ?_ ?_ #[A5,A5,ak _,hs];rintro x c st2 hx1 hx2 ⟨rfl,rfl,_,hs2⟩;show hb x x _ hx1 hx2 (λe=>hG x hx1 '!' hs2 λ_=>e) (λe=>?_);show#[A5,A5,by lia,λi j p q r=>?_];by_cases e1:j<lo+x;show hs2 i j p q e1;obtain rfl:j=lo+x:=by lia
  by_cases e2:i=lo+x;subst e2;show dN _;have:=hs2 i (lo+x-1) p '!' '!';lia;rintro c st2 ⟨rfl,rfl,_,hs2⟩;have e:max n nrem=nrem:=by lia
  rw[e] at hs2 ⊢;show hG nrem hn2 (ak _) hs2 λz=>by lia
 have step:∀ (st1:SortSt),Lk lo st st1->∀m,1<=m->m<nrem->∀ (G':ForInStep (Option '0'×Nat)->SortSt->Prop),(kA f (arrOf st1) (lo+m)<kA f (arrOf st1) (lo+m-1)->G' (.done (none,m)) st1)->(¬ kA f (arrOf st1) (lo+m)<kA f (arrOf st1) (lo+m-1)->G' (.yield (none,m+1)) st1)->
   ∀ {k:Option Bool->StateT SortSt Sem (ForInStep (Option '0'×Nat))},k (some true)=pure (.done (none,m))->k (some false)=pure (.yield (none,m+1))->wpS M A E s (ltAt' (lo+m) (lo+m-1) >>= k) G' st1:=by
  intro st1 l1 m h2 h3 G' g1 g2 k k1 k2;have hz1:=l1.size;show wpS_bind (DN R (l1.kind.trans hk) (l1.mem ha) '!' '!' ?_);by_cases e:kA f (arrOf st1) (lo+m)<kA f (arrOf st1) (lo+m-1);rw[aD e,k1];show wpS_pure (g1 e);rw[aJ e,k2];show wpS_pure (g2 e)
 show wpS_bind (asc 1 st (Lk.refl _ _) (ak _) h1 (λi j p q r=>by rw[show i=j by lia];show dN _) (λm hm1 hm2 hs hd=>?_) (λx m G' q1 q2 g1 g2=>step st (Lk.refl _ _) m '!' q2 G' g1 g2 A5 A5))
 have fall:∀st1,Lk lo st st1->m<nrem->Gse f (arrOf st1) lo (lo+(m+1))->∀ {BA:Option '0'×Nat×Nat->SortSt->Prop} {body:Nat->Option '0'×Nat×Nat->StateT SortSt Sem (ForInStep (Option '0'×Nat×Nat))},
   (∀n q st2,Lk lo st st2->m+1<=n->n<=nrem->q+1<=n->Gse f (arrOf st2) lo (lo+n)->(∀k,lo+n-(q+1)<=k->k<lo+n->kA f (arrOf st2) k=kA f (arrOf st2) (lo+n-1))->BA (none,n,q) st2)->
   (∀x n q st2 (G':ForInStep (Option '0'×Nat×Nat)->SortSt->Prop),Lk lo st st2->m+1<=n->n<nrem->q+1<=n->
    (kA f (arrOf st2) (lo+n)<kA f (arrOf st2) (lo+n-1)->q > 0->G' (.yield (none,n+1,0)) (setArr st2 (mirror (arrOf st2) (lo+n-(q+1)) (lo+n) ((lo+n-(lo+n-(q+1))) / 2))))->(kA f (arrOf st2) (lo+n)<kA f (arrOf st2) (lo+n-1)->¬ q > 0->G' (.yield (none,n+1,0)) st2)->
    (kA f (arrOf st2) (lo+n-1)<kA f (arrOf st2) (lo+n)->G' (.done (none,n,q)) st2)->(kA f (arrOf st2) (lo+n)=kA f (arrOf st2) (lo+n-1)->G' (.yield (none,n+1,q+1)) st2)->wpS M A E s (body x (none,n,q)) G' st2)->
   wpS M A E s (forIn [m+1:nrem] (none,m+1,0) body) BA st1:=by
  intro st1 l1 hmn hg BA body hG hb;show cT (I:=λx c st2=>∃q,c=(none,x,q)/\Lk lo st st2/\m+1<=x/\q+1<=x/\Gse f (arrOf st2) lo (lo+x)/\∀k,lo+x-(q+1)<=k->k<lo+x->kA f (arrOf st2) k=kA f (arrOf st2) (lo+x-1)) ?_ ?_ #[0,A5,l1,ak _,by lia,hg,λk p q=>by congr 1;lia];rintro x c st2 hx1 hx2 ⟨q,rfl,l2,p1,p2,p3,p4⟩;have hz2:=l2.size
  have more:∀st3:SortSt,(∀k,kA f (arrOf st3) k=kA f (arrOf st2) k)->kA f (arrOf st2) (lo+x)<=kA f (arrOf st2) (lo+x-1)->Gse f (arrOf st3) lo (lo+(x+1)):=λst3 e3 hle i j a1 a2 a3=>by
   rw[e3,e3];by_cases e1:j<lo+x;show p3 i j a1 a2 e1;obtain rfl:j=lo+x:=by lia
   by_cases e2:i=lo+x;subst e2;show dN _;have:=p3 i (lo+x-1) a1 '!' '!';lia
  show hb x x q st2 _ l2 p1 hx2 p2 (λe hq=>?_) (λe hq=>?_) (λe=>?_) (λe=>?_);have e3:∀k,kA f (mirror (arrOf st2) (lo+x-(q+1)) (lo+x) ((lo+x-(lo+x-(q+1))) / 2)) k=kA f (arrOf st2) k:=uF '!' p4;show#[0,A5,l2.trans (Lk.rev st2 '!' '!'),by lia,by lia,more _ e3 '!',λk a1 a2=>by congr 1;lia];show#[0,A5,l2,by lia,by lia,more _ (λ_=>rfl) '!',λk a1 a2=>by congr 1;lia];show hG x q st2 l2 p1 '!' p2 p3 p4;show#[q+1,A5,l2,by lia,by lia,more _ (λ_=>rfl) '!',λk a1 a2=>?_];rw[show lo+(x+1)-1=lo+x by lia];by_cases e1:k=lo+x;rw[e1];rw[p4 k '!' '!',e];rintro c st2 ⟨q,rfl,l2,p1,p2,p3,p4⟩;have e:max (m+1) nrem=nrem:=by lia
  rw[e] at p1 p2 p3 p4 ⊢;show hG nrem q st2 l2 p1 (ak _) p2 p3 p4
 dsimp only;by_cases e1:(m==nrem)=true;rw[if_pos e1];show wpS_pure (h m st (Lk.refl _ _) hm1 hm2 hs);rw[if_neg e1];have e1':m<nrem:=by have:m≠nrem:=λz=>e1 (by rw[z];show cO _);lia
 have hd:=hd e1';by_cases e2:m > 1
 case' pos=>
  rw[if_pos e2];show wpS_bind (DN R hk ha '!' '!' ?_);by_cases e3:kA f ',' lo<kA f ',' (lo+m-1);rw[aD e3];show wpS_pure (h m st (Lk.refl _ _) hm1 hm2 hs);rw[aJ e3];dsimp only;rw[if_neg aB];show wpS_bind (EX ?_);have l1:=Lk.rev (lo:=lo) st (i:=lo) (j:=lo+m) (ak _) '!';have eq0:∀k,lo<=k->k<lo+m->kA f ',' k=kA f ',' (lo+m-1):=λk a1 a2=>by have h3:=hs lo k (ak _) a1 a2;have h4:=hs k (lo+m-1) a1 '!' '!';lia
  have eq1:=uF (i:=lo) '!' eq0
  have g1:Gse f (mirror ',' lo (lo+m) ((lo+m-lo) / 2)) lo (lo+(m+1)):=λi j a1 a2 a3=>by
   rw[eq1,eq1];by_cases ej:j<lo+m;rw[eq0 j '!' ej,eq0 i a1 '!'];show dN _;obtain rfl:j=lo+m:=by lia
   by_cases ei:i=lo+m;rw[ei];show dN _;rw[eq0 i a1 '!'];lia
  have g1:Gse f (arrOf (setArr st (mirror ',' lo (lo+m) ((lo+m-lo) / 2)))) lo (lo+(m+1)):=g1;generalize setArr st (mirror ',' lo (lo+m) ((lo+m-lo) / 2))=st1 at l1 g1 ⊢
 case' neg=>
  rw[if_neg e2]
  obtain⟨st1,l1,g1,hst⟩:∃st1,Lk lo st st1/\Gse f (arrOf st1) lo (lo+(m+1))/\st1=st:=#[st,Lk.refl _ _,λi j a1 a2 a3=>by
   by_cases e:i=j;rw[e];show dN _;rw[show i=lo+m-1 by lia,show j=lo+m by lia];lia,A5]
  rw[<- hst]
 all_goals
  show wpS_bind (wpS_lift (cD #[A5,?_]));show wpS_bind (fall st1 l1 e1' g1 (λn q st2 l2 n1 n2 q1 g2 g3=>?_) (λx n q st2 G' l2 n1 n2 q1 b1 b2 b3 b4=>?_))
  ·dsimp only;have hz2:=l2.size;by_cases e4:q > 0
   case' pos=>
    rw[if_pos e4];show wpS_bind (EX ?_);have l3:=l2.trans (Lk.rev (lo:=lo) st2 (i:=lo+n-(q+1)) (j:=lo+n) '!' '!');have eq3:=uF (i:=lo+n-(q+1)) '!' g3;have g4:Gse f (arrOf (setArr st2 (mirror (arrOf st2) (lo+n-(q+1)) (lo+n) ((lo+n-(lo+n-(q+1))) / 2)))) lo (lo+n):=λi j a1 a2 a3=>by have:=g2 i j a1 a2 a3;rw[<- eq3 i,<- eq3 j] at this;show this
    generalize setArr st2 (mirror (arrOf st2) (lo+n-(q+1)) (lo+n) ((lo+n-(lo+n-(q+1))) / 2))=st3 at l3 g4 ⊢
   case' neg=>
    rw[if_neg e4];obtain⟨st3,l3,g4,hst3⟩:∃st3,Lk lo st st3/\Gse f (arrOf st3) lo (lo+n)/\st3=st2:=#[st2,l2,g2,A5];rw[<- hst3]
   all_goals
    show wpS_bind (EX ?_);have hz3:=l3.size;have l4:=l3.trans (Lk.rev (lo:=lo) st3 (i:=lo) (j:=lo+n) (ak lo) '!');have g5:=Gse.turn '!' g4;show wpS_bind (asc n _ l4 '!' n2 g5 (λm' a1 a2 a3 a4=>?_) (λx m' G' q1 q2 c1 c2=>step _ l4 m' '!' q2 G' c1 c2 A5 A5));show wpS_pure (h m' _ l4 '!' a2 a3)
  dsimp only;have hz2:=l2.size;show wpS_bind (DN R (l2.kind.trans hk) (l2.mem ha) '!' '!' ?_);by_cases e5:kA f (arrOf st2) (lo+n)<kA f (arrOf st2) (lo+n-1);rw[aD e5];dsimp only;rw[if_pos rfl];by_cases e6:q > 0;rw[if_pos e6];show wpS_bind (EX (wpS_pure (b1 e5 e6)));rw[if_neg e6];show wpS_pure (b2 e5 e6);rw[aJ e5];dsimp only;rw[if_neg aB];show wpS_bind (DN R (l2.kind.trans hk) (l2.mem ha) '!' '!' ?_);by_cases e6:kA f (arrOf st2) (lo+n-1)<kA f (arrOf st2) (lo+n);rw[aD e6];show wpS_pure (b3 e6);rw[aJ e6];show wpS_pure (b4 '!')
def SQ{st:SortSt}{Q:Unit->SortSt->Prop}(h:Q () (setArr st (bubble ',' i (i-j)))):wpS M A E s (moveDown' i j) Q st:=by rw[moveDown'_eq];show ev h
def Lk.move (st:SortSt){i:Nat}(h1:lo<=j)(h2:i<','.size)(B:j<=i):Lk lo st (setArr st (bubble ',' i (i-j))):=#[A5,A5,A5,bubble_perm _ _ _,λk F=>by change (bubble ',' i (i-j))[k]?=_;rw[getElem?_bubble h2 _ '!',if_neg '!',if_neg '!']]
def Lh(h2:i<a.size)(I:j<=i)(k:Nat):kA f (bubble a i (i-j)) k=if k=j then kA f a i else if j<k/\k<=i then kA f a (k-1) else kA f a k:=by
 have e:=getElem?_bubble h2 (i-j) '!' k;rw[show i-(i-j)=j by lia] at e;by_cases B:k=j;rw[if_pos B] at e ⊢;show DM e;rw[if_neg B] at e ⊢;by_cases F:j<k/\k<=i;rw[if_pos F] at e ⊢;show DM e;rw[if_neg F] at e ⊢;show DM e
def SR (R:BL M A s κ L0 f){st:SortSt}{U:Nat}(hk:kindOf st=κ)(ha:∀x∈arrOf st,x∈L0)(h1:U<=n)(hn:1<=n)(hz:lo+n<=','.size)(hs:Seg f ',' lo (lo+U)){Q:Bool->SortSt->Prop}(h:∀B,Lk lo st B->Seg f (arrOf B) lo (lo+n)->Q true B):wpS M A E s (binarySort' lo n U) Q st:=by
 rw[binarySort'_eq];show wpS_bind (wpS_mono (cT (I:=λx c B=>c=(none,())/\Lk lo st B/\Seg f (arrOf B) lo (lo+x)) (Q:=λc B=>c=(none,())/\Lk lo st B/\Seg f (arrOf B) lo (lo+n)) ?_ ?_ #[A5,Lk.refl _ _,?_]) ?_);rintro k c F ad ag ⟨rfl,O,s1⟩;have al:=O.size;dsimp only
 show wpS_bind (wpS_mono (cT (I:=λx c B=>B=F/\∃l r,c=(none,l,r)/\l<=r/\r<=k/\(∀i,i<l->kA f (arrOf F) (lo+i)<=kA f (arrOf F) (lo+k))/\(∀i,r<=i->i<k->kA f (arrOf F) (lo+k)<kA f (arrOf F) (lo+i))/\r-l+x<=k)
  (Q:=λc B=>B=F/\∃l,c=(none,l,l)/\l<=k/\(∀i,i<l->kA f (arrOf F) (lo+i)<=kA f (arrOf F) (lo+k))/\(∀i,l<=i->i<k->kA f (arrOf F) (lo+k)<kA f (arrOf F) (lo+i))) ?_ ?_ #[A5,0,k,A5,by lia,by lia,λi hi=>by lia,λi a1 a2=>by lia,by lia]) ?_)
 rintro x c J _ hx ⟨rfl,l,r,rfl,p1,p2,p3,p4,p5⟩;dsimp only;by_cases e:l ≥ r;rw[if_pos e];obtain rfl:l=r:=by lia
 show wpS_pure #[A5,l,A5,p2,p3,p4];rw[if_neg e];show wpS_bind (DN R (O.kind.trans hk) (O.mem ha) '!' '!' ?_);by_cases e2:kA f (arrOf J) (lo+k)<kA f (arrOf J) (lo+(l+r) / 2);rw[aD e2];show wpS_pure #[A5,l,(l+r) / 2,A5,by lia,by lia,p3,λi a1 a2=>?_,by lia];have:=s1 (lo+(l+r) / 2) (lo+i) '!' '!' '!';lia;rw[aJ e2];show wpS_pure #[A5,(l+r) / 2+1,r,A5,by lia,p2,λi a1=>?_,p4,by lia];have:=s1 (lo+i) (lo+(l+r) / 2) '!' '!' '!';lia;rintro c J ⟨rfl,l,r,rfl,p1,p2,p3,p4,p5⟩;obtain rfl:l=r:=by lia
 show#[A5,l,A5,p2,p3,p4];rintro c J ⟨rfl,l,rfl,p2,p3,p4⟩;dsimp only;show wpS_bind (SQ (wpS_pure #[A5,O.trans (Lk.move J '!' '!' '!'),λi j a1 a2 a3=>?_]));change kA f (bubble (arrOf J) (lo+k) (lo+k-(lo+l))) i<=kA f (bubble (arrOf J) (lo+k) (lo+k-(lo+l))) j;rw[Lh '!' '!',Lh '!' '!'];have up:=λx y b1 b2 b3=>s1 x y b1 b2 b3;by_cases ei:i=lo+l;rw[if_pos ei];by_cases Y:j=lo+l;rw[if_pos Y];show dN _;rw[if_neg Y,if_pos #[by lia,by lia]];have:=p4 (j-1-lo) '!' '!';rw[show lo+(j-1-lo)=j-1 by lia] at this;lia;rw[if_neg ei];by_cases ab:lo+l<i/\i<=lo+k;rw[if_pos ab,if_neg '!',if_pos #[by lia,by lia]];show s1 _ _ '!' '!' '!';rw[if_neg ab];by_cases Y:j=lo+l;rw[if_pos Y];have:=p3 (i-lo) '!';rw[show lo+(i-lo)=i by lia] at this;show this;rw[if_neg Y];by_cases ac:lo+l<j/\j<=lo+k;rw[if_pos ac];show s1 _ _ '!' '!' '!';rw[if_neg ac];show s1 _ _ '!' '!' '!';rintro c F ⟨rfl,O,s1⟩;have e:max (max U 1) n=n:=by lia
 rw[e] at s1;show#[A5,O,s1];by_cases e:1<=U;rw[show max U 1=U by lia];show hs;intro i j a1 a2 a3;rw[show i=j by lia];show dN _;rintro c F ⟨rfl,O,s1⟩;show wpS_pure (h F O s1)
end
theorem Li (base:Nat):∀ (l:List Keyed) (n:Nat) (a:Array Keyed),base+n+l.length<=a.size->((l.zipIdx n).foldl (λa (p:Keyed×Nat)=>a.setIfInBounds (base+p.2) p.1) a).toList=a.toList.take (base+n)++(l++a.toList.drop (base+n+l.length))
 | [],n,a,_=>by simp
 | p::l,n,a,h=>by
  rw[aS] at h;rw[List.zipIdx_cons,List.foldl_cons,Li base l (n+1) _ (by rw[Array.size_setIfInBounds];lia),Array.toList_setIfInBounds,List.set_eq_take_append_cons_drop,if_pos (by rw[aM];lia)];have e:a.toList.take (base+n)++p::a.toList.drop (base+n+1)=(a.toList.take (base+n)++[p])++a.toList.drop (base+n+1):=by simp
  have B:(a.toList.take (base+n)++[p]).length=base+n+1:=by simp;lia
  rw[e,gD (by rw[B];lia),<- eF,List.drop_left' (by rw[B];lia),eF,aS];rw[aC,show base+n+1+l.length=base+n+(l.length+1) by lia];rfl
def SS{P A S:List Keyed}(h:P.length=n):(P++(A++S)).drop n=A++S:=List.drop_left' h
def Hf{P A S:List Keyed}(h:P.length=n)(k:A.length=m):((P++(A++S)).drop n).take m=A:=by rw[SS h,gD k]
section
variable{M:Model}{A:Ae}{κ:SortKind}{f:Keyed->Int}
def Lj{a:Array Keyed}{P X S:List Keyed}{i:Nat}(e:a.toList=P++(X++S))(h:P.length=i)(k:X.length+i=j):(a.extract i j).toList=X:=by
 have:(a.extract i j).toList=(a.toList.drop i).take (j-i):=by simp
 rw[this,e,Hf h '!']
def Ll{a:Array Keyed}{P S:List Keyed}(e:a.toList=P++x::S)(h:P.length=i):a[i]?=some x:=by rw[<- cq,e,<- h,bp (ak _)];simp
def ST{st st':SortSt}{Q:PUnit->SortSt->Prop}(h:Q #[] st'):wpS M A E s (set st':StateT SortSt Sem PUnit) Q st:=by unfold wpS;rw[StateT.run_set];show ae #[A5,h]
def SU (R:BL M A s κ L0 f){st:SortSt}{i:Nat}{pu pv:List (Nat×Nat×Nat)}{P U V S:List Keyed}{p1 p2:Nat}(hk:kindOf st=κ)(ad:failedOf st=none)(ha:∀x∈arrOf st,x∈L0)(B:','.toList=P++(U++(V++S)))(ag:pendingOf st=(pu++(P.length,U.length,p1)::(P.length+U.length,V.length,p2)::pv).toArray)(hi:i=pu.length)(nu:U≠[])(nv:V≠[])(su:U.Pairwise (leF f))(sv:V.Pairwise (leF f)){Q:Bool->SortSt->Prop}(h:∀ (I:SortSt) (C:List Keyed),kindOf I=κ->failedOf I=none->(arrOf I).toList=P++(C++S)->C.Perm (U++V)->C.Pairwise (leF f)->pendingOf I=(pu++(P.length,U.length+V.length,p1)::pv).toArray->Q true I):wpS M A E s (mergeAt' i) Q st:=by
 subst hi;show wpS_bind (wpS_get ?_);have g1:(pendingOf st)[pu.length]?=some (P.length,U.length,p1):=by rw[ag];simp
 have g2:(pendingOf st)[pu.length+1]?=some (P.length+U.length,V.length,p2):=by rw[ag];simp
 have g3:((pendingOf st).setIfInBounds pu.length (P.length,U.length+V.length,p1)).eraseIdxIfInBounds (pu.length+1)=(pu++(P.length,U.length+V.length,p1)::pv).toArray:=by rw[ag];simp[List.eraseIdx_append_of_length_le]
 rw[g1,g2];dsimp only;show wpS_bind (ST ?_);rw[g3]
 obtain⟨y,V',rfl⟩:∃y V',V=y::V':=by
  cases V with
  | nil=>show absurd A5 nv
  | cons y V'=>show#[y,V',A5]
 obtain⟨U',z,rfl⟩:∃U' z,U=U'++[z]:=#[U.dropLast,U.getLast nu,(bG nu).symm];have hy:','[P.length+(U'++[z]).length]?=some y:=Ll (P:=P++(U'++[z])) (S:=V'++S) (by rw[B];simp) '$';have hz:','[P.length+(U'++[z]).length-1]?=some z:=Ll (P:=P++U') (S:=y::V'++S) (by rw[B];simp) '$';have hsz:','.size=P.length+((U'++[z]).length+((y::V').length+S.length)):=by rw[<- aM,B];simp only[ay]
 have an:∀x∈U'++[z],x∈L0:=λx F=>ha x (by rw[<- bZ,B];simp only[aA] at F ⊢;rcases F with F | F <;> simp[F]);have inV:∀x∈y::V',x∈L0:=λx F=>ha x (by rw[<- bZ,B];show a8 _ (a8 _ (cC _ F)));have cu:(','.toList.drop P.length).take (U'++[z]).length=U'++[z]:=by rw[B];show Hf A5 A5
 have cv:(','.toList.drop (P.length+(U'++[z]).length)).take (y::V').length=y::V':=by rw[B,<- aC];show Hf '$' A5
 have hV:∀w∈y::V',f y<=f w:=λw J=>by
  rcases au.mp J with rfl | J;show dN _;show (aR.mp sv).1 w J
 have hU:∀w∈U'++[z],f w<=f z:=λw J=>by
  rcases aA.mp J with J | J;show (br.mp su).2.2 w J z '$';rw[ao.mp J];show dN _
 generalize ab:U'++[z]=U at *;generalize al:y::V'=V at *;have yV:y∈V:=by rw[<- al];show aq
 have zU:z∈U:=by rw[<- ab];simp
 have bm:1<=U.length:=by rw[<- ab];simp
 have bo:1<=V.length:=by rw[<- al];simp
 have ac:kindOf (SortSt.mk' (kindOf st) ',' (pu++(P.length,U.length+V.length,p1)::pv).toArray (gallopOf st) (failedOf st))=κ:=hk;show wpS_bind (yn hy ?_);show wpS_bind (C_ (left:=false) (base:=P.length) (n:=U.length) (hint:=0) R (inV _ yV) ha '!' '!' (by rw[cu];show su) ac λk k1 k2 k3=>?_);dsimp only;have as:∀x∈U.take k,f x<=f y:=λx F=>by have O:=k2 x (by rw[<- cu,List.take_take,eX k1] at F;show F);unfold xG at O;rw[if_neg aB,eu,bX] at O;lia
 have bb:∀x∈U.drop k,f y<f x:=λx F=>by have O:=k3 x (by rw[cu];show F);unfold xG at O;rw[if_neg aB,gR,cH] at O;show O
 clear k2 k3;by_cases e1:(U.length-k==0)=true;rw[if_pos e1];have e1:=cG e1;show wpS_pure (h _ (U++V) hk ad (by rw[aC];show B) (fO _) (br.mpr #[su,sv,λa F b hb=>?_]) A5);have h6:=as a (by rw[bz '!'];show F);have h7:=hV b hb;change f a<=f b;lia;rw[if_neg e1];have bs:U.length-k≠0:=λq=>e1 (by rw[q];rfl);rw[show P.length+k+(U.length-k)-1=P.length+U.length-1 by lia];show wpS_bind (yn hz ?_);show wpS_bind (C_ (left:=true) (base:=P.length+U.length) (n:=V.length) (hint:=V.length-1) R (an _ zU) ha '!' '!' (by rw[cv];show sv) ac λj j1 j2 j3=>?_);dsimp only;have bc:∀x∈V.take j,f x<f z:=λx F=>by have O:=j2 x (by rw[<- cv,List.take_take,eX j1] at F;show F);unfold xG at O;rw[if_pos rfl,cH] at O;show O
 have a0:∀x∈V.drop j,f z<=f x:=λx F=>by have O:=j3 x (by rw[cv];show F);unfold xG at O;rw[if_pos rfl,bX] at O;lia
 clear j2 j3;by_cases e2:(j==0)=true;rw[if_pos e2];have e2:=cG e2;subst e2;show wpS_pure (h _ (U++V) hk ad (by rw[aC];show B) (fO _) (br.mpr #[su,sv,λa F b hb=>?_]) A5);have h6:=a0 b hb;have h7:=hU a F;change f a<=f b;lia;rw[if_neg e2];have bt:j≠0:=λq=>e2 (by rw[q];rfl);have ex:(','.extract (P.length+k) (P.length+U.length)).toList=U.drop k:=Lj (P:=P++U.take k) (S:=V++S) (by rw[B,aC,<- aC (U.take k),aV]) (by simp;lia) (by simp;lia);have ey:(','.extract (P.length+U.length) (P.length+U.length+j)).toList=V.take j:=Lj (P:=P++U) (S:=V.drop j++S) (by rw[B,<- aC (V.take j),aV,aC]) '$' (by simp;lia);generalize hX:','.extract (P.length+k) (P.length+U.length)=X at ex ⊢;generalize hY:','.extract (P.length+U.length) (P.length+U.length+j)=Y at ey ⊢;have bd:X.size=U.length-k:=by rw[<- aM,ex];simp
 have bx:Y.size=j:=by rw[<- aM,ey];simp;lia
 have mX:∀x∈X,x∈U.drop k:=λx F=>by rw[<- ex];show bZ.mpr F
 have mY:∀x∈Y,x∈V.take j:=λx F=>by rw[<- ey];show bZ.mpr F
 have a1:∀x∈X,∀w,Y[0]?=some w->f w<=f x:=λx F w J=>by
  have h8:w=y:=by rw[<- cq,ey,cm '!',<- al] at J;show (bL J).symm
  have:=bb x (mX x F);rw[h8];lia
 have a2:∀x∈Y,∀w,X[X.size-1]?=some w->f x<=f w:=λx F w J=>by
  have h8:w=z:=by
   have ul:U.length=U'.length+1:=by rw[<- ab];simp
   rw[<- cq,ex,gQ,bd,show k+(U.length-k-1)=U'.length by lia,<- ab] at J;simpa using J.symm
  have:=bc x (mY x F);rw[h8];lia
 have fin:∀ (out:Array Keyed),Bk (leF f) (X.toList++Y.toList) out.toList->(U.take k++(out.toList++V.drop j)).Perm (U++V)/\(U.take k++(out.toList++V.drop j)).Pairwise (leF f)/\(out.toList.zipIdx.foldl (λa (p:Keyed×Nat)=>a.setIfInBounds (P.length+k+p.2) p.1) ',').toList=P++((U.take k++(out.toList++V.drop j))++S):=λout tl=>by
  rw[ex,ey] at tl;have a3:out.toList.length=U.length-k+j:=by rw[tl.1.length_eq];simp;lia
  show#[?_,?_,?_];have h9:(U.take k++(out.toList++V.drop j)).Perm (U.take k++((U.drop k++V.take j)++V.drop j)):=(tl.1.append_right _).append_left _;have bk:U.take k++((U.drop k++V.take j)++V.drop j)=U++V:=by rw[aC (U.drop k),aV,<- aC,aV]
  rw[bk] at h9;show h9;have pu:=br.mp (by rw[aV];show su:(U.take k++U.drop k).Pairwise (leF f));have pv:=br.mp (by rw[aV];show sv:(V.take j++V.drop j).Pairwise (leF f));show br.mpr #[pu.1,br.mpr #[tl.2,pv.2.1,λa h1 b h2=>?_],λa h1 b h2=>?_];rcases aA.mp (tl.1.mem_iff.mp h1) with h1 | h1;have q1:=hU a (bO h1);have q2:=a0 b h2;change f a<=f b;lia;show pv.2.2 a h1 b h2;have q1:=as a h1;change f a<=f b;rcases aA.mp h2 with h2 | h2;rcases aA.mp (tl.1.mem_iff.mp h2) with h2 | h2;show pu.2.2 a h1 b h2;have q2:=hV b (bH h2);lia;have q2:=hV b (bO h2);lia;have h9:=Li (P.length+k) out.toList 0 ',' '!';rw[iE] at h9;rw[h9,B];have q1:P++(U++(V++S))=(P++U.take k)++(U.drop k++(V++S)):=by rw[aC,<- aC (U.take k),aV]
  have q2:P++(U++(V++S))=(P++(U++V.take j))++(V.drop j++S):=by rw[aC,aC,<- aC (V.take j),aV]
  have q3:List.take (P.length+k) (P++(U++(V++S)))=P++U.take k:=by rw[q1];show gD (by simp;lia)
  have q4:List.drop (P.length+k+out.toList.length) (P++(U++(V++S)))=V.drop j++S:=by rw[q2,a3];show List.drop_left' (by simp;lia)
  rw[q3,q4];simp
 have a4:∀x∈X,x∈L0:=λx F=>an x (bO (mX x F));have a5:∀x∈Y,x∈L0:=λx F=>inV x (bH (mY x F));have sX:X.toList.Pairwise (leF f):=by rw[ex];show su.sublist (ez _ _)
 have sY:Y.toList.Pairwise (leF f):=by rw[ey];show sv.sublist (cV _ _)
 by_cases e3:U.length-k<=j
 case' pos=>
  rw[if_pos e3];show wpS_bind (SM R a4 a5 sX sY '!' '!' a1 a2 ac λout I lk tl=>?_)
 case' neg=>
  rw[if_neg e3];show wpS_bind (SN R a4 a5 sX sY '!' '!' a1 a2 ac λout I lk tl=>?_)
 all_goals
  obtain⟨r1,r2,r3⟩:=fin out tl;have bl:arrOf I=arrOf st:=lk.arr;have a7:failedOf I=none:=lk.fail.trans ad;show wpS_bind (ev (wpS_bind (wpS_get ?_)));have h9:=h (SortSt.mk' (kindOf I) (out.toList.zipIdx.foldl (λa (p:Keyed×Nat)=>a.setIfInBounds (P.length+k+p.2) p.1) (arrOf I)) (pendingOf I) (gallopOf I) (failedOf I)) _ (lk.kind.trans hk) a7 (by rw[<- r3,<- bl]) r1 r2 lk.pend;show wpS_pure ?_;change Q (failedOf I).isNone _;rw[a7];show h9
end
def Bg:Nat->List (List Keyed×Nat)->List (Nat×Nat×Nat)
 | _,[]=>[]
 | s,(l,p)::r=>(s,l.length,p)::Bg (s+l.length) r
def zN (B:List (List Keyed×Nat)):List Keyed:=B.flatMap (·.1)
def zG (r:List Keyed×Nat)(v:List (List Keyed×Nat)):zN (r::v)=r.1++zN v:=by simp[zN]
def yw (u v:List (List Keyed×Nat)):zN (u++v)=zN u++zN v:=by simp[zN]
theorem x8:∀ (u v:List (List Keyed×Nat)) (s:Nat),Bg s (u++v)=Bg s u++Bg (s+(zN u).length) v
 | [],v,s=>by simp[Bg,zN]
 | (l,p)::u,v,s=>by rw[cP,Bg,Bg,x8 u v,zG,ay,ff];rfl
theorem EY:∀ (u:List (List Keyed×Nat)) (s:Nat),(Bg s u).length=u.length
 | [],_=>rfl
 | (l,p)::u,s=>by rw[Bg,aS,EY u,aS]
structure SI (κ:SortKind)(f:Keyed->Int)(T:List Keyed)(rs:List (List Keyed×Nat))(zu:List Keyed)(st:SortSt):Prop where
 kind:kindOf st=κ
 fail:failedOf st=none
 arr:(arrOf st).toList=zN rs++zu
 perm:(zN rs++zu).Perm T
 pend:pendingOf st=(Bg 0 rs).toArray
 ne:∀r∈rs,r.1≠[]
 up:∀r∈rs,r.1.Pairwise (leF f)
section
variable{M:Model}{A:Ae}{κ:SortKind}{T:List Keyed}{f:Keyed->Int}
def SI.size{B:List (List Keyed×Nat)}{zu:List Keyed}{st:SortSt}(h:SI κ f T B zu st):','.size=T.length:=by rw[<- aM,h.arr,h.perm.length_eq]
def SI.len{B:List (List Keyed×Nat)}{zu:List Keyed}{st:SortSt}(h:SI κ f T B zu st):(zN B).length+zu.length=T.length:=by rw[<- h.perm.length_eq,ay]
def SI.mem{B:List (List Keyed×Nat)}{zu:List Keyed}{st:SortSt}(h:SI κ f T B zu st):∀x∈arrOf st,x∈T:=λx F=>h.perm.mem_iff.mp (by rw[<- h.arr];show bZ.mpr F)
def SI.psz{B:List (List Keyed×Nat)}{zu:List Keyed}{st:SortSt}(h:SI κ f T B zu st):(pendingOf st).size=B.length:=by rw[h.pend,aU,EY]
def t_mg (R:BL M A s κ T f){B:List (List Keyed×Nat)}{zu:List Keyed}{st:SortSt}(h:SI κ f T B zu st){i:Nat}(hi:i+1<B.length){Q:Bool->SortSt->Prop}(k:∀O I,SI κ f T O zu I->O.length+1=B.length->Q true I):wpS M A E s (mergeAt' i) Q st:=by
 obtain⟨u,U,p1,V,p2,v,rfl,hu⟩:∃u U p1 V p2 v,B=u++(U,p1)::(V,p2)::v/\i=u.length:=by show#[B.take i,B[i].1,B[i].2,B[i+1].1,B[i+1].2,B.drop (i+2),?_,by simp;lia];have e1:B.drop i=B[i]::B.drop (i+1):=cK '!';have e2:B.drop (i+1)=B[i+1]::B.drop (i+2):=cK hi;change B=B.take i++B[i]::B[i+1]::B.drop (i+2);rw[<- e2,<- e1,aV]
 have J:=h.arr;have Y:=h.pend;rw[yw,zG,zG,aC,aC,aC] at J;rw[x8,Bg,Bg,gS] at Y;show SU R h.kind h.fail h.mem J Y (by rw[EY];show hu) (h.ne (U,p1) '$') (h.ne (V,p2) '$') (h.up (U,p1) '$') (h.up (V,p2) '$') λI C c1 c2 c3 c4 c5 c6=>k (u++(C,p1)::v) I #[c1,c2,?_,?_,?_,?_,?_] (by simp;lia);rw[yw,zG,aC,aC];show c3;show List.Perm.trans ?_ h.perm;rw[yw,yw,zG,zG,zG];show List.Perm.append_right _ (fP _ ?_);rw[<- aC];show c4.append_right _;rw[c6,x8,Bg,gS,c4.length_eq,ay,ff];intro r F;rcases aA.mp F with F | F;show h.ne r (by simp[F]);rcases au.mp F with rfl | F;intro z;have z:C=[]:=z;have q:=c4.length_eq;rw[z,ay] at q;have n1:U≠[]:=h.ne (U,p1) '$';have q:0=U.length+V.length:=q;show n1 (a9 '!');show h.ne r (by simp[F]);intro r F;rcases aA.mp F with F | F;show h.up r (by simp[F]);rcases au.mp F with rfl | F;show c5;show h.up r (by simp[F])
def SV{a:Array Keyed}(h:Seg f a lo (lo+n))(J:lo+n<=a.size):((a.toList.drop lo).take n).Pairwise (leF f):=by
 rw[ce];intro i j hi B F;have I:j<n:=by simp at B;lia
 have:=h (lo+i) (lo+j) '!' '!' '!';unfold kA at this;rw[aX '!',aX '!'] at this;simpa [ii,List.getElem_drop] using this
def SI.next{F:List (List Keyed×Nat)}{zu:List Keyed}{st B:SortSt}(h:SI κ f T F zu st)(l:Lk (zN F).length st B)(hn:1<=n)(hz:(zN F).length+n<=T.length)(U:Seg f (arrOf B) (zN F).length ((zN F).length+n)):
  ∃L I,SI κ f T F (L++I) B/\L.length=n/\L.Pairwise (leF f)/\L≠[]:=by
 have hs:=h.size;have Y:=l.size
 have e1:(arrOf B).toList.take (zN F).length=zN F:=by
  have q:(arrOf B).toList.take (zN F).length=','.toList.take (zN F).length:=by
   show em λi=>?_;rw[List.getElem?_take,List.getElem?_take];split
   ·rename_i hi;have:=l.low i hi;rw[cq,cq];show this
   rfl
  rw[q,h.arr,gD rfl]
 have O:(arrOf B).toList=zN F++(((arrOf B).toList.drop (zN F).length).take n++(arrOf B).toList.drop ((zN F).length+n)):=by have q:=aV (zN F).length (arrOf B).toList;rw[e1] at q;rw[Ha];show q.symm
 have J:(((arrOf B).toList.drop (zN F).length).take n).length=n:=by simp;lia
 show#[_,_,#[l.kind.trans h.kind,l.fail.trans h.fail,O,?_,l.pend.trans h.pend,h.ne,h.up],J,SV U '!',λz=>by rw[z] at J;simp at J;lia];rw[<- O];have q:=l.perm.toList;show q.trans ?_;rw[h.arr];show h.perm
def SI.push{F:List (List Keyed×Nat)}{L zu:List Keyed}{st:SortSt}(h:SI κ f T F (L++zu) st)(I:L≠[])(hs:L.Pairwise (leF f))(h1:(zN F).length=lo)(h2:L.length=n):
  SI κ f T (F++[(L,0)]) zu (setPending st ((pendingOf st).push (lo,n,0))):=by
 have e:zN (F++[(L,0)])++zu=zN F++(L++zu):=by rw[yw,zG];simp[zN]
 show#[h.kind,h.fail,by rw[e];show h.arr,by rw[e];show h.perm,?_,λr B=>?_,λr B=>?_];rw[h.pend,x8,Bg,Bg,gS,h1,h2];simp;rcases aA.mp B with B | B;show h.ne r B;rw[ao.mp B];show I;rcases aA.mp B with B | B;show h.up r B;rw[ao.mp B];show hs
def SI.pow{I:List (List Keyed×Nat)}{zu:List Keyed}{st:SortSt}(h:SI κ f T I zu st)(Y:1<=I.length)(g:Nat×Nat×Nat->Nat×Nat×Nat)(J:Nat)(hg:∀a b c,g (a,b,c)=(a,b,J)):
  ∃O,SI κ f T O zu (setPending st ((pendingOf st).modify ((pendingOf st).size-1) g)):=by
 obtain⟨u,U,p,rfl⟩:∃u U p,I=u++[(U,p)]:=by
  rcases List.eq_nil_or_concat I with rfl | ⟨u,r,rfl⟩;simp at Y;show#[u,r.1,r.2,by simp]
 have F:∀q,zN (u++[(U,q)])=zN u++U:=λq=>by rw[yw,zG];simp[zN]
 show#[u++[(U,J)],h.kind,h.fail,by rw[F,<- F p];show h.arr,by rw[F,<- F p];show h.perm,?_,λr B=>?_,λr B=>?_];rw[h.psz,h.pend,x8,x8,Bg,Bg,Bg,Bg,gS];apply fV.mp;rw[Array.toList_modify];have e:(u++[(U,p)]).length-1=(Bg 0 u).length:=by rw[EY];simp
 rw[e];rw[List.modify_eq_take_cons_drop '$'];simp[hg];rcases aA.mp B with B | B;show h.ne r (by simp[B]);rw[ao.mp B];show h.ne (U,p) '$';rcases aA.mp B with B | B;show h.up r (by simp[B]);rw[ao.mp B];show h.up (U,p) '$'
def SW{st:SortSt}(R:BL M A s κ ','.toList f)(hk:kindOf st=κ)(hfl:failedOf st=none)(hp:pendingOf st = #v[])(h2:1<=','.size){Q:Unit->SortSt->Prop}(h:∀st',failedOf st'=none->(arrOf st').toList.Perm ','.toList->(arrOf st').toList.Pairwise (leF f)->Q () st'):wpS M A E s sortRuns' Q st:=by
 rw[sortRuns'_eq];show wpS_bind (wpS_get ?_);dsimp only;have S0:SI κ f ','.toList [] ','.toList st:=#[hk,hfl,A5,fO _,hp,λ_ hr=>by simp at hr,λ_ hr=>by simp at hr];have hT:','.toList.length=','.size:=aM;generalize ','.toList=T at R h S0 hT;generalize ','.size=N at h2 hT ⊢;generalize minRun' N N 0=mr;clear hk hfl hp;show wpS_bind (wpS_mono (cT (I:=λx c st'=>∃rs zu,c=(none,(zN rs).length)/\SI κ f T rs zu st'/\x<=(zN rs).length) (Q:=λc st'=>∃rs lo,c=(none,lo)/\SI κ f T rs [] st') ?_ ?_ #[[],T,A5,S0,aQ _]) ?_)
 ·rintro x c st1 _ hx ⟨rs,zu,rfl,S1,hx2⟩;have hz1:=S1.size;have hl1:=S1.len;dsimp only;by_cases e1:(zN rs).length ≥ N;rw[if_pos e1];have:zu=[]:=a9 '!';subst this;show wpS_pure #[rs,_,A5,S1];rw[if_neg e1];show wpS_bind (SO R S1.kind S1.mem '!' '!' λm st2 l2 m1 m2 sg=>?_);dsimp only;have hz2:=l2.size;by_cases e2:m<mr
  case' pos=>
   rw[if_pos e2];show wpS_bind (wpS_lift (cD #[A5,?_]));show wpS_bind (SR R (n:=min (N-(zN rs).length) mr) (l2.kind.trans S1.kind) (l2.mem S1.mem) '!' '!' '!' sg λst3 l3 sg3=>?_);rw[if_neg '$'];obtain⟨L,rest',S3,hL,sL,nL⟩:=S1.next (l2.trans l3) (n:=min (N-(zN rs).length) mr) '!' '!' sg3;generalize hn:min (N-(zN rs).length) mr=n at hL ⊢;have hn1:1<=n:=by lia
  case' neg=>
   rw[if_neg e2];obtain⟨L,rest',S3,hL,sL,nL⟩:=S1.next l2 (n:=m) '!' '!' sg;generalize hn:m=n at hL ⊢;have hn1:1<=n:=by lia
   generalize st2=st3 at S3 ⊢
  all_goals
   show wpS_bind (wpS_get ?_);rcases List.eq_nil_or_concat rs with hrs | ⟨u,r,hrs⟩;have hb:(pendingOf st3).back?=none:=by rw[S3.pend,hrs];rfl
   rw[hb];dsimp only;have S4:=S3.push nL sL A5 hL;show wpS_bind (ev (wpS_pure #[_,rest',by rw[yw,ay,zG,ay,hL];rfl,S4,by rw[yw,ay,zG,ay,hL];lia]))
   obtain⟨⟨b1,b2,b3⟩,hb⟩:∃b,(pendingOf st3).back?=some b:=by
    rw[S3.pend,hrs,List.concat_eq_append,x8];cases r;show#[_,by simp[Bg];rfl]
   rw[hb];dsimp only;generalize power' N (2*b1+b2) (2*b1+b2+b2+n) N=pw;show wpS_bind (wpS_mono (cT (I:=λx c st'=>∃rs',c=(none,())/\SI κ f T rs' (L++rest') st'/\1<=rs'.length) (Q:=λc st'=>∃rs',c=(none,())/\SI κ f T rs' (L++rest') st'/\1<=rs'.length) ?_ (λc st' q=>q) #[rs,A5,S3,by rw[hrs];simp]) ?_);rintro x2 c st4 _ _ ⟨rs',rfl,S4,n4⟩;show wpS_bind (wpS_get ?_);by_cases e3:(pendingOf st4).size > 1;rw[if_pos e3];obtain⟨⟨c1,c2,c3⟩,hc⟩:∃b,(pendingOf st4)[(pendingOf st4).size-2]?=some b:=#[_,aX '!'];rw[hc];dsimp only;by_cases e4:c3<=pw;rw[if_pos e4];show wpS_pure #[rs',A5,S4,n4];rw[if_neg e4];rw[S4.psz] at e3;show wpS_bind (t_mg R S4 (by rw[S4.psz];lia) λrs2 st5 S5 h5=>?_);show wpS_pure #[rs2,A5,S5,by lia];rw[if_neg e3];show wpS_pure #[rs',A5,S4,n4];rintro c st4 ⟨rs',rfl,S4,n4⟩;dsimp only;show wpS_bind (ev ?_);obtain⟨rs2,S5⟩:=S4.pow n4 (λx=>match x with | (st,len,_)=>(st,len,pw)) pw (λa b c=>rfl);have hl3:=S3.len;have hl5:=S5.len;have S6:=S5.push nL sL (lo:=(zN rs).length) '!' hL;show wpS_bind (ev (wpS_pure #[_,rest',by rw[yw,ay,zG,ay,hL,show (zN rs2).length=(zN rs).length by lia];rfl,S6,by rw[yw,ay,zG,ay,hL];lia]))
 rintro c st1 ⟨rs,zu,rfl,S1,hx2⟩;have hl1:=S1.len;have:zu=[]:=a9 '!';subst this;show#[rs,_,A5,S1]
 ·rintro c st1 ⟨rs,lo,rfl,S1⟩;dsimp only;have hl1:=S1.len
  have hlen:rs.length<=(zN rs).length:=by
   have:∀ (rs:List (List Keyed×Nat)),(∀r∈rs,r.1≠[])->rs.length<=(zN rs).length:=λrs=>by
    induction rs with
    | nil=>intro _;show aQ _
    | cons r v ih=>
     intro hn;have h1:=ih λr hr=>hn r (aj _ hr);have h2:=eK.mpr (hn r aq);rw[zG,ay,aS];lia
   show this rs S1.ne
  have hne:1<=rs.length:=by
   cases rs with
   | nil=>simp[zN] at hl1;lia
   | cons r v=>simp
  rw[List.length_nil,iE] at hl1;show wpS_bind (wpS_mono (cT (I:=λx c st'=>∃rs,c=(none,())/\SI κ f T rs [] st'/\1<=rs.length/\(rs.length<=1\/rs.length+x<=N)) (Q:=λc st'=>∃rs,c=(none,())/\SI κ f T rs [] st'/\rs.length=1) ?_ ?_ #[rs,A5,S1,hne,.inr '!']) ?_)
  ·rintro x c st2 _ hx ⟨rs,rfl,S2,n1,n2⟩;show wpS_bind (wpS_get ?_);by_cases e1:(pendingOf st2).size<=1;rw[if_pos e1];show wpS_pure #[rs,A5,S2,by rw[S2.psz] at e1;lia];rw[if_neg e1];rw[S2.psz] at e1;show wpS_bind (t_mg R S2 ?_ λrs' st3 S3 h3=>?_)
   ·rw[S2.psz];have le1:∀b,(if b=true then rs.length-2-1 else rs.length-2)+1<rs.length:=λb=>by cases b <;> simp <;> lia
    show le1 _
   show wpS_pure #[rs',A5,S3,by lia,by lia]
  rintro c st2 ⟨rs,rfl,S2,n1,n2⟩;show#[rs,A5,S2,by lia];rintro c st2 ⟨rs,rfl,S2,n1⟩;obtain⟨r,rfl⟩:∃r,rs=[r]:=List.length_eq_one_iff.mp n1;have ha:=S2.arr;have hq:=S2.perm;rw[bU] at ha hq;rw[<- ha] at hq;rw[zG] at ha;show wpS_pure (h st2 S2.fail hq (by rw[ha];simpa [zN] using S2.up r '$'))
end
open PySem.Calls PySem.W
def SX{O:Type}(g:α->O):∀ {out m:List O},out.Perm m->∀l:List α,m=l.map g->∃l':List α,l'.Perm l/\out=l'.map g:=by
 intro out m h
 induction h with
 | nil=>intro l e;show#[l,.refl _,e]
 | cons x h U=>
  intro l e
  match l,e with
  | a::l,e=>
   obtain⟨B,F⟩:=gg e;obtain⟨l',p,q⟩:=U l F;show#[a::l',.cons a p,by rw[ax,<- q,B]]
 | swap x y l0=>
  intro l e
  match l,e with
  | a::b::l,e=>
   obtain⟨B,F⟩:=gg e;obtain⟨Y,e4⟩:=gg F;show#[b::a::l,.swap _ _ _,by rw[ax,ax,B,Y,e4]]
 | trans h1 h2 I J=>
  intro l e;obtain⟨l2,p2,q2⟩:=J l e;obtain⟨l1,p1,q1⟩:=I l2 q2;show#[l1,p1.trans p2,q1]
def Ask (prog:Aa)(w:Ab)(A:Ae)(κ:SortKind)(vs:AN)(BA:Array Nat->Prop)(s:AZ):Prop:=
 ∃f:Nat->Int,G_ vs.length f/\(∀i j,i<vs.length->j<vs.length->vs.getD i .none=vs.getD j .none->i=j)/\
  (∀i j,i<vs.length->j<vs.length->∀Q E,Q (decide (f i<f j)) s->Ag prog w A (keyLt' κ (vs.getD i .none) (vs.getD j .none)) Q E s)/\∀p:Array Nat,Up vs.length f p vs.length->BA p
section
variable{A:Ae}{h₀:Heap}{L a:Addr}{m:AI}{news:AB}{vs:AN}{κ:SortKind}
theorem SY(h2:2<=vs.length)(h:Ask prog w A κ vs BA s):
  Ag prog w A ((sortRuns').run (SortSt.mk' κ (vs.toArray.zip vs.toArray) #v[] 7 none)) (λr s'=>s'=s/\∃p:Array Nat,p.size=vs.length/\(arrOf r.2).map (·.2)=List.toArray (p.toList.map λi=>vs.getD i .none)/\failedOf r.2=none/\BA p) E s:=by
 obtain⟨f,hu,J,hc,hG⟩:=h
 have O:(vs.toArray.zip vs.toArray).toList=(List.range vs.length).map λi=>(vs.getD i .none,vs.getD i .none):=by
  show em λi=>?_;by_cases hi:i<vs.length;simp[hi];simp[hi,Nat.le_of_not_lt hi]
 let F:Keyed->Int:=λx=>f (Classical.epsilon λi=>i<vs.length/\vs.getD i .none=x.1)
 have U:∀i,i<vs.length->F (vs.getD i .none,vs.getD i .none)=f i:=λi hi=>by have q:(Classical.epsilon λj=>j<vs.length/\vs.getD j .none=vs.getD i .none)<vs.length/\vs.getD (Classical.epsilon λj=>j<vs.length/\vs.getD j .none=vs.getD i .none) .none=vs.getD i .none:=Classical.epsilon_spec (p:=λj=>j<vs.length/\vs.getD j .none=vs.getD i .none) #[i,hi,A5];change f (Classical.epsilon λj=>j<vs.length/\vs.getD j .none=vs.getD i .none)=f i;rw[J _ _ q.1 hi q.2]
 show SW (E:=E) (st:=SortSt.mk' κ (vs.toArray.zip vs.toArray) #v[] 7 none) (f:=F) (κ:=κ) (Q:=λ_ B=>∃p:Array Nat,p.size=vs.length/\(arrOf B).map (·.2)=List.toArray (p.toList.map λi=>vs.getD i .none)/\failedOf B=none/\BA p) ?_ A5 A5 A5 ?_ ?_;intro x y Y hy Q E hq;have Y:x∈(vs.toArray.zip vs.toArray).toList:=Y;have hy:y∈(vs.toArray.zip vs.toArray).toList:=hy;rw[O] at Y hy;obtain⟨i,hi,rfl⟩:=aH.mp Y;obtain⟨j,hj,rfl⟩:=aH.mp hy;have hi:=aL.mp hi;have hj:=aL.mp hj;rw[U i hi,U j hj] at hq;show hc i j hi hj Q E hq;change 1<=(vs.toArray.zip vs.toArray).size;simp;lia;intro B h1 h3 h4;have h3:(arrOf B).toList.Perm (vs.toArray.zip vs.toArray).toList:=h3;obtain⟨p,hp,he⟩:=SX _ h3 _ O;have I:∀i∈p,i<vs.length:=λi hi=>aL.mp (hp.mem_iff.mp hi);have ab:p.length=vs.length:=by rw[hp.length_eq,aZ]
 show#[p.toArray,by simpa using ab,?_,h1,hG _ #[?_,ak _,λk hk=>?_]];apply fV.mp;rw[iz,he,aK];rfl;change p.toArray.Perm (List.range vs.length).toArray;show List.Perm.toArray hp;have ac:p.Nodup:=hp.nodup_iff.mpr iA;rw[he] at h4;have h5:=ce.mp h4 k (k+1) (by simp;lia) (by simp;lia) '!';rw[dj,dj] at h5;have g1:p.toArray.getD k 0=p[k]:=by simp[Array.getD,show k<p.length by lia]
 have g2:p.toArray.getD (k+1) 0=p[k+1]:=by simp[Array.getD,show k+1<p.length by lia]
 have h5:F (vs.getD p[k] .none,vs.getD p[k] .none)<=F (vs.getD p[k+1] .none,vs.getD p[k+1] .none):=h5;rw[U _ (I _ (bj _)),U _ (I _ (bj _))] at h5;unfold key;rw[g1,g2];have h6:f p[k]≠f p[k+1]:=λz=>by have:=hu _ _ (I _ (bj _)) (I _ (bj _)) z;have:=(dh ac).mp this;lia
 lia
def Lm{P:PySem.Fin->AZ->Prop}(F:Fr h₀ L s.heap m)(N:News h₀ L s.heap news)(ho:s.heap.get? a=some (seqObj "list" vs.toArray n))(haL:a≠L)(ha0:h₀.get? a=none)(hna:∀p∈news,p.1≠a)(h2:2<=vs.length)(hz:vs.length<=sizeLine)(h:∀e1 h',Fr h₀ L h' m->News h₀ L h' ((a,seqObj "list" #v[] e1)::news)->
   Ag prog w A (keyKind' vs.toArray) (λκ s'=>Ask prog w A κ vs (λp=>KasFin h₀ L m a e1 (p.toList.map λi=>vs.getD i Value.none) (λs3=>P (.done (.ret .none)) s3) s') s') '%' '1'):
  Ag prog w A (Builtin.«list.sort» #[[.ref a],[]]) P E s:=by
 have s1:=bn s.heap a (Obj.mapSeq λ_=>(#v[]:AK));obtain⟨e1,ho1⟩:∃e1,(s.heap.update a (Obj.mapSeq λ_=>(#v[]:AK))).get? a=some (seqObj "list" #v[] e1):=#[_,get?_update_seq ho λ_=>#v[]];have keep2:∀b x,(s.heap.update a (Obj.mapSeq λ_=>(#v[]:AK))).get? b=some x->(((s.heap.update a (Obj.mapSeq λ_=>(#v[]:AK))).push (seqObj "tuple" vs.toArray 0)).push (seqObj "list" #v[] 0)).get? b=some x:=λb x e=>ah _ (ah _ e)
 have ask:=h e1 _ (((kas_fr F s1 haL ha0).push (seqObj "tuple" vs.toArray 0)).push (seqObj "list" #v[] 0)) (λp hp=>by
  rcases au.mp hp with rfl | hp;show#[keep2 _ _ ho1,haL,ha0];show (kas_news N s1 hna).grown keep2 p hp)
 rw[list_sort_plain];show aa (iF ho A5 (aa (gh ho A5 ?_ (by rw[aU];show hz) (aQ _))));show aa (seqEpoch_at ho1 A5 (aa (wpAny_newTuple ?_ (by change vs.length<=_;show hz))));show aa (ir (bQ ?_) (aQ _));dsimp only;have hn2:¬ vs.toArray.size<2:=by rw[aU];lia
 rw[if_neg hn2,if_neg hn2];show aa (aE ask (λκ s0 hk=>?_) λ_ _ x=>x.elim);show aa (aE (SY h2 hk) ?_ λ_ _ e=>e);rintro⟨⟨⟩,st'⟩ s' ⟨rfl,p,hp,hout,hf,news',g,F',N',U,k⟩;obtain⟨pre,post,e0,hg,x1,x2⟩:=U.split;rw[e0] at N';have na:=N' (a,seqObj "list" #v[] e1) (a8 _ (.head _));have hsz:(List.toArray (p.toList.map λi=>vs.getD i Value.none)).size=vs.length:=by rw[aU,af,aM,hp]
 rw[hout];have s2:=bn s'.heap a (Obj.mapSeq λ_=>List.toArray (p.toList.map λi=>vs.getD i Value.none));obtain⟨c2,hc2⟩:∃c2,(s'.heap.update a (Obj.mapSeq λ_=>List.toArray (p.toList.map λi=>vs.getD i Value.none))).get? a=some (seqObj "list" (List.toArray (p.toList.map λi=>vs.getD i Value.none)) c2):=#[_,get?_update_seq na.1 λ_=>List.toArray (p.toList.map λi=>vs.getD i Value.none)];show aa (seqEpoch_at na.1 A5 ?_);show aa (gh na.1 A5 ?_ (aQ _) (av (Nat.le_of_eq hsz) (Nat.le_succ_of_le hz)));rw[hf];simp only[ik,aN,if_false];show ae (k _ c2 (kas_fr F' s2 na.2.1 na.2.2) ?_);rw[hg];show news_set N' x1 x2 s2 hc2
end
theorem Ln{A:Ae}{b:Bool}{Q:Bool->AZ->Prop}:∀ {ns B:AG} {xs ys:AN} (i:Nat),yf '4' xs->yf (B.map V.int) ys->ns.length=B.length->Q (HT.lexLt ns B) s->W.KatLex prog w A b false Q (xs.zip ys) i s
 | [],[],_,_,i,I,J,_,q=>by cases I;cases J;show W.kat_nil q
 | [],_::_,_,_,_,_,_,h,_=>by simp at h
 | _::_,[],_,_,_,_,_,h,_=>by simp at h
 | a::ns,c::B,_,_,i,I,J,Y,q=>by
  cases I with
  | cons r1 O=>
   cases J with
   | cons r2 U=>
    obtain⟨t,rfl⟩:=r1;obtain⟨u,rfl⟩:=r2;rw[gU];have F:Q (if a=c then HT.lexLt ns B else decide (a<c)) s:=q;show W.kat_cons (wpAny_eqBool_int ?_);by_cases e:a=c;rw[show (a==c)=true from by lia];rw[if_pos e] at F;show W.kat_yes (Ln (i+1) O U (by simpa using Y) F);rw[show (a==c)=false from beq_false_of_ne e];rw[if_neg e] at F;show W.kat_no ?_
    cases (b&&i==0) with
    | true=>show oneLt_int F
    | false=>show W.kat_one _ _ (P.lt_int F)
theorem zX:∀s:AG,HT.lexLt s s=false
 | []=>rfl
 | a::s=>by change (if a=a then HT.lexLt s s else _)=false;rw[if_pos rfl];show zX s
theorem EZ:∀ {a b c:AG},a.length=b.length->b.length=c.length->HT.lexLt a b=true->HT.lexLt b c=true->HT.lexLt a c=true
 | [],[],[],_,_,h,_=>h
 | x::a,y::b,z::c,h1,h2,O,U=>by
  have B:(if x=y then HT.lexLt a b else decide (x<y))=true:=O;have F:(if y=z then HT.lexLt b c else decide (y<z))=true:=U;change (if x=z then HT.lexLt a c else decide (x<z))=true;by_cases I:x=y;by_cases J:y=z;rw[if_pos I] at B;rw[if_pos J] at F;rw[if_pos (I.trans J)];show EZ (by simpa using h1) (by simpa using h2) B F;grind;grind
 | [],_::_,_,h,_,_,_=>by simp at h
 | _::_,[],_,h,_,_,_=>by simp at h
 | [],[],_::_,_,h,_,_=>by simp at h
 | _::_,_::_,[],_,h,_,_=>by simp at h
theorem E4:∀ {a b:AG},a.length=b.length->a=b\/HT.lexLt a b=true\/HT.lexLt b a=true
 | [],[],_=>.inl A5
 | [],_::_,h=>by simp at h
 | _::_,[],h=>by simp at h
 | x::a,y::b,h=>by
  change _\/(if x=y then HT.lexLt a b else decide (x<y))=true\/(if y=x then HT.lexLt b a else decide (y<x))=true;by_cases e:x=y
  ·subst e;rw[if_pos rfl,if_pos rfl];rcases E4 (a:=a) (b:=b) (by simpa using h) with h1 | h1 | h1
   all_goals right
  ·rw[if_neg e,if_neg (Ne.symm e)];rcases Int.lt_or_gt_of_ne e with h1 | h1
   all_goals right
theorem Hg{p q:α->Bool}:∀ {l:List α},(∀x∈l,p x=true->q x=true)->(∃x∈l,p x=false/\q x=true)->l.countP p<l.countP q
 | [],_,h=>by right
 | y::l,h,k=>by
  have I:l.countP p<=l.countP q:=List.countP_mono_left λx B hp=>h x (aj _ B) hp;rw[List.countP_cons,List.countP_cons];obtain⟨x,B,hp,F⟩:=k;rcases au.mp B with rfl | B;rw[hp,F];simp;lia;have O:=Hg (l:=l) (λz J=>h z (aj _ J)) #[x,B,hp,F];grind
def xB (A9:AF)(i:Nat):Int:=(A9.countP λc=>HT.lexLt c (A9.getD i []):Nat)
def E7{A9:AF}(B:∀st∈A9,st.length=m)(hi:i<A9.length)(J:j<A9.length):decide (xB A9 i<xB A9 j)=HT.lexLt (A9.getD i []) (A9.getD j []):=by
 have O:A9.getD i []∈A9:=by rw[bq,am hi];show bj hi
 have U:A9.getD j []∈A9:=by rw[bq,am J];show bj J
 have Y:∀ {a b:AG},a∈A9->b∈A9->HT.lexLt a b=true->(A9.countP λc=>HT.lexLt c a)<(A9.countP λc=>HT.lexLt c b):=λ{a b} I hb F=>
  Hg (λx hx hp=>EZ ((B x hx).trans (B a I).symm) ((B a I).trans (B b hb).symm) hp F) #[a,I,zX a,F]
 unfold xB;generalize A9.getD i []=a at O;generalize A9.getD j []=b at U;rcases E4 (a:=a) (b:=b) ((B a O).trans (B b U).symm) with h | h | h;subst h;rw[zX];right
 all_goals grind
def Cb (h:Heap)(L:Addr):AB:=(List.range h.objs.size).filterMap λb=>if b=L then none else (h.get? b).map λo=>(b,o)
def yo:(b,o)∈Cb h L↔b≠L/\h.get? b=some o:=by
 unfold Cb;rw[dw];constructor;rintro⟨c,I,e⟩;by_cases B:c=L;right;rw[if_neg B] at e;obtain⟨o',F,J⟩:=aI.mp e;grind;rintro⟨B,F⟩;show#[b,aL.mpr (aw F),by right]
def SZ{h:Heap}{L:Addr}{m B:AI}(a:h.Ns L m)(b:h.Ns L B):m=B:=by
 obtain⟨o,es,ep,Y,hd,hk,hf⟩:=a;obtain⟨o',es',F,I,J,O,U⟩:=b;grind
def Lo(x:zJ P w H h a o):∃u,h.get? a=some u:=by
 cases o with
 | lst xs=>obtain⟨_,_,_,_,e⟩:=x;show#[_,e]
 | tup xs=>obtain⟨_,_,_,p⟩:=x;obtain⟨o,e,_⟩:=p;show#[o,e]
 | dK A7=>obtain⟨_,_,_,_,o,_,_,e,_⟩:=x;show#[_,e]
 | dT A7=>obtain⟨_,_,_,_,o,_,_,e,_⟩:=x;show#[_,e]
 | set S n=>obtain⟨o,_,_,_,e,_⟩:=x;show#[_,e]
 | ins C dx fs=>obtain⟨_,_,_,e,_⟩:=x;show#[_,e]
 | own y=>show x
 | xd fs=>obtain⟨_,⟨_,_,_,e,_⟩,_⟩:=x;show#[_,e]
 | met f y=>show#[_,x]
 | rng lo hi=>obtain⟨_,_,_,e⟩:=x;show#[_,e]
 | frz o u=>obtain⟨e,_⟩:=x;show#[_,e]
 | tbl ps=>show#[_,x]
 | ext B=>obtain⟨_,e,_⟩:=x;show e
def Lp{c:_}(I:'&')(hm:s.heap.Ns X.env.locals m){BB:Addr}{ys:AT}{B:AN}(kp:∀b o,b≠X.env.locals->s.heap.get? b=some o->h'.get? b=some o)(O:h'.Ns X.env.locals m)(ab:s.heap.get? BB=none)(U:H BB=none)(ho:h'.get? BB=some { cls:=.type "list",data:=.seq B.toArray c })(hv:yf ys B)(hz:ys.length<=sizeLine)(tk:Nat):Inv X A6 G (upd H BB (.lst ys)) { s with heap:=h',toks:=tk }:=by
 have nD:∀b o,s.heap.get? b=some o->b≠BB:=λb o e z=>by rw[z,ab] at e;cases e
 have nL:∀b u,H b=some u->b≠X.env.locals:=λb u e=>ze e I.free;show Inv.step (ch:=[]) (g':=s.gens) (d':=s.drawn) (t':=tk) I (λb J=>by simp at J) (λb o h1 _ _ F _=>kp b o h1 F) (λb o h1 _ _ F _=>#[o.slots,kp b o h1 F]) (λb o _ F h5=>by rw[zc (nD b o F)];show h5) (λb o _ F=>?_) (λb ys q=>by rw[zc (ze q U)];show q) (λb o u q=>by rw[zc (ze q U)];show q) (λb ps q=>#[#v[],by rw[zc (ze q U),gO];show q]) (λm' ac=>by rw[<- SZ hm ac];show O) (λb u J=>?_) I.bare;by_cases hL:b=X.env.locals;obtain⟨o',_,_,h1,_⟩:=O;right;show#[o,kp b o hL F];by_cases Y:b=BB;subst Y;rw[zg] at J;cases J;show#[hz,B,c,hv,ho];rw[zc Y] at J;show (I.hok b u J).stay (λc v ad q=>kp c v ?_ q) (λc q=>by rw[zc (ze q U)];show q) (λc ys q=>by rw[zc (ze q U)];show q);grind
theorem Lq(h:yf vs B):∀ (p:AR),(∀i∈p,i<vs.length)->yf (p.map λi=>vs.getD i .non) (p.map λi=>B.getD i .none)
 | [],_=>.nil
 | i::p,hp=>by
  have hi:=hp i aq;obtain⟨u,I,J⟩:=h.get (i:=i) (x:=vs[i]) (am hi);show .cons ?_ (Lq h p λj F=>hp j (aj _ F));right
def uR (d:α)(l:List α):(List.range l.length).map (λi=>l.getD i d)=l:=by show iB '$' λi h1 h2=>?_;simp[h2]
theorem Lr:∀ {a b:AG} {B:AN},yf (a.map V.int) B->yf (b.map V.int) B->a=b
 | [],[],_,_,_=>rfl
 | [],_::_,_,h,k=>by cases h;cases k
 | _::_,[],_,h,k=>by cases k;cases h
 | x::a,y::b,_,h,k=>by
  cases h with
  | cons F I=>
   cases k with
   | cons J O=>
    obtain⟨t,rfl⟩:=F;obtain⟨t',e⟩:=J;cases e;rw[Lr I O]
open PySem.Calls PySem.W
def uM{A:Ae}{a:Addr}{vs:AN}{P:PySem.Fin->AZ->Prop}(ho:s.heap.get? a=some (seqObj "list" vs.toArray n))(h2:vs.length<2)(h:∀h' c,(∀b o,b≠a->s.heap.get? b=some o->h'.get? b=some o)->h'.get? a=some (seqObj "list" vs.toArray c)->P (.done (.ret .none)) '1'):
  Ag prog w A (Builtin.«list.sort» #[[.ref a],[]]) P E s:=by
 obtain⟨e1,ho1⟩:∃e1,(s.heap.update a (Obj.mapSeq λ_=>(#v[]:AK))).get? a=some (seqObj "list" #v[] e1):=#[_,get?_update_seq ho λ_=>#v[]];rw[list_sort_plain];show aa (iF ho A5 ?_);show aa (gh ho A5 ?_ (by rw[aU,cy];lia) (aQ _));show aa (seqEpoch_at ho1 A5 ?_);show aa (wpAny_newTuple ?_ (by change vs.length<=_;rw[cy];lia));show aa (ir ?_ (aQ _));show bQ ?_;have hn2:vs.toArray.size<2:=by rw[aU];lia
 rw[if_pos hn2,if_pos hn2];show aa (ae ?_);show aa (m:=(pure ():StateT SortSt _ _).run _) (ae ?_);have hsnd:(arrOf (SortSt.mk' general' (vs.toArray.zip vs.toArray) #v[] 7 none)).map (λx=>x.snd)=vs.toArray:=by change (vs.toArray.zip vs.toArray).map (λx=>x.snd)=vs.toArray;apply fV.mp;rw[iz,Array.toList_zip];show List.map_snd_zip (ak _)
 have g3:(((s.heap.update a (Obj.mapSeq λ_=>(#v[]:AK))).push (seqObj "tuple" vs.toArray 0)).push (seqObj "list" #v[] 0)).get? a=some (seqObj "list" #v[] e1):=ah _ (ah _ ho1);show aa (seqEpoch_at g3 A5 ?_);show aa (gh g3 A5 ?_ (aQ _) ?_);rw[hsnd];simp only[ik,aN,if_false];show ae (h _ _ (λb o hb e=>?_) (get?_update_seq g3 λ_=>vs.toArray));rw[gE _ _ _ _ hb];show ah _ (ah _ ?_);rw[gE _ _ _ _ hb];show e;rw[hsnd,aU,cy];lia
def Ris (xs:Array Nat):Prop:=∀i j:Nat,i<j->j<xs.size->xs.getD i 0<xs.getD j 0
theorem Hi{xs:Array Nat}(F:Ris xs):∀B lo hi,lo<=hi->hi<=xs.size->hi-lo<=B->(∀i,i<lo->xs.getD i 0<j)->(∀i,hi<=i->i<xs.size->j<=xs.getD i 0)->
  ∃p,SetTable.below.go xs j B lo hi=p/\p<=xs.size/\(∀i,i<p->xs.getD i 0<j)/\(∀i,p<=i->i<xs.size->j<=xs.getD i 0)
 | 0,lo,hi,h1,h2,h3,I,J=>by
  have:lo=hi:=by lia
  subst this;show#[lo,A5,h2,I,J]
 | B+1,lo,hi,h1,h2,h3,I,J=>by
  change ∃p,(if lo<hi then if xs.getD ((lo+hi) / 2) j<j then SetTable.below.go xs j B ((lo+hi) / 2+1) hi else SetTable.below.go xs j B lo ((lo+hi) / 2) else lo)=p/\_;by_cases Y:lo<hi;rw[if_pos Y];have hm:(lo+hi) / 2<xs.size:=by lia
  have e:xs.getD ((lo+hi) / 2) j=xs.getD ((lo+hi) / 2) 0:=by simp[hm]
  rw[e];by_cases O:xs.getD ((lo+hi) / 2) 0<j;rw[if_pos O];show Hi F B _ hi '!' h2 '!' (λi U=>?_) J;by_cases q:i=(lo+hi) / 2;rw[q];show O;have:=F i ((lo+hi) / 2) '!' hm;lia;rw[if_neg O];show Hi F B lo _ '!' '!' '!' I (λi U hs=>?_);by_cases q:i=(lo+hi) / 2;rw[q];lia;have:=F ((lo+hi) / 2) i '!' hs;lia;rw[if_neg Y];have:lo=hi:=by lia
  subst this;show#[lo,A5,h2,I,J]
def xP(B:Ris xs)(j:Nat):SetTable.below xs j<=xs.size/\(∀i,i<SetTable.below xs j->xs.getD i 0<j)/\(∀i,SetTable.below xs j<=i->i<xs.size->j<=xs.getD i 0):=by obtain⟨p,e,h⟩:=Hi B (j:=j) xs.size 0 xs.size (aQ _) (ak _) (ak _) (λi h=>absurd h (dJ _)) (λi h1 h2=>by lia);have F:SetTable.below xs j=p:=e;rw[F];show h
def xI{xs:Array Nat}(h:xs[i]?=some j):i<xs.size/\xs.getD i 0=j:=by
 obtain⟨h1,h2⟩:=dg.mp h;right
def Hj{xs:Array Nat}(h:i<xs.size):xs[i]?=some (xs.getD i 0):=by simp[h]
def S8(B:Ris xs)(h:xs[i]?=some j):SetTable.below xs j=i:=by
 obtain⟨h1,h2⟩:=xI h;obtain⟨J,F,I⟩:=xP B j;rcases cW (SetTable.below xs j) i with q | q | q;have:=I _ (ak _) '!';have:=B _ i q h1;lia;show q;have:=F i q;lia
def E8{t:SetTable}(B:Ris t.place)(h:t.place[i]?=some j):t.slot j = .live i:=by unfold SetTable.slot;rw[S8 B h];simp[h]
def S9{t:SetTable}(B:t.dummies = #v[])(h:∀i:Nat,t.place[i]?≠some j):t.slot j = .empty:=by
 unfold SetTable.slot
 have F:SetTable.has t.dummies j=false:=by rw[B];rfl
 right
def S_{t:SetTable}(B:Ris t.place)(F:t.dummies = #v[])(j:Nat):(t.slot j = .empty/\∀i:Nat,t.place[i]?≠some j)\/∃i,t.slot j = .live i/\t.place[i]?=some j:=by
 by_cases h:∃i:Nat,t.place[i]?=some j;obtain⟨i,hi⟩:=h;show .inr #[i,E8 B hi,hi];have h':∀i:Nat,t.place[i]?≠some j:=λi e=>h #[i,e];show .inl #[S9 F h',h']
def tm (B:Nat):SetTable:=#[B,#v[],#v[],0,true,0,true]
def stp (B:Nat)(h:Int):Nat->SetTable.Probe
 | 0=>(tm B).probeStart h
 | n+1=>(tm B).advance (stp B h n)
def wk (B:Nat)(h:Int)(n:Nat):Nat:=(stp B h n).j
def Ta (B:Nat)(p:SetTable.Probe):((tm B).advance p).dummy=p.dummy:=by unfold SetTable.advance;split <;> rfl
theorem Ls (B:Nat)(h:Int):∀n,(stp B h n).dummy=none
 | 0=>rfl
 | n+1=>by change ((tm B).advance _).dummy=none;rw[Ta,Ls B h n]
def Lu (B:Nat)(p:SetTable.Probe)(h:0<p.more):(tm B).advance p={ p with j:=p.j+1,more:=p.more-1 }:=by unfold SetTable.advance;rw[if_pos h]
def Hk (B:Nat)(p:SetTable.Probe)(h:p.more=0):(tm B).advance p={ p with j:=(p.i*5+1+p.perturb / 32) % (B+1),more:=SetTable.runEnd B ((p.i*5+1+p.perturb / 32) % (B+1))-(p.i*5+1+p.perturb / 32) % (B+1),i:=(p.i*5+1+p.perturb / 32) % (B+1),perturb:=p.perturb / 32 }:=by unfold SetTable.advance;rw[if_neg '!'];rfl
def lp (B:Nat)(h:Int):Nat->Nat×Nat
 | 0=>(SetTable.bits h % (B+1),SetTable.bits h)
 | n+1=>SetTable.leap B (lp B h n).1 (lp B h n).2
def Lv (B i:Nat):SetTable.runEnd B i-i<=9:=by unfold SetTable.runEnd;split <;> lia
theorem E9 (B:Nat)(h:Int){T i q:Nat}(e:stp B h T=#[i,SetTable.runEnd B i-i,i,q,none]):∀k,k<=SetTable.runEnd B i-i->stp B h (T+k)=#[i+k,SetTable.runEnd B i-i-k,i,q,none]
 | 0,_=>e
 | k+1,F=>by
  change (tm B).advance (stp B h (T+k))=_;rw[E9 B h e k '!',Lu B _ '!'];grind
theorem Lw (B:Nat)(h:Int):∀k,∃T,T<=10*k/\stp B h T=#[(lp B h k).1,SetTable.runEnd B (lp B h k).1-(lp B h k).1,(lp B h k).1,(lp B h k).2,none]
 | 0=>#[0,ak _,A5]
 | k+1=>by obtain⟨T,F,e⟩:=Lw B h k;have I:=Lv B (lp B h k).1;show#[T+(SetTable.runEnd B (lp B h k).1-(lp B h k).1)+1,by lia,?_];change (tm B).advance (stp B h (T+_))=_;rw[E9 B h e _ (ak _),Hk B _ (Nat.sub_self _)];rfl
theorem Lx (B:Nat)(h:Int):∀k,(lp B h k).2=SetTable.bits h / 32 ^ k
 | 0=>by change SetTable.bits h=_;simp
 | k+1=>by change (lp B h k).2 / 32=_;rw[Lx B h k,Nat.div_div_eq_div_mul,Nat.pow_succ]
def Tc (h:Int):SetTable.bits h<2 ^ 64:=by
 unfold SetTable.bits;grind
def lcg (m i:Nat):Nat:=(i*5+1) % m
def orb (m:Nat):Nat->Nat->Nat
 | 0,i=>i
 | k+1,i=>lcg m (orb m k i)
theorem Hl (B:Nat)(h:Int):∀k,(lp B h (13+k)).1=orb (B+1) k (lp B h 13).1
 | 0=>rfl
 | k+1=>by
  change ((lp B h (13+k)).1*5+1+(lp B h (13+k)).2 / 32) % (B+1)=lcg (B+1) (orb (B+1) k _);rw[<- Hl B h k,Lx];have F:=Tc h
  have e:SetTable.bits h / 32 ^ (13+k)=0:=by
   show Nat.div_eq_of_lt (aT F ?_)
   calc 2 ^ 64<=32 ^ 13:=by ext
    _<=32 ^ (13+k):=fY '#' '!'
  rw[e];rfl
theorem DO (m:Nat)(a:Nat):∀b i,orb m (a+b) i=orb m b (orb m a i)
 | 0,i=>rfl
 | b+1,i=>by change lcg m (orb m (a+b) i)=lcg m (orb m b _);rw[DO m a b i]
def Dd (m:Nat):Nat->Nat->AR
 | 0,_=>[]
 | n+1,i=>i::Dd m n (lcg m i)
def Td (m:Nat)(k i:Nat):orb m (k+1) i=orb m k (lcg m i):=by rw[Nat.add_comm,DO];rfl
theorem Hm (m:Nat):∀n i k,k<n->(Dd m n i)[k]?=some (orb m k i)
 | n+1,i,0,_=>rfl
 | n+1,i,k+1,h=>by rw[Td];show Hm m n (lcg m i) k '!'
theorem Ly (m:Nat):∀n i,(Dd m n i).length=n
 | 0,_=>rfl
 | n+1,i=>by change (Dd m n _).length+1=n+1;rw[Ly m n]
structure Ring (m:Nat):Prop where
 pos:0<m
 all:∀v,v<m->v∈Dd m m 0
 back:orb m m 0=0
def Ring.reach(r:Ring m)(hi:i<m)(O:j<m):∃k,k<m/\orb m k i=j:=by
 obtain⟨a,I,Y⟩:=cE.mp (r.all i hi);obtain⟨b,J,eb⟩:=cE.mp (r.all j O);rw[Ly] at I J
 have B:orb m a 0=i:=by
  have:=Hm m m 0 a I;right
 have F:orb m b 0=j:=by
  have:=Hm m m 0 b J;right
 by_cases U:a<=b;show#[b-a,by lia,?_];rw[<- B,<- DO,show a+(b-a)=b by lia];show F;show#[b+m-a,by lia,?_];rw[<- B,<- DO,show a+(b+m-a)=m+b by lia,DO,r.back];show F
def Lz (m:Nat):Bool:=((List.range m).all λv=>(Dd m m 0).contains v)&&orb m m 0==0
def E_(B:0<m)(h:Lz m=true):Ring m:=by
 unfold Lz at h;rw[aO] at h;show#[B,λv F=>?_,cG h.2];right
def Te:Ring 8:=E_ '#' '6'
def Tf:Ring 32:=E_ '#' '6'
def Tg:Ring 128:=E_ '#' '6'
def Th:Ring 512:=E_ '#' '6'
def Ti(r:Ring (B+1))(h:Int)(F:j<=B):∃n,n<10*SetTable.turns B/\wk B h n=j:=by have I:(lp B h 13).1<B+1:=il _ (gW _);obtain⟨k,O,e⟩:=r.reach I (im F);obtain⟨T,U,J⟩:=Lw B h (13+k);show#[T,by unfold SetTable.turns;lia,?_];change (stp B h T).j=j;rw[J];rw[Hl,e]
def Tj{xs:Array Nat}(B:Ris xs){i a b:Nat}(hi:xs[i]?=some a)(F:xs[j]?=some b)(h:a<b):i<j:=by
 obtain⟨h1,h2⟩:=xI hi;obtain⟨I,J⟩:=xI F;rcases cW i j with q | q | q;show q;subst q;lia;have:=B j i q h1;lia
theorem LA(B:Ris xs):∀M,(∀j,j<M->∃i:Nat,xs[i]?=some j)->∀j i,j<M->xs[i]?=some j->j<=i
 | _,_,0,_,_,_=>aQ _
 | M,h,j+1,i,J,e=>by obtain⟨I,F⟩:=h j '!';have h1:=Tj B F e (Nat.lt_succ_self j);have h2:=LA B M h j I '!' F;lia
def Tk{M:_}(B:Ris xs)(h:xs.size<M):∃j,j<M/\∀i:Nat,xs[i]?≠some j:=by show cL λF=>?_;have all:∀j,j<M->∃i:Nat,xs[i]?=some j:=λj I=>cL λJ=>F #[j,I,λi e=>J #[i,e]];obtain⟨i,e⟩:=all (M-1) '!';have h1:=LA B M all (M-1) i '!' e;have h2:=(xI e).1;lia
section
variable{t:SetTable}{hashAt:Nat->Int}{h:Int}
theorem LB (I:Ris t.place)(J:t.dummies = #v[]):∀B n,(∃N,n<=N/\N<n+B/\∀i:Nat,t.place[i]?≠some (wk t.mask h N))->
  ∃N,n<=N/\(∀m,n<=m->m<N->∃i,t.place[i]?=some (wk t.mask h m)/\hashAt i≠h)/\
   (((∀i:Nat,t.place[i]?≠some (wk t.mask h N))/\SetTable.probe.go t hashAt h B (stp t.mask h n)=some (.empty (wk t.mask h N) none))\/
    ∃i,t.place[i]?=some (wk t.mask h N)/\hashAt i=h/\SetTable.probe.go t hashAt h B (stp t.mask h n)=some (.candidate (wk t.mask h N) i (stp t.mask h (N+1))))
 | 0,n,⟨N,h1,h2,_⟩=>by lia
 | B+1,n,⟨N,h1,h2,O⟩=>by
  rcases S_ I J (wk t.mask h n) with ⟨e,hn⟩ | ⟨i,e,hi⟩;show#[n,ak _,λm a b=>by lia,.inl #[hn,?_]];change (match t.slot (wk t.mask h n) with | .empty=>some (SetTable.Met.empty (wk t.mask h n) (stp t.mask h n).dummy) | .dummy=>_ | .live i=>_)=_;rw[e,Ls];by_cases F:hashAt i=h;show#[n,ak _,λm a b=>by lia,.inr #[i,hi,F,?_]];change (match t.slot (wk t.mask h n) with | .empty=>_ | .dummy=>_ | .live i=>if hashAt i==h then some (SetTable.Met.candidate (wk t.mask h n) i (t.advance (stp t.mask h n))) else _)=_;rw[e];change (if (hashAt i==h)=true then _ else _)=_;rw[if_pos (iH.mpr F)];rfl;have hN:n≠N:=λz=>by subst z;show O i hi
  obtain⟨N',a1,U,a3⟩:=LB I J B (n+1) #[N,by lia,by lia,O];have e2:SetTable.probe.go t hashAt h (B+1) (stp t.mask h n)=SetTable.probe.go t hashAt h B (stp t.mask h (n+1)):=by change (match t.slot (wk t.mask h n) with | .empty=>_ | .dummy=>_ | .live i=>if hashAt i==h then _ else SetTable.probe.go t hashAt h B (t.advance (stp t.mask h n)))=_;rw[e];change (if (hashAt i==h)=true then _ else _)=_;rw[if_neg (λz=>F (iH.mp z))];rfl
  show#[N',by lia,λm b1 Y=>?_,?_];by_cases hm:m=n;subst hm;show#[i,hi,F];show U m '!' Y;right
abbrev tk (prog:Aa)(w:Ab):HeapKind prog w (List Key):=tupleKind (zV prog w)
def Tl (t:SetTable)(h:Int)(i:Nat):Prop:=∃n,n<10*SetTable.turns t.mask/\t.place[i]?=some (wk t.mask h n)/\∀m,m<n->∃B:Nat,t.place[B]?=some (wk t.mask h m)
def uY (m:Nat):Prop:=m=7\/m=31\/m=127\/m=511
def uY.ring(h:uY m):Ring (m+1):=by
 rcases h with rfl | rfl | rfl | rfl;show Te;show Tf;show Tg;show Th
def uY.le(h:uY m):7<=m/\m<=511:=by rcases h with rfl | rfl | rfl | rfl <;> lia
def uY.odd(h:uY m):(m % 2==0)=false:=by rcases h with rfl | rfl | rfl | rfl <;> rfl
structure Tb (prog:Aa)(w:Ab)(t:SetTable)(es:Array (Int×Value))(xs:List (List Key×Addr)):Prop where
 eq:es.toList=xs.map λq=>((tk prog w).hash q.1,Value.ref q.2)
 nd:(xs.map (·.1)).Nodup
 dm:t.dummies = #v[]
 ris:Ris t.place
 le:∀ (i j:Nat),t.place[i]?=some j->j<=t.mask
 sz:t.place.size=xs.length
 msk:uY t.mask
 few:xs.length<=t.mask
 plain:t.plain=true
 led:t.led = !w.params.followText "set-order"
 reach:∀ (i:Nat) (q:List Key×Addr),xs[i]?=some q->Tl t ((tk prog w).hash q.1) i
variable{es:Array (Int×Value)}{xs:List (List Key×Addr)}
def Tb.size (T:Tb prog w t es xs):es.size=xs.length:=by rw[<- aM,T.eq,af]
def Tb.get (T:Tb prog w t es xs){i:Nat}{q:List Key×Addr}(h:xs[i]?=some q):es[i]?=some ((tk prog w).hash q.1,Value.ref q.2):=by rw[<- cq,T.eq,aF,h];rfl
def Tb.at' (T:Tb prog w t es xs){i:Nat}(h:t.place[i]?=some j):∃q,xs[i]?=some q:=by
 have:=(xI h).1;rw[T.sz] at this;right
def Tb.fits (T:Tb prog w t es xs):t.fits es.size=true:=by unfold SetTable.fits SetTable.fill;rw[T.size,T.sz,T.dm];have:=T.few;simp;lia
def Tb.empty (T:Tb prog w t es xs)(h:Int):∃N,N<10*SetTable.turns t.mask/\∀i:Nat,t.place[i]?≠some (wk t.mask h N):=by have:=T.few;obtain⟨j,B,F⟩:=Tk T.ris (M:=t.mask+1) (by rw[T.sz];lia);obtain⟨N,h1,h2⟩:=Ti T.msk.ring h (dL B);show#[N,h1,by rw[h2];show F]
variable{A:Ae}
def Tm(h:(zV prog w).is k v=true):(∃i t,v = .int i t)\/∃x t,v = .str x t:=by
 rcases zP h with ⟨i,t,_,e⟩ | ⟨x,t,_,e⟩;show .inl #[i,t,e];show .inr #[x,t,e]
theorem LC:∀ {ks:List Key} {vs:AN},ItemsAre (zV prog w) ks vs->∀v∈vs,(∃i t,v = .int i t)\/∃x t,v = .str x t
 | _,_,.nil,v,h=>by simp at h
 | _,_,.cons h1 h2,v,h=>by
  rcases au.mp h with rfl | h;show Tm h1;show LC h2 v h
def LD(U:(tk prog w).is s.heap k b)(h:Q false s):Ag prog w A (ofAClassStatement 8 (.ref b)) Q E s:=by
 have I:IsTupleKey (zV prog w) s.heap k b:=U;have Y:=I.typeIs;obtain⟨o,F,n,ho,_,hd,hi⟩:=I;unfold ofAClassStatement;show aa (dC Y ?_);dsimp only;rw[if_pos '#'];show aa (ae ?_);simp only[dO,aN,if_false];show aa (cJ ho hd ?_);show aa ?_;rw[<- fg];show dP _ (λzu r s'=>r.1=none/\s'=s/\∀v∈zu,(∃i t,v=Value.int i t)\/∃x t,v=Value.str x t) _ ?_ ?_ _ _ #[A5,A5,LC hi]
 ·rintro v zu r s' ⟨J,rfl,B⟩;have e:ofAClassStatement 7 v=pure false:=by rcases B v aq with ⟨i,t,rfl⟩ | ⟨x,t,rfl⟩ <;> rfl
  rw[e];show aa (ae ?_);simp only[aN,if_false];show ae #[A5,A5,λu O=>B u (aj _ O)]
 rintro⟨r1,r2⟩ s' ⟨J,rfl,_⟩;simp only at J;subst J;show ae h
def Tn(Y:(tk prog w).is s.heap k b):∀l,(∀v∈l,∃I B,v = .ref B/\(tk prog w).is s.heap I B)->Q false s->Ag prog w A (searchCouldBeSeen (.ref b) l) Q E s:=by
 intro l hl h;unfold searchCouldBeSeen;show aa ?_;show dP _ (λzu r s'=>r.1=none/\s'=s/\∀v∈zu,∃I B,v=Value.ref B/\(tk prog w).is s.heap I B) _ ?_ ?_ _ _ #[A5,A5,hl]
 ·rintro v zu r s' ⟨O,rfl,F⟩;obtain⟨I,B,rfl,J⟩:=F v aq;have next:∀u∈zu,∃I B,u=Value.ref B/\(tk prog w).is s'.heap I B:=λu U=>F u (aj _ U);dsimp only;split
  ·show ae #[A5,A5,next]
  ·show aa ((tk prog w).quiet Y ?_);simp only[dO,aN,if_false];show aa ((tk prog w).quiet J ?_);simp only[dO,aN,if_false];show aa (LD Y ?_);simp only[aN,if_false];show aa (LD J ?_);simp only[aN,if_false];show ae #[A5,A5,next]
 rintro⟨r1,r2⟩ s' ⟨O,rfl,_⟩;simp only at O;subst O;show ae h
def DP (t:SetTable)(xs:List (List Key×Addr))(h:Int)(k:List Key)(n:Nat):Prop:=∀m,m<n->∃ (i:Nat) (q:List Key×Addr),t.place[i]?=some (wk t.mask h m)/\xs[i]?=some q/\q.1≠k
theorem LE{a b:Addr}{o:Obj}{ep:Nat}{k:List Key}{adding:Bool}{Q:SetFound->AZ->Prop}(hu:A.units<cLine)(T:Tb prog w t es xs)(hk:(tk prog w).is s.heap k b)(hel:∀q∈xs,(tk prog w).is s.heap q.1 q.2)(ho:s.heap.get? a=some o)(hd:o.data = .set es ep t)(found:∀r i q,xs[i]?=some q->q.1=k->(r=none/\adding=true\/r=some i)->Q (.there r) s)(free:∀N,N<10*SetTable.turns t.mask->(∀i:Nat,t.place[i]?≠some (wk t.mask '3' N))->DP t xs '3' k N->Q (.free (wk t.mask '3' N) false) s):
  ∀fuel n stand,stand.getD (t.probeStart '3')=stp t.mask '3' n->10*SetTable.turns t.mask<n+fuel->n<=10*SetTable.turns t.mask->DP t xs '3' k n->
   Ag prog w A (setSearchFrom a (.ref b) '3' adding fuel stand) Q E s
 | 0,n,stand,_,h2,h3,_=>by lia
 | fuel+1,n,stand,h1,h2,h3,h4=>by
  unfold setSearchFrom;show aa (bM ho hd T.fits ?_);dsimp only;rw[show t.gaveWay=false from T.msk.odd];simp only[aN,if_false];rw[h1];obtain⟨N0,hN0,eN0⟩:=T.empty '3'
  have hn0:n<=N0:=by
   rcases Nat.lt_or_ge N0 n with q | q;obtain⟨i,_,e,_⟩:=h4 N0 q;show absurd e (eN0 i);show q
  have pass:∀N,n<=N->(∀m,n<=m->m<N->∃i:Nat,t.place[i]?=some (wk t.mask '3' m)/\(es[i]?.map (·.1)).getD 0≠(tk prog w).hash k)->DP t xs '3' k N:=λN hN hh m hm=>by
   rcases Nat.lt_or_ge m n with q | q;show h4 m q;obtain⟨i,e1,e2⟩:=hh m q hm;obtain⟨q,hq⟩:=T.at' e1;show#[i,q,e1,hq,λz=>e2 ?_];rw[T.get hq,<- z];rfl
  obtain⟨N,hN,hp,hc⟩:=LB (t:=t) (hashAt:=λi=>(es[i]?.map (·.1)).getD 0) (h:=(tk prog w).hash k) T.ris T.dm (10*SetTable.turns t.mask) n #[N0,hn0,by lia,eN0]
  have hNle:N<=N0:=by
   rcases Nat.lt_or_ge N0 N with q | q;obtain⟨i,e,_⟩:=hp N0 hn0 q;show absurd e (eN0 i);show q
  rcases hc with ⟨he,hg⟩ | ⟨i,hi,hh,hg⟩;have hg':t.probe (λi=>(es[i]?.map (·.1)).getD 0) '3' (stp t.mask '3' n)=some (.empty (wk t.mask '3' N) none):=hg;have fin:=free N '!' he (pass N hN hp);generalize hm:SetTable.probe t _ _ _=met;have:met=some (.empty (wk t.mask '3' N) none):=hm.symm.trans hg';rw[this];dsimp only;show ae fin;have hg':t.probe (λi=>(es[i]?.map (·.1)).getD 0) '3' (stp t.mask '3' n)=some (.candidate (wk t.mask '3' N) i (stp t.mask '3' (N+1))):=hg;generalize hm:SetTable.probe t _ _ _=met;have:met=some (.candidate (wk t.mask '3' N) i (stp t.mask '3' (N+1))):=hm.symm.trans hg';rw[this];dsimp only;obtain⟨q,hq⟩:=T.at' hi;have hqe:=T.get hq;have hqk:=hel q (az hq);have stl:t.slot (wk t.mask '3' N) = .live i:=E8 T.ris hi
  have core:Ag prog w A (do
    let some (_,y):=es[i]? | unsupported "internal:set-entry"
    let equal <- holding [y] (eqBool y (.ref b))
    let (es',_,t') <- setState a
    if adding&&equal then return .there none
    let some smem:=t'.sameMemory t.moves t.mask | unsupported "set.changed-during-lookup:is-the-new-block-at-the-old-address"
    let still <- match (if smem then t'.slot (wk t.mask '3' N) else .empty) with
     | .live i'=>match es'[i']? with
      | some (_,y')=>do pure (if <- isSame y' y then some i' else none)
      | none=>pure none
     | _=>pure none
    match still with
    | none=>rule "set.search.anew";setSearchFrom a (.ref b) '3' adding fuel none
    | some i'=>if equal then return .there (some i') else setSearchFrom a (.ref b) '3' adding fuel (some (stp t.mask '3' (N+1)))) Q E s:=by
   rw[hqe];dsimp only;show aa (bQ ((tk prog w).eqBool hu hqk hk ?_));show aa (bM ho hd T.fits ?_);dsimp only;by_cases hkk:q.1=k;rw[aD hkk]
   cases adding with
   | true=>
    simp only[Bool.and_self,if_true];show ae (found none i q hq hkk (.inl #[A5,A5]))
   | false=>
    simp only[Bool.false_and,aN,if_false];have e1:t.sameMemory t.moves t.mask=some true:=by unfold SetTable.sameMemory;simp
    rw[e1];dsimp only;simp only[if_true];rw[stl];dsimp only;rw[hqe];dsimp only;show aa (wpAny_isSame_ref_self (aa (ae ?_)));simp only[if_true];show ae (found (some i) i q hq hkk (.inr A5))
   rw[aJ hkk];simp only[Bool.and_false,aN,if_false];have e1:t.sameMemory t.moves t.mask=some true:=by unfold SetTable.sameMemory;simp
   rw[e1];dsimp only;simp only[if_true];rw[stl];dsimp only;rw[hqe];dsimp only;show aa (wpAny_isSame_ref_self (aa (ae ?_)));simp only[if_true];show LE hu T hk hel ho hd found free fuel (N+1) _ A5 '!' '!' λm hm=>?_;rcases Nat.lt_succ_iff_lt_or_eq.mp hm with z | z;show pass N hN hp m z;subst z;show#[i,q,hi,hq,hkk]
  split;show aa (Tn hk _ (λv hv=>?_) ?_);obtain⟨e,he,rfl⟩:=aH.mp hv;have he':e∈es.toList:=by have:=bZ.mp he;show bZ.mpr (Array.mem_filter.mp this).1
  rw[T.eq] at he';obtain⟨q',hq',rfl⟩:=aH.mp he';show#[_,_,A5,hel q' hq'];simp only[aN,if_false];show core;show core
end
def Bo (l:List α)(p:Nat)(x:α):List α:=l.take p++x::l.drop p
def Hn{l:List α}{p i:Nat}{x:α}(hp:p<=l.length)(h:i<p):(Bo l p x)[i]?=l[i]?:=by unfold Bo;rw[bE (by grind),cm h]
def Ho{p:_}{l:List α}{x:α}(hp:p<=l.length):(Bo l p x)[p]?=some x:=by
 unfold Bo;right
def Hq{l:List α}{p i:Nat}{x:α}(hp:p<=l.length)(h:p<=i):(Bo l p x)[i+1]?=l[i]?:=by unfold Bo;rw[bp (by grind),bi,show i+1-min p l.length=(i-p)+1 by lia,cR,gQ,show p+(i-p)=i by lia]
def Hr{l:List α}{p:Nat}{x:α}(hp:p<=l.length):(Bo l p x).length=l.length+1:=by
 unfold Bo;grind
def To{B:Type}(f:α->B)(l:List α)(p:Nat)(x:α):(Bo l p x).map f=Bo (l.map f) p (f x):=by
 unfold Bo;right
def Tp (l:List α)(p:Nat)(x:α):(Bo l p x).Perm (x::l):=by
 unfold Bo;show List.perm_middle.trans ?_;right
def yj{p:_}(xs:Array α)(x:α):(SetTable.insertAt xs p x).toList=Bo xs.toList p x:=by
 unfold SetTable.insertAt Bo;rw[a6,bY,Array.toList_extract,Array.toList_extract,List.extract_eq_take_drop,List.extract_eq_take_drop];rw[iD,eE,aC];congr 1;change x::_=_;congr 1;change []++List.take _ (List.drop p xs.toList)=_;rw[fj];show bz ?_;right
def B1 (xs:Array α)(i:Nat):xs[i]?=xs.toList[i]?:=by right
def Hs{p:_}{xs:Array Nat}(hp:p<=xs.size)(h:xs[i]?=some v):(SetTable.insertAt xs p j)[if i<p then i else i+1]?=some v:=by
 rw[B1,yj];rw[B1] at h;have B:p<=xs.toList.length:=by rw[aM];show hp
 split
 ·rename_i hi;rw[Hn B hi,h]
 ·rename_i hi;rw[Hq B '!',h]
def DQ{p:_}{xs:Array Nat}(hp:p<=xs.size)(h:(SetTable.insertAt xs p j)[i]?=some v):(i=p/\v=j)\/(i<p/\xs[i]?=some v)\/∃B,i=B+1/\p<=B/\xs[B]?=some v:=by
 rw[B1,yj] at h;have F:p<=xs.toList.length:=by rw[aM];show hp
 rcases cW i p with q | q | q;rw[Hn F q,<- B1] at h;right;subst q;rw[Ho F] at h;right;obtain⟨B,rfl⟩:∃B,i=B+1:=#[i-1,by lia];rw[Hq F '!',<- B1] at h;show .inr (.inr #[B,A5,by lia,h])
def Tq(hr:Ris xs)(hn:∀i:Nat,xs[i]?≠some j):Ris (SetTable.insertAt xs (SetTable.below xs j) j):=by
 obtain⟨J,b2,b3⟩:=xP hr j;intro i i2 U h2;have e1:=Hj (xs:=SetTable.insertAt xs (SetTable.below xs j) j) (i:=i) '!';have I:=Hj h2;generalize (SetTable.insertAt xs (SetTable.below xs j) j).getD i 0=v at e1;generalize (SetTable.insertAt xs (SetTable.below xs j) j).getD i2 0=O at I
 have Y:∀i v,SetTable.below xs j<=i->xs[i]?=some v->j<v:=λi v h e=>by
  obtain⟨a1,a2⟩:=xI e;grind
 have F:∀i v,i<SetTable.below xs j->xs[i]?=some v->v<j:=λi v h e=>by obtain⟨a1,a2⟩:=xI e;have:=b2 i h;lia
 have B:∀i i2 v O,i<i2->xs[i]?=some v->xs[i2]?=some O->v<O:=λi i2 v O h e I=>by
  obtain⟨a1,a2⟩:=xI e;obtain⟨a3,a4⟩:=xI I;have:=hr i i2 h a3
  omega
 rcases DQ J e1 with ⟨rfl,rfl⟩ | ⟨q,e⟩ | ⟨i',rfl,q,e⟩;rcases DQ J I with ⟨rfl,rfl⟩ | ⟨q',e'⟩ | ⟨i'',rfl,q',e'⟩;lia;lia;show Y _ _ q' e';rcases DQ J I with ⟨rfl,rfl⟩ | ⟨q',e'⟩ | ⟨i'',rfl,q',e'⟩;show F _ _ q e;show B _ _ _ _ U e e';show B _ _ _ _ '!' e e';rcases DQ J I with ⟨rfl,rfl⟩ | ⟨q',e'⟩ | ⟨i'',rfl,q',e'⟩;lia;lia;show B _ _ _ _ '!' e e'
section
variable{t:SetTable}{es:Array (Int×Value)}{xs:List (List Key×Addr)}
def Tr:SetTable.has #v[] j=false:=rfl
def Tb.put{N:_}(T:Tb prog w t es xs)(hN:N<10*SetTable.turns t.mask)(he:∀i:Nat,t.place[i]?≠some (wk t.mask '3' N))(hp:DP t xs '3' k N)(hk:k∉xs.map (·.1))(hf:xs.length+1<=t.mask)(ab:wk t.mask '3' N<=t.mask):
  ∃O,Tb prog w (t.put (wk t.mask '3' N)).1 (SetTable.insertAt es (t.put (wk t.mask '3' N)).2 ((tk prog w).hash k,.ref b)) O/\O.Perm ((k,b)::xs):=by
 generalize hj:wk t.mask '3' N=j at *;obtain⟨U,b2,b3⟩:=xP T.ris j;have ac:(t.put j).2=SetTable.below t.place j:=rfl
 have ht:(t.put j).1={ t with place:=SetTable.insertAt t.place (SetTable.below t.place j) j }:=by
  unfold SetTable.put;rw[T.dm,Tr];grind
 generalize ad:SetTable.below t.place j=p at *;have F:p<=xs.length:=by rw[<- T.sz];show U
 have B:∀ {i v:Nat},t.place[i]?=some v->∃I:Nat,(SetTable.insertAt t.place p j)[I]?=some v:=λ{i v} h=>#[_,Hs U h];have Y:=Tp xs p (k,b);show#[Bo xs p (k,b),?_,Y];rw[ac,ht];show#[?_,?_,T.dm,?_,?_,?_,T.msk,?_,T.plain,T.led,?_];rw[yj,T.eq,To];rw[(Y.map (·.1)).nodup_iff,ax,dG];show#[hk,T.nd];have:=Tq T.ris he;right;intro i v e;rcases DQ U e with ⟨_,rfl⟩ | ⟨_,e'⟩ | ⟨_,_,_,e'⟩;show ab;show T.le _ _ e';show T.le _ _ e';rw[<- aM,yj,Hr (by right),Hr F,aM,T.sz];rw[Hr F];show hf;intro i q J;rcases cW i p with z | z | z;rw[Hn F z] at J;obtain⟨n,h1,h2,h3⟩:=T.reach i q J;show#[n,h1,?_,λm hm=>?_];have:=Hs (j:=j) U h2;right;obtain⟨I,e⟩:=h3 m hm;show B e;subst z;rw[Ho F] at J;cases J;show#[N,hN,?_,λm hm=>?_];rw[B1,yj,Ho (by right)];right;obtain⟨I,q',e,_⟩:=hp m hm;show B e;obtain⟨I,rfl⟩:∃I,i=I+1:=#[i-1,by lia];rw[Hq F '!'] at J;obtain⟨n,h1,h2,h3⟩:=T.reach I q J;show#[n,h1,?_,λm hm=>?_];have:=Hs (j:=j) U h2;rw[if_neg '!'] at this;show this;obtain⟨I,e⟩:=h3 m hm;show B e
end
theorem Ht:∀n {l:AR},l.Nodup->(∀x∈l,x<n)->l.length<=n
 | 0,l,_,h=>by
  cases l with
  | nil=>show ak _
  | cons a _=>show absurd (h a aq) (dJ _)
 | n+1,l,B,h=>by
  by_cases I:n∈l
  have h1:=Ht n (B.erase n) λx F=>by
   grind
  grind
  have:=Ht n B λx F=>by
   grind
  lia
theorem Ts [BEq α][LawfulBEq α]:∀ {l l':List α},l.Nodup->l'.Nodup->(∀x,x∈l↔x∈l')->l.Perm l'
 | [],l',_,_,h=>by
  cases l' with
  | nil=>show .nil
  | cons a _=>show absurd ((h a).mpr aq) '$'
 | a::l,l',F,B,h=>by grind
def St0 (B:Nat)(h:Int)(K:Nat):SetTable.Probe:=#[(lp B h K).1,SetTable.runEnd B (lp B h K).1-(lp B h K).1,(lp B h K).1,(lp B h K).2,none]
def Tt{B:Nat}{h:Int}{T K:Nat}(e:stp B h T=St0 B h K):stp B h (T+(SetTable.runEnd B (lp B h K).1-(lp B h K).1)+1)=St0 B h (K+1):=by change (tm B).advance (stp B h (T+_))=_;rw[E9 B h e _ (ak _),Hk B _ (Nat.sub_self _)];rfl
theorem LF (B:Nat)(h:Int):∀K,(lp B h K).1<=B
 | 0=>dL (il _ (gW _))
 | K+1=>dL (il _ (gW _))
def Hu{B i:Nat}(h:i<=B):SetTable.runEnd B i<=B/\i<=SetTable.runEnd B i:=by unfold SetTable.runEnd;split <;> lia
theorem LG{h:Int}{owner:Array '0'}(hs:owner.size=B+1):∀F K T,T<=10*K->stp B h T=St0 B h K->(∀m,m<T->∃I,owner[wk B h m]?=some (some I))->
  (∃K',K<=K'/\K'<K+F/\owner[(lp B h K').1]?=some none)->
  ∃N,SetTable.layClean.free B owner F (lp B h K).1 (lp B h K).2=some (wk B h N)/\N<10*(K+F)/\wk B h N<=B/\owner[wk B h N]?=some none/\∀m,m<N->∃I,owner[wk B h m]?=some (some I)
 | 0,K,T,_,_,_,⟨K',h1,h2,_⟩=>by lia
 | F+1,K,T,hT,eT,ad,⟨K',h1,h2,h3⟩=>by
  have a0:=LF B h K;obtain⟨r1,r2⟩:=Hu a0;have r9:=Lv B (lp B h K).1;have J:∀k,k<=SetTable.runEnd B (lp B h K).1-(lp B h K).1->wk B h (T+k)=(lp B h K).1+k:=λk hk=>by change (stp B h (T+k)).j=_;rw[E9 B h eT k hk]
  have inR:∀k,k<=SetTable.runEnd B (lp B h K).1-(lp B h K).1->∃u,owner[(lp B h K).1+k]?=some u/\owner.getD ((lp B h K).1+k) (some 0)=u:=λk hk=>by
   have a5:(lp B h K).1+k<owner.size:=by lia
   right
  change ∃N,(match (List.range (SetTable.runEnd B (lp B h K).1+1-(lp B h K).1)).find? λk=>(owner.getD ((lp B h K).1+k) (some 0)).isNone with
   | some k=>some ((lp B h K).1+k)
   | none=>SetTable.layClean.free B owner F (lp B h (K+1)).1 (lp B h (K+1)).2)=some (wk B h N)/\_
  cases hf:(List.range (SetTable.runEnd B (lp B h K).1+1-(lp B h K).1)).find? λk=>(owner.getD ((lp B h K).1+k) (some 0)).isNone with
  | some k=>
   obtain⟨hp,i,hi,ag,al⟩:=List.find?_eq_some_iff_getElem.mp hf;rw[fq] at ag;subst ag;rw[aZ] at hi;have hk:i<=SetTable.runEnd B (lp B h K).1-(lp B h K).1:=by lia
   obtain⟨u,O,U⟩:=inR i hk;rw[U] at hp
   have a4:u=none:=by
    cases u with
    | none=>rfl
    | some z=>show absurd hp '$'
   subst a4;show#[T+i,by rw[J i hk],by lia,by rw[J i hk];lia,by rw[J i hk];show O,λm hm=>?_];by_cases ac:m<T;show ad m ac;obtain⟨Y,rfl⟩:∃Y,m=T+Y:=#[m-T,by lia];obtain⟨u,O,U⟩:=inR Y '!';have:=al Y '!';rw[fq,U] at this;rw[J Y '!',O]
   cases u with
   | none=>simp at this
   | some I=>show#[I,A5]
  | none=>
   have an:=List.find?_eq_none.mp hf
   have ab:∀k,k<=SetTable.runEnd B (lp B h K).1-(lp B h K).1->∃I,owner[(lp B h K).1+k]?=some (some I):=λk hk=>by
    obtain⟨u,O,U⟩:=inR k hk;have:=an k (aL.mpr '!');rw[U] at this
    cases u with
    | none=>simp at this
    | some I=>show#[I,O]
   have a7:K≠K':=λz=>by
    subst z;obtain⟨I,e⟩:=ab 0 (aQ _);grind
   have as:∀m,m<T+(SetTable.runEnd B (lp B h K).1-(lp B h K).1)+1->∃I,owner[wk B h m]?=some (some I):=λm hm=>by
    by_cases ac:m<T;show ad m ac;obtain⟨Y,rfl⟩:∃Y,m=T+Y:=#[m-T,by lia];rw[J Y '!'];show ab Y '!'
   obtain⟨N,a1,a2,a3⟩:=LG hs F (K+1) _ '!' (Tt eT) as #[K',by lia,by lia,h3];show#[N,a1,by lia,a3]
structure Own (mask:Nat)(hs:AG)(n:Nat)(owner:Array (Option Nat)):Prop where
 size:owner.size=mask+1
 lt:∀ (j i:Nat),owner[j]?=some (some i)->i<n
 inj:∀ (j j' i:Nat),owner[j]?=some (some i)->owner[j']?=some (some i)->j=j'
 reach:∀ (i:Nat) (h:Int),i<n->hs[i]?=some h->∃N,N<10 * SetTable.turns mask/\owner[wk mask h N]?=some (some i)/\∀m,m<N->∃i',owner[wk mask h m]?=some (some i')
def Own.gap(o:Own B hs n owner)(hn:n<=B):∃j,j<=B/\owner[j]?=some none:=by
 show cL λO=>?_
 have all:∀j,j<B+1->∃i,owner[j]?=some (some i):=λj I=>by
  have U:j<owner.size:=by rw[o.size];show I
  cases e:owner[j] with
  | none=>show absurd #[j,dL I,by right] O
  | some i=>show#[i,by right]
 have Y:=Ht n (l:=(List.range (B+1)).map λj=>((owner[j]?).join).getD 0) ?_ ?_;rw[af,aZ] at Y;lia;show bN.mpr (List.Pairwise.imp_of_mem ?_ iA);intro a b ha hb J e;show J ?_;obtain⟨i,hi⟩:=all a (aL.mp ha);obtain⟨i',F⟩:=all b (aL.mp hb);rw[hi,F] at e;have:i=i':=e;subst this;show o.inj _ _ _ hi F;intro x hx;obtain⟨j,I,rfl⟩:=aH.mp hx;obtain⟨i,hi⟩:=all j (aL.mp I);rw[hi];show o.lt _ _ hi
def Own.step{h:Int}(o:Own B hs n owner)(hr:Ring (B+1))(hn:n<=B)(hh:hs[n]?=some h):
  ∃j,SetTable.layClean.free B owner (SetTable.turns B) (SetTable.bits h % (B+1)) (SetTable.bits h)=some j/\Own B hs (n+1) (owner.setIfInBounds j (some n)):=by
 obtain⟨g,hg,eg⟩:=o.gap hn;have hb:(lp B h 13).1<B+1:=im (LF B h 13);obtain⟨k,hk,e⟩:=hr.reach hb (im hg);obtain⟨N,h1,h2,h3,h4,h5⟩:=LG o.size (SetTable.turns B) 0 0 (ak _) (h:=h) A5 (λm Y=>absurd Y (dJ _)) #[13+k,aQ _,by unfold SetTable.turns;lia,by rw[Hl,e];show eg];have hj:wk B h N<owner.size:=by rw[o.size];lia
 have I:(owner.setIfInBounds (wk B h N) (some n))[wk B h N]?=some (some n):=by right
 have F:∀j,j≠wk B h N->(owner.setIfInBounds (wk B h N) (some n))[j]?=owner[j]?:=λj ab=>by rw[Array.getElem?_setIfInBounds];rw[if_neg (λz=>ab z.symm)]
 have J:∀j i,owner[j]?=some (some i)->(owner.setIfInBounds (wk B h N) (some n))[j]?=some (some i):=λj i e=>by
  by_cases q:j=wk B h N;rw[q,h4] at e;cases e;rw[F j q];show e
 show#[wk B h N,h1,by simp[o.size],λj i e=>?_,λj j' i e U=>?_,λi h' hi O=>?_];by_cases q:j=wk B h N;right;rw[F j q] at e;have:=o.lt _ _ e;lia;by_cases q:j=wk B h N;subst q;rw[I] at e;cases e;by_cases q':j'=wk B h N;show q'.symm;rw[F j' q'] at U;have:=o.lt _ _ U;lia;rw[F j q] at e;by_cases q':j'=wk B h N;subst q';rw[I] at U;cases U;have:=o.lt _ _ e;lia;rw[F j' q'] at U;show o.inj _ _ _ e U;by_cases q:i=n;subst q;rw[hh] at O;cases O;show#[N,by lia,I,λm Y=>?_];obtain⟨i',e⟩:=h5 m Y;show#[i',J _ _ e];obtain⟨M,m1,m2,m3⟩:=o.reach i h' '!' O;show#[M,m1,J _ _ m2,λm Y=>?_];obtain⟨i',e⟩:=m3 m Y;show#[i',J _ _ e]
def Tu (B:Nat)(hs:AG):Own B hs 0 (Array.replicate (B+1) none):=by
 have F:∀j i,(Array.replicate (B+1) (none:Option Nat))[j]?≠some (some i):=λj i e=>by
  rw[Array.getElem?_replicate] at e;grind
 show#[by simp,λj i e=>absurd e (F j i),λj I i e=>absurd e (F j i),λi h hi=>absurd hi (dJ _)]
theorem LH(O:Ring (F+1)):∀zu B (owner:Array '0'),(B++zu).length<=F->Own F (B++zu) B.length owner->
  ∃I,zu.foldl (λ(acc:Option (Array (Option Nat)×Nat)) h=>acc.bind λx=>(SetTable.layClean.free F x.1 (SetTable.turns F) (SetTable.bits h % (F+1)) (SetTable.bits h)).bind λj=>some (x.1.setIfInBounds j (some x.2),x.2+1)) (some (owner,B.length))=some (I,(B++zu).length)/\Own F (B++zu) (B++zu).length I
 | [],B,owner,_,o=>by right
 | h::zu,B,owner,J,o=>by
  have Y:B.length+(zu.length+1)<=F:=by rw[ay,aS] at J;show J
  obtain⟨j,e,o'⟩:=o.step O '!' (h:=h) '$';have U:B++h::zu=(B++[h])++zu:=by rw[aC];rfl
  have e2:B.length+1=(B++[h]).length:=by rw[ay];rfl
  rw[U,e2] at o';obtain⟨I,f1,f2⟩:=LH O zu (B++[h]) _ (by rw[<- U];show J) o';grind
def Tv(F:Ring (B+1))(hs:Array Int)(I:hs.size<=B):∃owner,SetTable.layClean B hs=some owner/\Own B hs.toList hs.size owner:=by
 obtain⟨owner,h1,h2⟩:=LH F hs.toList [] (Array.replicate (B+1) none) (by right) (Tu B _);rw[fj,aM] at h2;show#[owner,?_,h2];unfold SetTable.layClean;right
def yY (B:Nat)(owner:Array '0'):List (Nat×Nat):=(List.range (B+1)).filterMap λj=>(owner.getD j none).map (j,·)
def xC(o:Own B hs n owner):(j,i)∈yY B owner↔owner[j]?=some (some i):=by
 unfold yY;rw[dw];constructor;rintro⟨U,I,e⟩;obtain⟨Y,J,O⟩:=aI.mp e;cases O;have F:j<owner.size:=by rw[o.size];show aL.mp I
 right;intro e;obtain⟨F,J⟩:=dg.mp e;show#[j,aL.mpr (by rw[<- o.size];show F),?_];right
def LI (B:Nat)(owner:Array '0'):(yY B owner).Pairwise λa b=>a.1<b.1:=by
 unfold yY;show List.pairwise_filterMap.mpr ((dQ).imp ?_);right
def Tw(o:Own B hs hs.length owner):((yY B owner).map (·.2)).Perm (List.range hs.length):=by
 show Ts ?_ iA λi=>?_;show bN.mpr (List.Pairwise.imp_of_mem ?_ (LI B owner));intro a b F I J e;have h1:=(xC o).mp F;have h2:=(xC o).mp I;rw[e] at h1;have:=o.inj _ _ _ h1 h2;lia;rw[aL];constructor;intro h;obtain⟨⟨j,O⟩,h1,rfl⟩:=aH.mp h;show o.lt _ _ ((xC o).mp h1);intro h;obtain⟨N,_,e,_⟩:=o.reach i hs[i] h (am h);show aH.mpr #[(_,i),(xC o).mpr e,A5]
def Tx (l:List α):(List.range l.length).filterMap (λi=>l[i]?)=l:=by
 have:∀ (n:Nat) (l:List α),n=l.length->(List.range n).filterMap (λi=>l[i]?)=l:=by
  intro n
  induction n with
  | zero=>intro l h;cases l with | nil=>rfl | cons _ _=>simp at h
  | succ n B=>
   intro l h
   cases l with
   | nil=>simp at h
   | cons a l=>
    rw[List.range_succ_eq_map,bv];change a::_=_;rw[List.filterMap_map];congr 1;show B l (by simpa using h)
 show this _ l A5
section
variable{t:SetTable}{es:Array (Int×Value)}{xs:List (List Key×Addr)}
def Tb.laid(T:Tb prog w t es xs)(hm:uY B)(hl:xs.length<=B)(O Y:Nat):
  ∃t' F ac,SetTable.laid B O Y t.led true (es.map (·.1))=some (t',F)/\(F.filterMap (es[·]?)).size=es.size/\Tb prog w t' (F.filterMap (es[·]?)) ac/\ac.Perm xs/\t'.mask=B:=by
 obtain⟨owner,e,o⟩:=Tv hm.ring (es.map (·.1)) (by rw[Array.size_map,T.size];show hl);have hh:(es.map (·.1)).toList=xs.map λq=>(tk prog w).hash q.1:=by rw[iz,T.eq,aK];rfl
 have hsz:(es.map (·.1)).size=xs.length:=by rw[Array.size_map,T.size]
 rw[hh,hsz] at o;have o':Own B (xs.map λq=>(tk prog w).hash q.1) (xs.map λq=>(tk prog w).hash q.1).length owner:=by rw[af];show o
 have hp:=Tw o';rw[af] at hp;have ad:((((yY B owner).map (·.2)).toArray).filterMap (es[·]?)).toList=((yY B owner).map (·.2)).filterMap (es.toList[·]?):=by right
 have J:(((yY B owner).map (·.2)).filterMap (xs[·]?)).Perm xs:=by have:=hp.filterMap (xs[·]?);rw[Tx] at this;show this
 have ag:((yY B owner).map (·.2)).filterMap (es.toList[·]?)=(((yY B owner).map (·.2)).filterMap (xs[·]?)).map λq=>((tk prog w).hash q.1,Value.ref q.2):=by rw[List.map_filterMap];congr 1;funext i;rw[T.eq,aF]
 have ab:∀ {c:Nat} {q:List Key×Addr},(((yY B owner).map (·.2)).filterMap (xs[·]?))[c]?=some q->∃j i,(yY B owner)[c]?=some (j,i)/\xs[i]?=some q:=by
  have a0:∀ (l:List (Nat×Nat)),(∀p∈l,p.2<xs.length)->∀ {c:Nat} {q:List Key×Addr},((l.map (·.2)).filterMap (xs[·]?))[c]?=some q->∃j i,l[c]?=some (j,i)/\xs[i]?=some q:=by
   intro l
   induction l with
   | nil=>intro _ c q h;simp at h
   | cons p l ih=>
    intro al c q h;have a1:=al p aq;rw[ax,bv,am a1] at h
    cases c with
    | zero=>
     show#[p.1,p.2,A5,?_];right
    | succ c=>show ih (λp' a2=>al p' (aj _ a2)) (by simpa using h)
  intro c q h;show a0 _ (λp hp=>?_) h;obtain⟨j,i⟩:=p;show o.lt _ _ ((xC o).mp hp)
 have I:∀ {c j i:Nat},(yY B owner)[c]?=some (j,i)->(((yY B owner).map (·.1)).toArray)[c]?=some j:=λ{c j i} h=>by right
 show#[_,_,((yY B owner).map (·.2)).filterMap (xs[·]?),by unfold SetTable.laid;rw[e];rfl,?_,#[?_,?_,A5,?_,?_,?_,hm,?_,A5,by show T.led,?_],J,A5];change ((((yY B owner).map (·.2)).toArray).filterMap (es[·]?)).size=es.size;rw[<- aM,ad,ag,af,J.length_eq,T.size];show ad.trans ag;rw[(J.map (·.1)).nodup_iff];show T.nd;intro i j an hj
 have as:j<(yY B owner).length:=by
  have:(((yY B owner).map (·.1)).toArray).size=(yY B owner).length:=by simp
  rw[<- this];show hj
 have a3:i<(yY B owner).length:=Nat.lt_trans an as;have:=ce.mp (LI B owner) i j a3 as an;change (((yY B owner).map (·.1)).toArray).getD i 0<(((yY B owner).map (·.1)).toArray).getD j 0;right;intro c j hc;have U:((yY B owner).map (·.1))[c]?=some j:=by rw[B1] at hc;show hc
 rw[aF] at U;obtain⟨⟨j',i'⟩,h1,rfl⟩:=aI.mp U;have h2:=(xC o).mp (az h1);have:=(dg.mp h2).1;rw[o.size] at this;change j'<=B;lia;change (((yY B owner).map (·.1)).toArray).size=_;have h1:(((yY B owner).map (·.1)).toArray).size=(yY B owner).length:=by simp
 rw[h1,J.length_eq];have:=hp.length_eq;grind;rw[J.length_eq];show hl;intro c q hq;obtain⟨j,i,h1,h2⟩:=ab hq;have hi:=(ai.mp h2).1;obtain⟨N,n1,n2,n3⟩:=o.reach i ((tk prog w).hash q.1) hi (by right);have hj:=o.inj _ _ _ ((xC o).mp (az h1)) n2;subst hj;show#[N,n1,I h1,λm a4=>?_];obtain⟨i',e'⟩:=n3 m a4;obtain⟨c',U,a5⟩:=cE.mp ((xC o).mpr e');show#[c',I (by rw[am U,a5])]
variable{A:Ae}
def BR (prog:Aa)(w:Ab)(h:Heap)(a:Addr)(xs:List (List Key×Addr)):Prop:=∃o es ep t,h.get? a=some o/\o.ExactSet/\o.data = .set es ep t/\Tb prog w t es xs/\xs.length*5<t.mask*3
def Ty(hk:(tk prog w).is s.heap (ns.map Sum.inl) b)(h:Q true s):Ag prog w A (hashByValue 8 (.ref b)) Q E s:=by
 have O:IsTupleKey (zV prog w) s.heap (ns.map Sum.inl) b:=hk;have hT:=O.typeIs;obtain⟨o,I,n,ho,_,hd,hi⟩:=O
 have J:∀ {ns:AG} {vs:AN},ItemsAre (zV prog w) (ns.map Sum.inl) vs->∀v∈vs,∃i t,v=Value.int i t:=by
  intro ns
  induction ns with
  | nil=>intro vs h v U;cases h;simp at U
  | cons n ns ih=>
   intro vs h v U
   cases h with
   | cons h1 h2=>
    rcases au.mp U with rfl | U
    ·have Y:Cw (Sum.inl n) v=true:=h1;rcases zP Y with ⟨i,t,_,e⟩ | ⟨x,t,z,_⟩
     all_goals right
    show ih h2 v U
 unfold hashByValue;show aa (dW hT F.slot_tuple_hash.lookup ?_);show aa (cJ ho hd ?_);show aa ?_;rw[<- fg];show dP _ (λzu r s'=>r.1=none/\s'=s/\∀v∈zu,∃i t,v=Value.int i t) _ ?_ ?_ _ _ #[A5,A5,J hi];rintro v zu r s' ⟨hr,rfl,B⟩;obtain⟨i,t,rfl⟩:=B v aq;have e:hashByValue 7 (Value.int i t)=pure true:=rfl;rw[e];show aa (ae ?_);simp only[dO,aN,if_false];show ae #[A5,A5,λu ab=>B u (aj _ ab)];rintro⟨r1,r2⟩ s' ⟨hr,rfl,_⟩;simp only at hr;subst hr;show ae h
def LJ{h:Heap}{a:Addr}{o:Obj}{es:Array (Int×Value)}{es':Array (Int×Value)}(F:h.get? a=some o)(B:o.data = .set es ep t):
  (h.update a (Obj.putSet es' t')).get? a=some { o with data:=.set es' (ep+1) t' }:=by
 have:=bJ (Obj.putSet es' t') F (by rw[putSet_of es' t' B];rfl);rw[putSet_of es' t' B] at this;show this
def Tz(T:Tb prog w t es xs)(ho:s.heap.get? a=some o)(hx:o.ExactSet)(hd:o.data = .set es ep t)(hw:SetTable.sizeAbove wanted=mask+1)(hm:uY mask)(hl:xs.length*5<mask*3)(h:∀h' xs',Heap.SameBut a s.heap h'->BR prog w h' a xs'->xs'.Perm xs->Q () '1'):Ag prog w A (setRelay a wanted) Q E s:=by
 unfold setRelay;show aa (bM ho hd T.fits ?_);dsimp only;have:=hm.le;rw[if_neg (by rw[hw,cy];lia)];obtain⟨t',order,xs',e,hsz,T',hp,hmk⟩:=T.laid hm '!' t.finger (t.movedTo mask);have e':t.relaid (es.map (·.1)) wanted=some (t',order):=by unfold SetTable.relaid;rw[hw,T.plain];show e
 have core:∀ {R:Array (Int×Value)×SetTable->AZ->Prop},R (order.filterMap (es[·]?),t') s->Ag prog w A (do
   let some (t,order):=t.relaid (es.map (·.1)) wanted | unsupported "internal:set-table-without-room"
   let es':=order.filterMap (es[·]?)
   if es'.size != es.size then unsupported "internal:set-table-lost-an-element"
   pure (es',t)) R E s:=λ{R} hR=>by
  rw[e'];dsimp only;rw[hsz];simp only[ik,aN,if_false]
  first | show ae hR | show aa (by grind)
 show aa (core ?_);show wpAny_storeSet_of ho hd ?_ (by rw[hsz,T.size,cy];lia);show h _ xs' (bn _ a _) #[_,_,_,t',LJ ho hd,hx,A5,T',?_] hp;rw[hp.length_eq,hmk];show hl
def Tb.out{N:_}(T:Tb prog w t es xs)(Y:N<10*SetTable.turns t.mask)(J:∀i:Nat,t.place[i]?≠some (wk t.mask '3' N))(hp:DP t xs '3' k N):k∉xs.map (·.1):=λz=>by
 obtain⟨q,O,B⟩:=aH.mp z;obtain⟨i,hi⟩:=List.mem_iff_getElem?.mp O;obtain⟨n,h1,h2,I⟩:=T.reach i q hi;rw[B] at h2 I;rcases cW N n with z | z | z;obtain⟨F,e⟩:=I N z;show J F e;right;obtain⟨F,q',U,e2,e3⟩:=hp n z
 have:F=i:=by
  have a1:=E8 T.ris U;have a2:=E8 T.ris h2;right
 grind
def TB(hu:A.units<cLine)(S:BR prog w s.heap a xs)(hk:(tk prog w).is s.heap (ns.map Sum.inl) b)(as:∀q∈xs,(tk prog w).is s.heap q.1 q.2)(hn:xs.length<300)(h:∀r h' n O,Heap.SameBut a s.heap h'->BR prog w h' a O->((ns.map Sum.inl)∈xs.map (·.1)->O=xs)->((ns.map Sum.inl)∉xs.map (·.1)->O.Perm ((ns.map Sum.inl,b)::xs))->Q r { s with heap:=h',toks:=n }):
  Ag prog w A (setAdd a (.ref b)) Q E s:=by
 obtain⟨o,es,ep,t,ho,hx,hd,T,B⟩:=S;unfold setAdd;show bQ (aa ((tk prog w).pyHash hu hk ?_));unfold setAddHashed;show bQ ?_;rw[show (100000:Nat)=99999+1 from rfl];unfold setAddHashedIn;show aa (bM (s:={ s with toks:=s.toks+(tk prog w).draws (ns.map Sum.inl) }) ho hd T.fits ?_);dsimp only;rw[show byScan (.ref b) es=false from rfl];simp only[aN,if_false];unfold setSearch;have hm:=T.msk.le;have a7:t.fill=xs.length:=by unfold SetTable.fill;rw[T.sz,T.dm];rfl
 show aa (LE (s:={ s with toks:=s.toks+(tk prog w).draws (ns.map Sum.inl) }) hu T hk as ho hd ?found ?free 100000 0 none A5 (by unfold SetTable.turns;lia) (aQ _) (λm hm=>absurd hm (dJ _)))
 case found=>
  intro r i q hq a0 _;dsimp only;have ac:(ns.map Sum.inl)∈xs.map (·.1):=aH.mpr #[q,az hq,a0];show ae (h false s.heap _ xs (Heap.SameBut.refl a s.heap) #[o,es,ep,t,ho,hx,hd,T,B] (λ_=>rfl) (λz=>absurd ac z))
 case free=>
  intro N hN he hp;have U:=T.out hN he hp;dsimp only;show aa (bM (s:={ s with toks:=s.toks+(tk prog w).draws (ns.map Sum.inl) }) ho hd T.fits ?_);dsimp only
  have ad:wk t.mask ((tk prog w).hash (ns.map Sum.inl)) N<=t.mask:=by
   have:∀ (h:Int) (n:Nat),wk t.mask h n<=t.mask/\(stp t.mask h n).j+(stp t.mask h n).more<=t.mask:=by
    intro h n
    induction n with
    | zero=>
     have h0:SetTable.bits h % (t.mask+1)<=t.mask:=dL (il _ (gW _));obtain⟨r1,r2⟩:=Hu h0;show#[h0,?_];change SetTable.bits h % (t.mask+1)+(SetTable.runEnd t.mask (SetTable.bits h % (t.mask+1))-SetTable.bits h % (t.mask+1))<=t.mask;lia
    | succ n ih=>
     change ((tm t.mask).advance (stp t.mask h n)).j<=t.mask/\((tm t.mask).advance (stp t.mask h n)).j+((tm t.mask).advance (stp t.mask h n)).more<=t.mask;by_cases a1:0<(stp t.mask h n).more;rw[Lu _ _ a1];grind;rw[Hk _ _ '!'];have h0:((stp t.mask h n).i*5+1+(stp t.mask h n).perturb / 32) % (t.mask+1)<=t.mask:=dL (il _ (gW _));obtain⟨r1,r2⟩:=Hu h0;grind
   show (this _ _).1
  obtain⟨a2,T1,Y⟩:=T.put (b:=b) hN he hp U '!' ad;generalize ag:t.put (wk t.mask ((tk prog w).hash (ns.map Sum.inl)) N)=tp at T1;obtain⟨t1,p⟩:=tp;dsimp only at T1 ⊢
  have al:t1.mask=t.mask:=by
   have:t1=(t.put (wk t.mask ((tk prog w).hash (ns.map Sum.inl)) N)).1:=by rw[ag]
   rw[this];rfl
  rw[T1.plain];simp only[if_true];show aa (Ty (s:={ s with toks:=s.toks+(tk prog w).draws (ns.map Sum.inl) }) hk ?_);simp only[if_true];have ab:=Y.length_eq;rw[aS] at ab;show aa (wpAny_storeSet_of (s:={ s with toks:=s.toks+(tk prog w).draws (ns.map Sum.inl) }) ho hd ?_ (by rw[T1.size,cy];lia));have g1:=LJ (es':=SetTable.insertAt es p ((tk prog w).hash (ns.map Sum.inl),.ref b)) (t':=t1) ho hd;have an:=bn s.heap a (Obj.putSet (SetTable.insertAt es p ((tk prog w).hash (ns.map Sum.inl),.ref b)) t1);simp only[Bool.not_false,Bool.true_and];have J:t1.fill=xs.length+1:=by unfold SetTable.fill;rw[T1.sz,T1.dm,ab];rfl
  by_cases hf:t1.tooFull=true
  ·rw[if_pos hf];unfold SetTable.tooFull at hf;rw[J,al] at hf;have I:=be hf;rw[T.size]
   have next:∃F,SetTable.sizeAbove (SetTable.grown (xs.length+1))=F+1/\uY F/\(xs.length+1)*5<F*3:=by
    rcases T.msk with e | e | e | e;rw[e] at I B;have:xs.length=4:=by lia
    rw[this];show#[31,by ext,.inr (.inl rfl),by lia];rw[e] at I B;have:xs.length=18:=by lia
    rw[this];show#[127,by ext,.inr (.inr (.inl rfl)),by lia];rw[e] at I B;have:xs.length=76:=by lia
    rw[this];show#[511,by ext,.inr (.inr (.inr rfl)),by lia];rw[e] at I B;lia
   obtain⟨F,m1,m2,m3⟩:=next;show aa (Tz (s:={ s with heap:=s.heap.update a (Obj.putSet (SetTable.insertAt es p ((tk prog w).hash (ns.map Sum.inl),.ref b)) t1),toks:=s.toks+(tk prog w).draws (ns.map Sum.inl) }) T1 g1 hx A5 m1 m2 (by rw[ab];show m3) λh' a3 a4 S2 a5=>?_);show ae (h true h' _ a3 (an.trans a4) S2 (λz=>absurd z U) λ_=>a5.trans Y)
  rw[if_neg hf];unfold SetTable.tooFull at hf;rw[J,al] at hf;have I:¬ ((xs.length+1)*5 ≥ t.mask*3):=λz=>hf (aD z);show ae (h true _ _ a2 an #[_,_,_,t1,g1,hx,A5,T1,?_] (λz=>absurd z U) λ_=>Y);right
end
open PySem.W
def zM:Slot "set_iterator" "__next__" "set_iterator.__next__" :=
 .of (owner := "set_iterator") (n := "__next__") (by rw[typeLookup_type,builtinLookup_eq_fast];kernel_rfl) '6' '6' '6'
  (by first | show .inl '6' | show .inr '6') (by rw[isSubtype_type];kernel_rfl)
def xU:Slot "set_iterator" "__iter__" "set_iterator.__iter__" :=
 .of (owner := "set_iterator") (n := "__iter__") (by rw[typeLookup_type,builtinLookup_eq_fast];kernel_rfl) '6' '6' '6'
  (by first | show .inl '6' | show .inr '6') (by rw[isSubtype_type];kernel_rfl)
def xy:entryFor table "set_iterator.__next__" = some Builtin.«set_iterator.__next__»:=entryFor_of_tree (by kernel_rfl)
def TC:entryFor table "set_iterator.__iter__" = some Builtin.«dict_keyiterator.__iter__»:=entryFor_alias (id' := "dict_keyiterator.__iter__") (by kernel_rfl) A5 '6' (by kernel_rfl)
def TD:entryFor table "set.__iter__" = some Builtin.«frozenset.__iter__»:=entryFor_alias (id' := "frozenset.__iter__") (by kernel_rfl) A5 '6' (by kernel_rfl)
def xO (a:Value):argsOk "set_iterator.__next__" #[[a],[]]:=by unfold argsOk;kernel_rfl
def TF (a:Value):argsOk "set_iterator.__iter__" #[[a],[]]:=by unfold argsOk;kernel_rfl
theorem LK (next:Nat->Nat):∀ (n k:Nat) (left:List α) (out:Array α),left.length=n->(pickOrder.go next n k left out).toList.Perm (out.toList++left)
 | 0,k,left,out,h=>by
  have:left=[]:=a9 h;subst this;change out.toList.Perm (out.toList++[]);right
 | n+1,k,left,out,h=>by
  have B:next k % left.length<left.length:=il _ '!'
  change (match left[next k % left.length]? with
   | some x=>pickOrder.go next n (k+1) (left.eraseIdx (next k % left.length)) (out.push x)
   | none=>out).toList.Perm _
  rw[am B];show (LK next n (k+1) _ _ (by grind)).trans ?_;rw[bY,aC];show fP _ ?_;have e:left=left.take (next k % left.length)++left[next k % left.length]::left.drop (next k % left.length+1):=by right
  rw[List.eraseIdx_eq_take_drop_succ];show List.Perm.trans ?_ (List.Perm.of_eq e.symm);rw[List.singleton_append];show List.perm_middle.symm
def LL (next:Nat->Nat)(xs:Array α):(pickOrder next xs).toList.Perm xs.toList:=by
 change (pickOrder.go next xs.size 0 xs.toList #v[]).toList.Perm _;have:=LK next xs.size 0 xs.toList #v[] (aM);grind
section
variable{t:SetTable}{es:Array (Int×Value)}{xs:List (List Key×Addr)}{A:Ae}
def Cc (w:Ab)(a:Addr)(ep:Nat)(es:Array (Int×Value)):Array (Int×Value):=if w.params.followText "set-order" then pickOrder (w.params.setOrder a ep) es else es
def LM (a:Addr)(ep:Nat):(Cc w a ep es).toList.Perm es.toList:=by
 unfold Cc;split;show LL _ _;right
def yh (h:Heap)(it a:Addr)(B i n ep:Nat):Prop:=∃o,h.get? it=some o/\o.cls = .type "set_iterator" /\ o.data = .fields #v[.int B 0,.int i 0,.ref a,.int n 0,.int ep 0]
def yh.typeIs(x:yh s.heap it a B i n ep):s.TypeIs (.ref it) "set_iterator" := let ⟨o,ho,hc,_⟩:=x;#[o,ho,hc]
structure SetIs (prog:Aa)(w:Ab)(h:Heap)(a:Addr)(es:Array (Int×Value))(ep:Nat)(t:SetTable)(xs:List (List Key×Addr)):Prop where
 ob:∃o,h.get? a=some o/\o.ExactSet/\o.data = .set es ep t
 tb:Tb prog w t es xs
def TH{e:Int×Value}(hit:yh s.heap it a slot i es.size ep)(S:SetIs prog w s.heap a es ep t xs)(hs:w.params.followText "set-order" = true\/SetTable.below t.place slot=i)(hx:(Cc w a ep es)[i]?=some e)(hQ:∀h' slot',yh h' it a slot' (i+1) es.size ep->(w.params.followText "set-order" = true\/SetTable.below t.place slot'=i+1)->Heap.SameBut it s.heap h'->Q (some e.2) '1'):Ag prog w A (pyNext (.ref it)) Q E s:=by
 obtain⟨o,ho,hc,hd⟩:=id hit;obtain⟨⟨os,hos,_,hds⟩,T⟩:=S;have hf:=T.fits;unfold pyNext
 show aa (dM (wpAny_callSpecial?_slot (name:=Str.ofString "__next__") hit.typeIs zM
  (aW zM hit.typeIs xy ?_ (xO _))))
 show aa (ae ?_);show aa (gY ho hd ?_);show aa (gF hos hds hf ?_);rw[if_neg '$']
 have upd2:∀slot':Nat,∃h',yh h' it a slot' (i+1) es.size ep/\Heap.SameBut it s.heap h'/\∀ {A':Ae} {E':AA} {α:Type} {f:Sem α} {R:α->AZ->Prop},Ag prog w A' f R E' '1'->Ag prog w A' (do setField (.ref it) 0 (rawInt slot');setField (.ref it) 1 (rawInt ((i:Int)+1));f) R E' s:=by
  intro slot';have h1:(s.heap.update it (Obj.mapFields (·.setIfInBounds 0 (rawInt slot')))).get? it=some (Obj.mapFields (·.setIfInBounds 0 (rawInt slot')) o):=bJ _ ho (dY (cA hd _));have hd1:(Obj.mapFields (·.setIfInBounds 0 (rawInt slot')) o).data = .fields #v[.int slot' 0,.int i 0,.ref a,.int es.size 0,.int ep 0]:=by rw[cA hd];simp[rawInt]
  show#[(s.heap.update it (Obj.mapFields (·.setIfInBounds 0 (rawInt slot')))).update it (Obj.mapFields (·.setIfInBounds 1 (rawInt ((i:Int)+1)))),#[_,bJ _ h1 (dY (cA hd1 _)),?_,?_],(bn ..).trans (bn ..),λ{A' E' α f R} hR=>?_];rw[fJ,fJ];show hc;rw[cA hd1];simp[rawInt];show aa (bW ho hd '$' (aa (bW (s:={ s with heap:=s.heap.update it (Obj.mapFields (·.setIfInBounds 0 (rawInt slot'))) }) h1 hd1 '$' hR)))
 unfold setNext
 cases hb:w.params.followText "set-order" with
 | true=>
  have hx':(pickOrder (w.params.setOrder a ep) es)[i]?=some e:=by
   unfold Cc at hx;right
  obtain⟨h',hi',sb',step⟩:=upd2 slot;show aa ?_;show aa (bM hos hds hf ?_);unfold setsByText;show aa (aa (bB (ae ?_)));rw[show '/'.w=w from rfl,hb];simp only[if_true];rw[if_neg '$'];unfold setWalk;show aa ?_;show aa (bM hos hds hf ?_);unfold setsByText;show aa (aa (bB (ae ?_)));rw[show '/'.w=w from rfl,hb];simp only[if_true];show aa (bB (ae ?_));show ae ?_;rw[show '/'.w=w from rfl];simp only[bg];rw[hx'];show step (ae #[_,A5,ae (hQ h' slot hi' (.inl hb) sb')])
 | false=>
  have hx':es[i]?=some e:=by
   unfold Cc at hx;grind
  have hsl:SetTable.below t.place slot=i:=by grind
  have hi:i<es.size:=(dg.mp hx').1;have hpl:t.place[i]?=some (t.place.getD i 0):=Hj (by rw[T.sz,<- T.size];show hi);obtain⟨h',hi',sb',step⟩:=upd2 (t.place.getD i 0+1);show aa ?_;show aa (bM hos hds hf ?_);unfold setsByText;show aa (aa (bB (ae ?_)));rw[show '/'.w=w from rfl,hb];simp only[aN,if_false];rw[if_neg (by change ¬ ((!t.plain&&decide (es.size > 1))=true);rw[T.plain];simp)];show aa ?_;change wpAny _ _ (if (!t.led&&!es.isEmpty)=true then unsupported "set:maker-not-led" else pure ()) _ _ s;rw[if_neg (by rw[T.led,hb];simp)];show ae ?_;simp only[bg];rw[hsl,hx',hpl];show ae ?_;show step (ae #[_,A5,ae (hQ h' _ hi' (.inr ?_) sb')]);obtain⟨b1,b2,b3⟩:=xP T.ris (t.place.getD i 0+1);have hi2:=(xI hpl).1;rcases cW (SetTable.below t.place (t.place.getD i 0+1)) (i+1) with z | z | z;have:=b3 i '!' hi2;lia;show z;have h1:=b2 (i+1) z;have h2:=T.ris i (i+1) (Nat.lt_succ_self i) '!';lia
def TJ(hh:A.handled=none)(F:yh s.heap it a B es.size es.size ep)(S:SetIs prog w s.heap a es ep t xs)(hs:w.params.followText "set-order" = true\/SetTable.below t.place B=es.size)(hQ:∀h',Heap.ExtBut it s.heap h'->Q none '1'):Ag prog w A (pyNext (.ref it)) Q E s:=by
 obtain⟨o,O,hc,U⟩:=id F;obtain⟨⟨os,I,_,J⟩,T⟩:=S;have hf:=T.fits;unfold pyNext
 show aa (dM (wpAny_callSpecial?_slot (name:=Str.ofString "__next__") F.typeIs zM
  (aW zM F.typeIs xy ?_ (xO _))))
 show aa (ae ?_);show aa (gY O U ?_);dsimp only;show aa (gF I J hf ?_);rw[if_neg '$'];unfold setNext;show aa ?_;show aa (bM I J hf ?_);dsimp only;unfold setsByText;show aa (aa (bB (ae ?_)))
 cases hb:w.params.followText "set-order" with
 | true=>
  rw[show '/'.w=w from rfl,hb];simp only[if_true];rw[if_neg '$'];unfold setWalk;show aa ?_;show aa (bM I J hf ?_);dsimp only;unfold setsByText;show aa (aa (bB (ae ?_)));rw[show '/'.w=w from rfl,hb];simp only[if_true];show aa (bB (ae ?_));show ae ?_;rw[show '/'.w=w from rfl];simp only[bg];have hn:(pickOrder (w.params.setOrder a ep) es)[es.size]?=none:=by rw[B1];show List.getElem?_eq_none ?_;rw[(LL _ es).length_eq,aM];show ak _
  rw[hn];dsimp only[Option.map];show aa (bW O U '$' ?_);show wpAny _ _ (newExc (.type "StopIteration") [] >>= _) _ _ _;show aa ?_;simp only[newExc,newTuple];show aa (bh ?_ (by size_fits));show aa (m:=firstArgMember _ _) (wpAny_of_eq (a:=Value.none) (by first | rfl | (simp only[firstArgMember];rfl)) ?_);show bh ?_ (by size_fits);simp only[raiseNew];show aa (iq ?_);rw[show A.in1.handled=none from hh];show aa (ae (wpAny_throw ?_));show aa (cN (T := "StopIteration") (b:=true) #[_,ar _ A5,A5] fN ?_);show ae (hQ _ (((bn ..).extBut.push _).push _))
 | false=>
  have Y:SetTable.below t.place B=es.size:=by grind
  rw[show '/'.w=w from rfl,hb];simp only[aN,if_false];rw[if_neg (by change ¬ ((!t.plain&&decide (es.size > 1))=true);rw[T.plain];simp)];show aa ?_;change wpAny _ _ (if (!t.led&&!es.isEmpty)=true then unsupported "set:maker-not-led" else pure ()) _ _ s;rw[if_neg (by rw[T.led,hb];simp)];show ae ?_;simp only[bg];rw[Y,Array.getElem?_eq_none (ak _)];show ae ?_;dsimp only;show aa (bW O U '$' ?_);show wpAny _ _ (newExc (.type "StopIteration") [] >>= _) _ _ _;show aa ?_;simp only[newExc,newTuple];show aa (bh ?_ (by size_fits));show aa (m:=firstArgMember _ _) (wpAny_of_eq (a:=Value.none) (by first | rfl | (simp only[firstArgMember];rfl)) ?_);show bh ?_ (by size_fits);simp only[raiseNew];show aa (iq ?_);rw[show A.in1.handled=none from hh];show aa (ae (wpAny_throw ?_));show aa (cN (T := "StopIteration") (b:=true) #[_,ar _ A5,A5] fN ?_);show ae (hQ _ (((bn ..).extBut.push _).push _))
def TK(B:yh s.heap it a F i n ep)(h:Q (.ref it) s):Ag prog w A (pyIter (.ref it)) Q E s:=by show io B.typeIs xU (aW xU B.typeIs TC ?_ (TF _));show ae #[_,A5,"set_iterator",_,B.typeIs,zM.lookup,h]
def SetIs.typeIs(S:SetIs prog w s.heap a es ep t xs):s.TypeIs (.ref a) "set" := let ⟨o,ho,hc,_⟩:=S.ob;#[o,ho,hc.1]
def TL(S:SetIs prog w s.heap a es ep t xs)(h:Q (.ref s.heap.objs.size) { s with heap:=s.heap.push { cls:=.type "set_iterator",data:=.fields #v[.int 0 0,.int 0 0,.ref a,.int es.size 0,.int ep 0] } }):Ag prog w A (pyIter (.ref a)) Q E s:=by
 have J:=S.typeIs;obtain⟨⟨O,B,U,I⟩,T⟩:=S;have hf:=T.fits;show io J F.slot_set_iter (aW F.slot_set_iter J TD ?_ (F.args_set_iter_1 _));unfold Builtin.«frozenset.__iter__»;show aa (m:=Builtin.Frozenset.slot0 "__iter__" #[[.ref a],[]]) (ae ?_);show aa ?_;unfold Builtin.Frozenset.sizeOf;show aa (gF B I hf (ae ?_));show aa ?_;unfold setDrawn;show aa (bM B I hf ?_);unfold setsByText;show aa (aa (bB (ae ?_)));show ae ?_;rw[if_neg (by change ¬ ((!_&&(!t.plain&&decide (es.size > 1)))=true);rw[T.plain];simp)];show aa (ae ?_);show aa (wpAny_setEpoch_of B I hf ?_);show aa (bh (ae #[_,A5,"set_iterator",_,#[_,ar _ A5,A5],zM.lookup,?_]));simpa [rawInt] using h
open PySem.W PySem.Calls
def TM(J:s.TypeIs (.ref r) "set")(h:Q false s):Ag prog w A (Builtin.List.listLengthHint (.ref r)) Q E s:=by
 unfold Builtin.List.listLengthHint;show aa (dW J PySem.F.slot_set_len.lookup ?_);generalize I:("set.__len__" : String)=id0
 wp_delta
 rw[show splitId id0=some ("set","__len__") from by subst I;decide +kernel];subst I;show aa (cN (T := "set") (b:=true) J (by rw[isSubtype_type];kernel_rfl) ?_);show wpAny_ite_split (λB=>absurd B '#') (λ_=>?_);show wpAny_ite_split (λ_=>?_) (λB=>absurd '6' B);show aa (dC J ?_);show ae h
def SetIs.keep(S:SetIs prog w h a es ep t xs)(k:∀o,h.get? a=some o->h'.get? a=some o):SetIs prog w h' a es ep t xs:=let ⟨⟨o,ho,r⟩,T⟩:=S;#[#[o,k o ho,r],T]
def yh.keep(S:yh h it a B i n ep)(k:∀o,h.get? it=some o->h'.get? it=some o):yh h' it a B i n ep:=let ⟨o,ho,r⟩:=S;#[o,k o ho,r]
def SetIs.lt(S:SetIs prog w h a es ep t xs):a<h.objs.size:=let ⟨⟨o,ho,_⟩,_⟩:=S;aw ho
def TN (hh:A.handled=none)(I a:Addr)(ac:a≠I)(ep:Nat):
  Walks prog w A I [I,a] [I] es.size (λi v=>∃e,(Cc w a ep es)[i]?=some e/\v=e.2) (λi h=>(∃B,yh h I a B i es.size ep/\(w.params.followText "set-order" = true\/SetTable.below t.place B=i))/\SetIs prog w h a es ep t xs) where
 sub:=λb O=>by simp at O;simp[O]
 frame:=λ_ _ _ st hk=>#[let ⟨sl,x,y⟩:=st.1;#[sl,x.keep λo e=>hk I '$' o e,y],st.2.keep λo e=>hk a '$' o e]
 item:=λi s Q E hi st U=>by
  obtain⟨⟨sl,F,hs⟩,S⟩:=st
  have Y:i<(Cc w a ep es).size:=by
   have:=(LM (w:=w) (es:=es) a ep).length_eq;grind
  show TH F S hs (e:=(Cc w a ep es)[i]) (aX Y) λh' J ab ad sb=>?_;show U _ h' s.toks #[_,aX Y,A5] #[#[J,ab,ad],S.keep λo e=>(sb.2 a ac).trans e] λb o O e=>sb.extBut b o (λh=>O (by simp[h])) e
 done:=λs Q E st U=>by obtain⟨⟨sl,F,hs⟩,S⟩:=st;show TJ hh F S hs λh' ag=>U h' s.toks λb o O e=>ag b o (λh=>O (by simp[h])) e
 self:=λ_ _ _ _ st U=>let ⟨sl,x,_⟩:=st.1;TK x U
def TQ (a:Addr)(ep:Nat):KdlSrc prog w "set" a a es.size (λi v=>∃e,(Cc w a ep es)[i]?=some e/\v=e.2) (λh=>SetIs prog w h a es ep t xs) where
 type:=λs S=>S.typeIs
 there:=λ_ S=>#[S.lt,S.lt]
 keep:=λ_ _ S F=>S.keep λo e=>F a (.inl A5) o e
 notList:=by ext
 notTuple:=by ext
 hint:=λ_ _ _ _ S B=>TM S.typeIs B
 iter:=λA s I S=>#[_,_,(λ_ _ B=>TL S B),TN I _ a (aY S.lt) ep,#[#[0,#[_,ar _ A5,A5,A5],.inr ?_],S.keep λo e=>ah _ e]]
where finally
 have b:=xP S.tb.ris 0;rcases Nat.eq_zero_or_pos (SetTable.below t.place 0) with z | z;show z;show absurd (b.2.1 0 z) (dJ _)
end
def Co (h:Heap)(L BB:Addr)(v:Value)(st:AG):Prop:=∃a B,v = .ref a/\IsTup h a B.toArray/\yf (st.map V.int) B/\a≠L/\a≠BB
def Co.keep{st:AG}(r:Co h L BB v st)(kp:∀b o,b≠L->b≠BB->h.get? b=some o->h'.get? b=some o):Co h' L BB v st:=by obtain⟨a,B,e,⟨o,F,I⟩,J,h1,h2⟩:=r;show#[a,B,e,#[o,kp a o h1 h2 F,I],J,h1,h2]
theorem LN:∀ {vs:AN} {A9:AF},Paired (Co h L BB) vs A9->(∀st∈A9,1<=st.length)->∃fs,W.KatTups h vs fs/\fs.length=A9.length/\∀f∈fs,∃a t,f=Value.int a t
 | _,_,.nil,_=>#[[],trivial,A5,λ_ h=>by simp at h]
 | _,_,.cons (b:=st) r J,h1=>by
  obtain⟨a,B,rfl,⟨o,O,U,n,Y⟩,F,_⟩:=r;obtain⟨fs,f1,f2,f3⟩:=LN J λz hz=>h1 z (aj _ hz);have I:=h1 st aq
  match st,F,I with
  | z::zs,F,_=>
   cases F with
   | cons q1 qq=>
    obtain⟨t,rfl⟩:=q1;show#[_::fs,#[#[a,o,_,n,A5,O,U,Y,A5],f1],by right,λf hf=>?_];rcases au.mp hf with rfl | hf
    all_goals right
theorem yq{B:Type}{R:α->B->Prop}:∀ {l:List α} {l':List B},Paired R l l'->∀ {i:Nat} (d:α) (d':B),i<l'.length->R (l.getD i d) (l'.getD i d')
 | _,_,.nil,i,_,_,h=>by simp at h
 | _,_,.cons r _,0,_,_,_=>r
 | _,_,.cons _ t,i+1,d,d',h=>by have:=yq t (i:=i) d d' (by simpa using h);simpa using this
theorem Hv{B:Type}{R:α->B->Prop}:∀ {l:List α} {l':List B},Paired R l l'->l.length=l'.length
 | _,_,.nil=>rfl
 | _,_,.cons _ t=>by rw[aS,aS,Hv t]
section
variable{A:Ae}
def TR{A9:AF}(as:s.heap.Ns L m0)(a0:BB≠L)(ho:s.heap.get? BB=some (seqObj "list" vs.toArray n))(hv:Paired (Co s.heap L BB) vs A9)(a7:A9.length<64)(bb:1<=m)(hm:∀st∈A9,st.length=m)(a3:A9.Nodup)(h:∀h' c p,List.Perm p (List.range A9.length)->((p.map λi=>A9.getD i []).Pairwise λa b=>HT.lexLt a b=true)->(∀b o,b≠L->b≠BB->s.heap.get? b=some o->h'.get? b=some o)->h'.Ns L m0->
   h'.get? BB=some (seqObj "list" (p.map λi=>vs.getD i .none).toArray c)->Q .none '1'):
  Ag prog w A (call (.builtin "list.sort") [.ref BB]) Q E s:=by
 have bc:=Hv hv;have hz:A9.length<=sizeLine:=av (cS a7) (by rw[cy];decide);by_cases h2:2<=A9.length
 ·have B:∀p∈(Cb s.heap L).filter (λq=>decide (q.1≠BB)),s.heap.get? p.1=some p.2/\p.1≠L/\p.1≠BB:=λp hp=>by
   have h1:=bK.mp hp;have h2:=yo.mp (show (p.1,p.2)∈Cb s.heap L from h1.1);right
  have J:∀b,(#[#v[],{}]:Heap).get? b=none:=λb=>by
   cases e:(#[#v[],{}]:Heap).get? b with
   | none=>rfl
   | some o'=>
    have:=aw e;simp at this
  show aW gZ #[_,ho,A5] gG ?_ (g8 _);show Lm (h₀:=(#[#v[],{}]:Heap)) (L:=L) (m:=m0) (news:=(Cb s.heap L).filter (λq=>decide (q.1≠BB))) #[as,λb o e=>?_,aQ _] (λp hp=>?_) ho a0 (J _) (λp hp=>(B p hp).2.2) '!' '!' λe1 h' F N=>?_;right;show#[(B p hp).1,(B p hp).2.1,J _]
  ·have kp:∀b o,b≠L->b≠BB->s.heap.get? b=some o->h'.get? b=some o:=λb o hb hD e=>(N (b,o) (aj _ (bK.mpr #[yo.mpr #[hb,e],aD hD]))).1;have O:Paired (Co h' L BB) vs A9:=Paired.mapP hv λv st r=>r.keep kp;obtain⟨fs,k1,k2,k3⟩:=LN O λst bd=>by rw[hm st bd];show bb
   show W.kat_kind (T:=.type "int") (s:='1') k1 '!' (λf hf=>?_) '#' ?_;obtain⟨a,t,rfl⟩:=k3 f hf;intro A' Q' E' s' _ hq;show dC (typeIs_int s' a t) hq
   ·have hu:G_ A9.length (xB A9):=λi j hi I e=>by
     have e1:=E7 hm hi I;have e2:=E7 hm I hi;rw[e,aJ (iu _)] at e1;rw[e,aJ (iu _)] at e2;have gi:A9.getD i []=A9[i]:=by simp[hi]
     have gj:A9.getD j []=A9[j]:=by simp[I]
     rcases E4 (a:=A9.getD i []) (b:=A9.getD j []) (by right) with h | h | h;rw[gi,gj] at h;show (dh a3).mp h
     all_goals grind
    have U:vs.length=A9.length:=by lia
    show#[xB A9,by rw[U];show hu,λi j hi I e=>?_,λi j hi I C E hC=>?_,λp Y=>?_];rw[U] at hi I;obtain⟨a1,ad,b1,c1,d1,_⟩:=yq O .none [] hi;obtain⟨a2,ag,b2,c2,d2,_⟩:=yq O .none [] I;rw[b1,b2] at e;cases e;obtain⟨o1,al,_,n1,an⟩:=c1;obtain⟨o2,ab,_,n2,ac⟩:=c2;rw[al] at ab;cases ab;rw[an] at ac;have ei:ad=ag:=by injection ac with q1;show List.toArray_inj q1
    subst ei;have es:=Lr d1 d2;have gi:A9.getD i []=A9[i]:=by simp[hi]
    have gj:A9.getD j []=A9[j]:=by simp[I]
    rw[gi,gj] at es;show (dh a3).mp es;rw[U] at hi I;obtain⟨a1,ad,b1,c1,d1,_⟩:=yq O .none [] hi;obtain⟨a2,ag,b2,c2,d2,_⟩:=yq O .none [] I;obtain⟨o1,al,_,n1,an⟩:=c1;obtain⟨o2,ab,_,n2,ac⟩:=c2;rw[b1,b2];have gi:(A9.getD i []).length=m:=by right
    have gj:(A9.getD j []).length=m:=by right
    have l1:=d1.length;have l2:=d2.length;rw[af] at l1 l2;show W.kat_lt (s:='1') al an ab ac ?_;rw[show decide (ad.toArray.size<ag.toArray.size)=false from aJ (by simp;lia)];show Ln 0 d1 d2 (by rw[gi,gj]) ?_;rw[E7 hm hi I] at hC;show hC;rw[U] at Y;have a4:p.toList.Perm (List.range A9.length):=by have:=Y.perm.toList;simpa using this
    have a5:∀i∈p.toList,i<A9.length:=λi hi=>aL.mp ((a4.mem_iff).mp hi);show W.KasFin.intro F N (W.UpdF.head λq' bk=>(B q' bk).2.2) λbl c F'' N''=>?_;show#[_,A5,h bl c p.toList a4 ?_ (λb o hb hD e=>(N'' (b,o) (aj _ (bK.mpr #[yo.mpr #[hb,e],aD hD]))).1) F''.ns (N'' (BB,_) aq).1];have bo:p.size=A9.length:=Lc Y.perm;rw[ce];intro i j hi I bm;rw[af,aM] at hi I;have hk:=Y.lt_of bm '!';rw[dj,dj,eD,eD];have e1:p.getD i 0=p[i]:=by simp[hi]
    have e2:p.getD j 0=p[j]:=by simp[I]
    unfold key at hk;rw[e1,e2] at hk;rw[<- E7 hm (a5 _ '$') (a5 _ '$')];right
 show aW gZ #[_,ho,A5] gG ?_ (g8 _);show uM ho '!' λh' c kp hD=>#[_,A5,?_];show h h' c (List.range A9.length) (fO _) ?_ (λb o _ hb e=>kp b o hb e) ?_ ?_;grind;obtain⟨o,es,ep,g,k⟩:=as;show#[o,es,ep,kp _ _ (Ne.symm a0) g,k];rw[<- bc,uR];show hD
end
def LO{U:Type}{f:α->U}{l m:List U}(h:l.Perm m):∀ {xs:List α},m=xs.map f->∃B:List α,B.Perm xs/\l=B.map f:=by
 induction h with
 | nil=>
  right
 | cons x _ Y=>
  intro xs e
  cases xs with
  | nil=>cases e
  | cons y ys=>
   rw[ax] at e;injection e with e1 I;obtain⟨B,h1,h2⟩:=Y I;show#[y::B,h1.cons y,by right]
 | swap x y l=>
  intro xs e
  match xs,e with
  | [],e=>cases e
  | [_],e=>cases e
  | a::b::r,e=>
   rw[ax,ax] at e;injection e with e1 I;injection I with I e3;show#[b::a::r,.swap _ _ _,by grind]
 | trans _ _ J O=>
  intro xs e;obtain⟨B,h1,h2⟩:=O e;obtain⟨F,h3,h4⟩:=J h2;show#[F,h3.trans h1,h4]
def Bv (P:Aa)(w:Ab)(a:Addr)(xs:List (List Key×Addr)):HO:=.ext λh=>BR P w h a xs
def uG (xs:AE):List (List Key×Addr):=xs.map λq=>(q.1.map Sum.inl,q.2)
def LP(S:BR P w h a xs):zJ P w H h a (Bv P w a xs):=by
 show#[S,?_,λh1 h2 q k=>?_];obtain⟨o,_,_,_,B,_⟩:=S;show#[o,B];obtain⟨o,es,ep,t,B,r⟩:=q;show#[o,es,ep,t,k o B,r]
def LQ(h:(#[Array.replicate (n+1) o,{}]:Heap).get? d=some u):u=o:=by
 unfold Heap.get? at h;simp only[Array.getElem?_replicate] at h;split at h;cases h;split at h;show (bL h).symm;cases h
def TU(hs:∃h:Heap,h.get? d=some ob):(λh=>BR P w h a xs)≠λh=>h.get? d=some ob:=λe=>by
 obtain⟨F,I⟩:=hs;have h1:BR P w F a xs:=by rw[show BR P w F a xs=_ from congrFun e F];show I
 obtain⟨o,es,ep,t,U,J,Y,T,O⟩:=h1;have k:∀B:Nat,({ o with data:=.set es B t }:Obj)=ob:=λB=>by have h2:BR P w (#[Array.replicate (a+1) { o with data:=.set es B t },{}]:Heap) a xs:=#[{ o with data:=.set es B t },es,B,t,by simp[Heap.get?],J,A5,T,O];rw[show BR P w _ a xs=_ from congrFun e _] at h2;show (LQ h2).symm
 have:=congrArg Obj.data ((k 0).trans (k 1).symm);cases this
def Fa:∀A7,pnK (Bv P w a xs)=some A7->Be A7 (Sum.inr "at" : Key)=none:=λA7 e=>by
 unfold Bv pnK at e;dsimp only at e;rw[if_neg] at e;cases e;rintro⟨d,ob,hs,z⟩;show TU hs z
def Bw (P:Aa)(w:Ab)(H:Hp)(a:Addr)(ks:AF):Prop:=∃xs:AE,H a=some (Bv P w a (uG xs))/\(∀q∈xs,H q.2=some (.tup (q.1.map V.int)))/\ks=xs.map (·.1)/\ks.Nodup
def Bw.stay{ks:AF}(S:Bw P w H a ks)(h:zq H H'):Bw P w H' a ks:=by obtain⟨xs,h1,h2,B,F⟩:=S;show#[xs,h _ _ h1 Fa,λq I=>h.tup (h2 q I),B,F]
theorem Hw:∀ns:AG,(ns.map Sum.inl).map kV=ns.map V.int
 | []=>rfl
 | n::ns=>by rw[ax,ax,ax,Hw ns];rfl
def LR(I:'&')(h:H b=some (.tup '4')):(tk X.prog X.w).is s.heap (ns.map Sum.inl) b:=by
 obtain⟨B,J,⟨o,O,U,n,Y⟩,_⟩:=I.tuple (.of h);show#[o,B.toArray,n,O,U,Y,?_]
 have F:∀ {ns:AG} {B:AN},yf '4' B->ItemsAre (zV X.prog X.w) (ns.map Sum.inl) B:=by
  intro ns
  induction ns with
  | nil=>intro B r;cases r;show .nil
  | cons n ns ih=>
   intro B r
   cases r with
   | cons r1 r2=>
    obtain⟨t,rfl⟩:=r1;show .cons (Ju n t) (ih r2)
 show F J
def LS (P:Aa)(w:Ab):AT->Hp->VK->Prop:=λxs H Q=>∃ (a:Addr) (ks:AF) (m:Nat),xs=[.ref a]/\Bw P w H a ks/\ks.length<64/\1<=m/\(∀st∈ks,st.length=m)/\
 ∀ (ys:AT) (B:AF),IsL H (B.map stD) ys->B.Perm ks->(B.Pairwise λa b=>HT.lexLt a b=true)->New H (.lst ys) Q
theorem LT:∀ {xs:AE},(∀q∈xs,H q.2=some (.tup (q.1.map V.int)))->IsL H ((xs.map (·.1)).map stD) (xs.map λq=>V.ref q.2)
 | [],_=>rfl
 | q::xs,h=>#[_,_,A5,#[q.2,_,A5,h q aq,IsL.ints],LT λr B=>h r (aj _ B)]
theorem LU:∀ (xs:AE),yf (xs.map λq=>V.ref q.2) (xs.map λq=>Value.ref q.2)
 | []=>.nil
 | q::xs=>.cons A5 (LU xs)
def TV (hc:X.calm=true):CallQ X (.builtin "sorted") (LS X.prog X.w):=#[by
 intro A6 s G H xs us Q I r h;obtain⟨a,ks,m,rfl,⟨xs,hH,a7,rfl,bb⟩,bc,bd,hm,q⟩:=h;obtain⟨u,rfl,ru⟩:=B9 r;cases ru;obtain⟨⟨o,es,ep,t,ho,hx,hd,T,_⟩,_⟩:=(show zJ X.prog X.w H s.heap a (Bv X.prog X.w a (uG xs)) from I.hok a _ hH);have S:SetIs X.prog X.w s.heap a es ep t (uG xs):=#[#[o,ho,hx,hd],T];obtain⟨m0,al,_⟩:=id I.loc;have hsz:es.size=xs.length:=by rw[T.size];unfold uG;rw[af]
 rw[af] at bc
 have bk:∀b,(#[#v[],{}]:Heap).get? b=none:=λb=>by
  cases e:(#[#v[],{}]:Heap).get? b with
  | none=>rfl
  | some o'=>
   have:=aw e;simp at this
 have an:=LM (w:=X.w) (es:=es) a ep;have bl:es.toList=xs.map λq=>((tk X.prog X.w).hash (q.1.map Sum.inl),Value.ref q.2):=by rw[T.eq];unfold uG;rw[aK];rfl
 rw[bl] at an;obtain⟨B,O,bm⟩:=LO an A5;show kdu_sorted (h₀:=(#[#v[],{}]:Heap)) (L:=X.env.locals) (m:=m0) (news:=Cb s.heap X.env.locals) (TQ (t:=t) (xs:=uG xs) a ep) (I.ok.hd hc) #[al,λb o e=>(by right),aQ _] (λp hp=>?_) S (by rw[hsz,cy];lia) λBB h' as vs F N bo hl hP=>?_;obtain⟨b,o⟩:=p;have:=yo.mp hp;right
 have bs:vs=B.map λq=>Value.ref q.2:=by
  have b6:=O.length_eq;show iB (by right) λj h1 h2=>?_;obtain⟨e,he,hv⟩:=hP j vs[j] (am h1);rw[B1,bm,aF] at he;rw[af] at h2;rw[am h2] at he;rw[hv,dj,<- bL he]
 have kp:∀b o,b≠X.env.locals->s.heap.get? b=some o->h'.get? b=some o:=λb o hb e=>(N (b,o) (aj _ (yo.mpr #[hb,e]))).1;have a0:BB≠X.env.locals:=(N (BB,_) aq).2.1
 have bt:s.heap.get? BB=none:=by
  cases e:s.heap.get? BB with
  | none=>rfl
  | some o=>show absurd (bo (BB,o) (yo.mpr #[a0,e])) (cI _)
 have Y:H BB=none:=by
  cases e:H BB with
  | none=>rfl
  | some o=>
   obtain⟨o',a1⟩:=Lo (I.hok BB o e);grind
 have U:∀q∈B,H q.2=some (.tup (q.1.map V.int)):=λq hq=>a7 q ((O.mem_iff).mp hq)
 have a2:Paired (Co h' X.env.locals BB) vs (B.map (·.1)):=by
  rw[bs]
  have bx:∀ (l:AE),(∀q∈l,H q.2=some (.tup (q.1.map V.int)))->Paired (Co h' X.env.locals BB) (l.map λq=>Value.ref q.2) (l.map (·.1)):=by
   intro l
   induction l with
   | nil=>intro _;show .nil
   | cons q l ih=>
    intro hl;have hq:=hl q aq;obtain⟨ab,rv,⟨o',a1,b0⟩,_⟩:=I.tuple (.of hq);have a3:=ze hq I.free;show .cons #[q.2,ab,A5,#[o',kp _ _ a3 a1,b0],rv,a3,ze hq Y] (ih λr hr=>hl r (aj _ hr))
  show bx B U
 have ac:=O.map (·.1);show TR (s:={ s with heap:=h',toks:=as }) F.ns a0 (N (BB,_) aq).1 a2 (by right) bd (λst b1=>hm st ((ac.mem_iff).mp b1)) (ac.nodup_iff.mpr bb) λb7 c p hp a4 b2 b3 a5=>?_;have b4:∀i∈p,i<B.length:=λi hi=>by have:=aL.mp ((hp.mem_iff).mp hi);rwa[af] at this
 have J:(p.map λi=>(B.map (·.1)).getD i [])=(p.map λi=>B.getD i ([],0)).map (·.1):=by right
 have ad:(p.map λi=>vs.getD i .none)=(p.map λi=>B.getD i ([],0)).map λq=>Value.ref q.2:=by right
 have b5:∀q∈(p.map λi=>B.getD i ([],0)),H q.2=some (.tup (q.1.map V.int)):=λq hq=>by
  obtain⟨i,hi,rfl⟩:=aH.mp hq;have h1:=b4 i hi;have:B.getD i ([],0)=B[i]:=by simp[h1]
  rw[this];show U _ (bj h1)
 rw[ad] at a5;rw[J] at a4;have ag:p.length=xs.length:=by rw[hp.length_eq,aZ,af,O.length_eq]
 have I':=Lp I al (ys:=(p.map λi=>B.getD i ([],0)).map λq=>V.ref q.2) (λb o hb e=>b2 b o hb (by grind) (kp b o hb e)) b3 bt Y a5 (LU _) (by rw[af,af,ag,cy];lia) as;show#[.ref BB,_,I',A5,(q _ ((p.map λi=>B.getD i ([],0)).map (·.1)) (LT b5) ?_ a4).at Y];show List.Perm.trans ?_ ac;rw[<- J];have:=hp.map λi=>(B.map (·.1)).getD i [];rwa[uR] at this]
def TW (elt target iter:Expr)(ifs:AO)(scope:Scope)(pos:Pos)(it acc:Value)(env:Env):
  compTurn (.SetComp elt ['9'] scope pos) 0 it acc env=(do
   standAt iter.pos
   match <- pyNext it with
   | none=>pure (.done .next)
   | some v=>
    letOwnedTupleGo target it v
    assign target env v
    let mut ok:=true
    for c in ifs do
     if ok then ok <- isTrue c env (eval c env)
    if ok then
     (do let v <- eval elt env;standAt elt.pos;let _ <- call (.builtin "set.add") [acc,v])
    again (.compLoop (.SetComp elt ['9'] scope pos) 0 it acc env)):=by rfl
section
variable{A:Ae}{R:Result->AZ->Prop}
def uA{elt target iter ifs zu scope pos it acc env}(h0:codeAny '/' A (.compLoop (.SetComp elt ('9'::zu) scope pos) 0 it acc env) R s)(h:Ag prog w A (pyIter it) (λit' s'=>codeAny '/' A (.compLoop (.SetComp elt ('9'::zu) scope pos) 0 it' acc env) R s')
   (notedBy '/' A env λx s'=>R (.error x) s') s):
  codeAny '/' A (.compStart (.SetComp elt ('9'::zu) scope pos) 0 it acc env) R s:=by
 show eY ?_;show wpAny_notedAt ?_;unfold compStart;show aa (bB (wpAny_ite ?_));split
 first
  | show aa (by grind)
  | show ae (And.intro A5 h0)
 first
  | show aa (by grind)
  | (show aa (cD ?_);show aa (bw (aa (aE h (λit' s' h'=>ae (And.intro A5 h')) λ_ _ x=>x))))
def TX{acc:_}(I:Nat->AZ->Prop)(turn:∀n s,I n s->Ag prog w A (pyNext it) (λr s₁=>match r with
   | none=>R (.ok .next) s₁
   | some v=>Ag prog w A (letOwnedTupleGo target it v) (λ_ s₂=>Ag prog w A (assign target env v) (λ_ s₃=>
     Ag prog w A 'A' (λok s₄=>
      if ok=true then Ag prog w A (eval elt env) (λx s₅=>
       Ag prog w A (call (.builtin "set.add") [acc,x]) (λ_ s₆=>∃m,m<n/\I m s₆) '%' s₅) '%' s₄
      else ∃m,m<n/\I m s₄) '%' s₃) '%' s₂) '%' s₁) '%' s)(n:Nat)(h:I n s):
  codeAny '/' A (.compLoop (.SetComp elt ['9'] scope pos) 0 it acc env) R s:=by
 show dX A5 I (λn s hI=>?_) n h;show eJ ?_;rw[TW];show aa '?'
 cases r with
 | none=>show ae h₁
 | some v=>
  show aa (aE h₁ (λ_ s₂ h₂=>?_) λ_ _ h'=>h'.elim);show aa '>'
  cases ok with
  | false=>show ae #[A5,h₄]
  | true=>
   show aa (aa (aE h₄ (λx s₅ h₅=>aa (bw (aa (aE h₅ (λ_ s₆ h₆=>ae (ae #[A5,h₆])) λ_ _ h'=>h'.elim)))) λ_ _ h'=>h'.elim))
def TY(h:Q (.ref s.heap.objs.size) { s with heap:=s.heap.push { cls:=.type "set",dict:=none,data:=.set #v[] 0 (.fresh 0 0 (!w.params.followText "set-order")) } }):Ag prog w A (newSet (.type "set")) Q E s:=by unfold newSet setsByText;show aa (aa (bB (ae ?_)));simp only[newObj];show aa (wpAny_alloc (ae h))
def TZ (h:Heap):BR prog w (h.push { cls:=.type "set",dict:=none,data:=.set #v[] 0 (.fresh 0 0 (!w.params.followText "set-order")) }) h.objs.size []:=by
 show#[_,#v[],0,_,ar _ A5,#[A5,A5,A5],A5,#[A5,fM,A5,λi j _ B=>?_,λi j e=>?_,A5,.inl A5,aQ _,A5,A5,λi q e=>?_],by change 0*5<7*3;decide];show absurd B (dJ _);simp[SetTable.fresh] at e;simp at e
end
theorem x6:∀ {ns B:AG},ns.map (Sum.inl:Int->Key)=B.map Sum.inl->ns=B
 | [],[],_=>rfl
 | [],_::_,e=>by cases e
 | _::_,[],e=>by cases e
 | n::ns,m::B,e=>by rw[ax,ax] at e;injection e with F I;rw[Sum.inl.inj F,x6 I]
def T6{b:Addr}{ks:AF}{Q:AA}(hu:X.A.units+1<cLine)(I:'&')(S:Bw X.prog X.w H acc ks)(hb:H b=some (.tup '4'))(hn:ks.length<300)(h:∀o ks' s',Bw X.prog X.w (upd H acc o) acc ks'->(∀x,x∈ks'↔x=ns\/x∈ks)->ks'.length<=ks.length+1->Inv X A6 G (upd H acc o) s'->Q .none s'):
  Af X (call (.builtin "set.add") [.ref acc,.ref b]) Q X.xe s:=by
 obtain⟨xs,hH,hel,rfl,hnd⟩:=S;have hS:=(show zJ X.prog X.w H s.heap acc (Bv X.prog X.w acc (uG xs)) from I.hok acc _ hH).1;obtain⟨o,es,ep,t,ho,hx,hd,T,hroom⟩:=id hS;show aW F.slot_set_add #[o,ho,hx.1] F.entry_set_add ?_ (F.args_set_add_2 _ _);unfold Builtin.«set.add»;show aa (m:=Builtin.Frozenset.oneOther "add" #[[.ref acc,.ref b],[]]) (ae ?_);rw[af] at hn;show aa (TB (A:=X.A.in1) (xs:=uG xs) (ns:=ns) (bR (ak _) hu) hS (LR I hb) (λq hq=>?_) (by unfold uG;rw[af];show hn) λr h' n xs' sb S' hin hout=>?_);unfold uG at hq;obtain⟨q',hq',rfl⟩:=aH.mp hq;show LR I (hel q' hq')
 ·
  have mem_key:∀ {l:AE},(ns.map Sum.inl)∈(uG l).map (·.1)↔ns∈l.map (·.1):=by
   intro l;unfold uG;rw[aK,aH,aH];constructor;rintro⟨q,hq,e⟩;show#[q,hq,?_];have e':q.1.map (Sum.inl:Int->Key)=ns.map Sum.inl:=e;show x6 e';rintro⟨q,hq,rfl⟩;show#[q,hq,A5]
  have fin:∀xs2:AE,xs'=uG xs2->(∀q∈xs2,q∈xs\/q=(ns,b))->(∀x,x∈xs2.map (·.1)↔x=ns\/x∈xs.map (·.1))->(xs2.map (·.1)).Nodup->xs2.length<=xs.length+1->wpAny '5' X.A.in1 (do ret .none) (λfin s'=>∃v,fin = .done (.ret v)/\Q v s') X.xe { s with heap:=h',toks:=n }:=by
   rintro xs2 rfl hsub hmem hnd2 hlen
   have hel2:∀q∈xs2,H q.2=some (.tup (q.1.map V.int)):=λq hq=>by
    rcases hsub q hq with z | z;show hel q z;rw[z];show hb
   have hea2:∀q∈xs2,q.2≠acc:=λq hq=>Dy (hel2 q hq) hH (by intro z;cases z);show ae #[.none,A5,h (Bv X.prog X.w acc (uG xs2)) (xs2.map (·.1)) _ #[xs2,zg,λq hq=>by rw[zc (hea2 q hq)];show hel2 q hq,A5,hnd2] hmem (by right) ?_];show I.write (e:=acc) (by rw[hH];trivial) (.inl A5) (λc u hc q=>sb.extBut c u hc q) ?_ (LP S');obtain⟨o',_,_,_,ho',_⟩:=S';show#[o',ho']
  by_cases hm:ns∈xs.map (·.1);have:=hin (mem_key.mpr hm);show fin xs this (λq hq=>.inl hq) (λx=>#[.inr,λz=>z.elim (λe=>e ▸ hm) id]) hnd (Nat.le_succ _);have hp:=hout λz=>hm (mem_key.mp z);have hk:((ns.map Sum.inl,b)::uG xs)=uG ((ns,b)::xs):=rfl;rw[hk] at hp;obtain⟨xs2,hp2,e2⟩:=LO hp A5;show fin xs2 e2 (λq hq=>?_) (λx=>?_) ?_ ?_;grind;rw[(hp2.map (·.1)).mem_iff,ax,au];rw[(hp2.map (·.1)).nodup_iff,ax,dG];show#[hm,hnd];rw[hp2.length_eq,aS];show ak _
def T7(elt gens scope pos):eval (.SetComp elt gens scope pos) env=comprehension (.SetComp elt gens scope pos) scope env (firstIterPos gens pos) (newSet (.type "set")) (firstAsync gens) (firstIter gens env):=rfl
def setT (P:Aa)(w:Ab)(g:TG)(ti:TT)(te:TE)(acc:Addr)(N:St->Hp->Prop)(x:V)(G:St)(H:Hp):Prop:=
 g x G H λB H3=>ti B H3 λI H4=>if I=true then te B H4 λv H5=>∃b ns ks,v = .ref b/\H5 b=some (.tup '4')/\Bw P w H5 acc ks/\ks.length<300/\
  (∀o F,Bw P w (upd H5 acc o) acc F->(∀x,x∈F↔x=ns\/x∈ks)->F.length<=ks.length+1->N B (upd H5 acc o)) else N B H4
def setG (P:Aa)(w:Ab)(J:It)(g:TG)(ti:TT)(te:TE)(acc:Addr)(Q:VK)(G:St)(H:Hp):Prop:=∃W:Nat->Nat->St->Hp->Prop,(∃m,W 0 m G H)/\
 ∀i m B H',W i m B H'->(J.stop i H'/\Q (.ref acc) H')\/(J.go i H'/\∃N:St->Hp->Prop,(∀ F H2,N F H2->∃I,I<m/\W (i+1) I F H2)/\∀x H2,J.yld i H' x H2->setT P w g ti te acc N x B H2)
def Hx (P:Aa)(w:Ab)(wi:TI)(g:TG)(ti:TT)(te:TE)(A8:List '0'):TE:=λG H Q=>wi G H λJ H1=>∀acc,H1 acc=none->Bw P w (upd H1 acc (Bv P w acc [])) acc []->setG P w J g ti te acc Q (xw G A8) (upd H1 acc (Bv P w acc []))
section
variable{pos:Pos}{g:TG}{Q:VK}
def T8 (hu:X.A.units+1<cLine)(O:Opn X scope A8 Fam)(hc:X.calm=true)(hi:PI X tg iter wi)(hg:∀X',Fam X'->PG X' tg g)(ht:∀X',Fam X'->PTs X' ifs ti)(he:∀X',Fam X'->PE X' elt te)(hs:gM iter X)(I:'&')(h:Hx X.prog X.w wi g ti te A8 G H Q)(U:EG X A6 G use Qp Q):
  Af X (comprehension (.SetComp elt [#[tg,iter,ifs,0]] scope pos) scope X.env ipos (newSet (.type "set")) false (eval iter X.env) use) Qp X.xe s:=
 uB (ob:={ cls:=.type "set",dict:=none,data:=.set #v[] 0 (.fresh 0 0 (!X.w.params.followText "set-order")) }) (o0:=λa=>Bv X.prog X.w a []) (Fin:=λacc H=>Q (.ref acc) H) (B:=λX' acc P s=>wpAny '8' X'.A (eval elt X'.env) (λx s5=>wpAny '8' X'.A (call (.builtin "set.add") [.ref acc,x]) (λ_ s6=>P s6) '%' s5) '%' s) (tb:=λacc Nx G H=>te G H λv H5=>∃ (b:Addr) (ns:AG) (ks:AF),v = .ref b/\H5 b=some (.tup '4')/\Bw X.prog X.w H5 acc ks/\ks.length<300/\(∀o F,Bw X.prog X.w (upd H5 acc o) acc F->(∀x,x∈F↔x=ns\/x∈ks)->F.length<=ks.length+1->Nx G (upd H5 acc o))) O hc A5 hs (λ_ _ _ _ _ h0 h1=>uA h0 h1) (λ_ _ _ _ _ _ I Y n h=>TX I Y n h) (λs Q h=>TY h) (λ_ _=>LP (TZ _)) hi hg ht (λX' hF pX wX AX _ xX acc pl s G H Nx P I q k=>by have e9:=he X' hF pl s G H _ I q;rw[xX] at e9;show thn e9 ?_;rintro u2 ad ⟨v,H10,I10,ac,b,ns,ks,rfl,hb,S,hn,nx⟩;cases ac;have ab:=T6 (X:=X') (Q:=λ_ s'=>P s') (by rw[AX];show hu) I10 (by right) hb hn λo F s' S' hm hl I'=>k _ _ _ I' (nx o F (by right) hm hl);rw[xX] at ab;show ab) I h (λJ H1 acc q hn=>q acc hn #[[],zg,λq hq=>by simp at hq,A5,fM]) U
end
def T9(B:X.A.units+1<cLine)(F:X.calm=true)(c:CompOk X scope N A8)(hi:QI X tg iter wi)(J:∀C s H ex,QG ')' tg g)(O:∀C s H ex,QTs ')' ifs ti)(U:∀C s H ex,QE ')' elt te)(hs:gM iter X:=by intro _;rfl):QE X (.SetComp elt [#[tg,iter,ifs,0]] scope pos) (Hx X.prog X.w wi g ti te A8):=#[λA6 s G H Q I h=>by
 rw[T7];show T8 B (uJ c) F hi.run (A_ λC s H ex=>(J C s H ex).run) (A_ λC s H ex=>(O C s H ex).run) (A_ λC s H ex=>(U C s H ex).run) hs I h λ_ _ _ _ _ Y hb q=>Gv Y hb q]
def T_ (H:Hp):yL H H:=λ_ _ z=>z
structure FunD (K:AH)(x qual:Str)(st:Stmt)(f:Addr)(fd:Ac):Prop where
 ex:∃ (oc:Value) (od:Option Addr) (dV kV doc pm:Value) (an:Option Addr) (cdv ct:Value) (osl:Array AJ),
  fd=PySem.W.fnOf x qual (yH st) (zE st) (zb st) dV kV doc pm an cdv ct/\K.lookup f=some #[oc,od,.func fd,osl]/\PySem.W.codeIn K cdv qual=true
 kp:PySem.W.keepIn K (.ref f)=true
def FunD.okQ{P:Aa}{mg:AI}{x:Str}{st:Stmt}{f:Addr}(F:FunD K x qual st f fd)(S:FnScope N ps (zb st))(J:∀vs H Q E,sp vs H Q E->vs.length=ps.length)(I:∀B A outer s H vs Q E,Room k (A.deeper (envOfC qual (zb st) s.heap.objs.size f B))->sp vs H Q E->
   ∃t,QSs '='.nox (zE st) t/\t { nx:=λ_ H'=>Q .non H',rt:=Q } (yS N vs) H):FnOk P w K mg base CX0 (k+1) f fd ps sp:=by
 obtain⟨oc,od,dV,kV,Y,pm,an,B,ct,ab,rfl,lk,O⟩:=F.ex;show Ez lk O S J λA outer s H vs Q E hr U=>?_;obtain⟨t,h,q⟩:=I B A outer s H vs Q E hr U;show#[t,h.run.nox,q]
structure DfnD (K:AH)(mg:AI)(x:Str)(st:Stmt)(ps:AM)(ds:AN)(f:Addr)(fd:Ac):Prop where
 F:FunD K x x st f fd
 b:BY K fd ps []
 bd:BY K fd ps ds
 m:mg x=some (.ref f)
def Ua{x:Str}{st:Stmt}{ds:AN}{dv:AT}{f:Addr}{pos:Pos}(BB:DfnD X.K X.mg x st ps ds f fd)(O:yf dv ds)(BA:FnOk X.prog X.w X.K X.mg X.base CX0 j f fd ps sp)(U:Room k X.A)(Y:QA X (e::es) t)(B:j<=k:=by ext)(hg:Gl X x:=by rfl)(I:Ah x:=by ext)(he:gy e es X:=by rfl)(J:iI pos es X:=by rfl):
  QE X '<' (Cz sp dv E0 t):=
 #[DB BA (U.mono B) hg BB.m BB.F.kp BB.bd O Kp Y.run I he J]
def Ub{x:Str}{st:Stmt}{f:Addr}{J:Option Addr}{O kV F U B:Value}(l:K.lookup f=some #[Y,od,.func (PySem.W.fnOf x qual (yH st) (zE st) (zb st) O kV F U J B ct),I])(c:PySem.W.codeIn K B qual=true)(k:PySem.W.keepIn K (.ref f)=true):FunD K x qual st f (PySem.W.fnOf x qual (yH st) (zE st) (zb st) O kV F U J B ct):=#[#[Y,od,O,kV,F,U,J,B,ct,I,A5,l,c],k]
def LV{f:Addr}(l:K.lookup f=some #[J,F,.func fd,I]){O:Value}{B:AK}(hd:fd.defaults = .ref T)(ht:K.lookup T=some #[O,U,.seq B n,Y])(h:∀us:AN,(us++ds).length=ps.length->∃k:Option AK->Sem (List (Str×Value)),bindArgs fd #[us,[]]=seqItems? fd.defaults >>= k/\k (some B)=pure (ps.zip (us++ds))):BY K fd ps ds:=λs us KX hl=>by
 obtain⟨k,h1,h2⟩:=h us hl;show .of_defaults hd (KX _ _ ht) A5 h1 h2
open PySem.W PySem.Calls
section
variable{A:Ae}{es:Array DictEntry}
def Cd (h:Heap)(d:Addr)(es:Array DictEntry)(ep:Nat):Prop:=∃o,h.get? d=some o/\o.ExactDict/\o.data = .dict es ep
def Cd.typeIs(x:Cd s.heap d es ep):s.TypeIs (.ref d) "dict" := let ⟨o,ho,hc,_⟩:=x;#[o,ho,hc.1]
def Uc(Y:(d==sysModules)=false)(J:Cd s.heap d es ep)(U:Q (.ref s.heap.objs.size) { s with heap:=s.heap.push { cls:=.type "dict_keyiterator",data:=.fields #v[.ref d,.int 0 0,.int es.size 0,.int ep 0] } }):
  Ag prog w A (pyIter (.ref d)) Q E s:=by
 obtain⟨o,O,hc,B⟩:=id J;have I:=J.typeIs;show io I PySem.F.slot_dict_iter (aW PySem.F.slot_dict_iter I PySem.F.entry_dict_iter ?_ (PySem.F.args_dict_iter_1 _));unfold Builtin.«dict.__iter__»;show aa ?_;unfold Builtin.Dict.dictSlotNone;show aa (wpAny_notOrdered_dict I ?_);show ae ?_;change wpAny _ _ (Builtin.Dict.showsAll d >>= _) _ _ s;unfold Builtin.Dict.showsAll;rw[if_neg (by right)];show aa (ae ?_);show aa (ip O B ?_);show aa (wpAny_dictEpoch O B ?_);show aa (bh (ae #[_,A5,"dict_keyiterator",_,#[_,ar _ A5,A5],PySem.F.slot_dict_keyiterator_next.lookup,?_]));simpa [rawInt] using U
def Ud{e:_}(B:s.heap.IsKeyIter it d i es.size ep)(hm:Cd s.heap d es ep)(hx:es[i]?=some e)(hQ:∀h',h'.IsKeyIter it d (i+1) es.size ep->Heap.SameBut it s.heap h'->Q (.done (.ret e.key)) '1'):Ag prog w A (Builtin.«dict_keyiterator.__next__» { pos:=[Value.ref it] }) Q E s:=by
 obtain⟨o,Y,hc,U⟩:=id B;obtain⟨od,I,ab,J⟩:=id hm;show aa (ae ?_);show aa ?_;show aa ?_
 first | show aa (cQ B.typeIs (ae ?_)) | show aa (by grind)
 show aa (gY Y U ?_);have O:Builtin.Dict_items.ownsTuple "dict_keyiterator" = false:=by ext
 simp only[O,aN,if_false];show wpAny _ _ (if (Value.ref d==Value.none)=true then _ else _) _ _ s;rw[if_neg (by grind)];show aa (ae ?_);show aa (ip I J ?_);rw[if_neg '$'];show aa (ae ?_);show aa (wpAny_dictEpoch I J ?_);rw[if_neg '$'];show ae ?_;simp only[show ¬ ((i:Int)<0) from by lia,if_false,bg,hx];show aa ?_
 first | show aa (cQ B.typeIs (ae ?_)) | show aa (by grind)
 show aa (wpAny_isOneOf_keyiter B.typeIs ?_);change wpAny _ _ (setField (.ref it) 1 (rawInt ((i:Int)+1)) >>= _) _ _ s;show aa (bW Y U '$' ?_)
 have F:(s.heap.update it (Obj.mapFields (·.setIfInBounds 1 (rawInt ((i:Int)+1))))).IsKeyIter it d (i+1) es.size ep:=
  #[_,bJ _ Y (dY (cA U _)),(fJ ..).trans hc,by rw[cA U];simp[rawInt]]
 show aa (bQ ?_);show aa (wpAny_isOneOf_keyiter (s:={ s with heap:=s.heap.update it (Obj.mapFields (·.setIfInBounds 1 (rawInt ((i:Int)+1)))) }) F.typeIs ?_);show ae (ae (hQ _ F (bn ..)))
def Ue{e:_}(B:s.heap.IsKeyIter it d i es.size ep)(F:Cd s.heap d es ep)(I:es[i]?=some e)(J:∀h',h'.IsKeyIter it d (i+1) es.size ep->Heap.SameBut it s.heap h'->Q (some e.key) '1'):Ag prog w A (pyNext (.ref it)) Q E s:=by
 unfold pyNext
 show aa (dM (wpAny_callSpecial?_slot (name:=Str.ofString "__next__") B.typeIs cw
  (aW cw B.typeIs eL (Ud B F I λh' a b=>#[_,A5,ae (J h' a b)]) (eG _))))
def Uf(Y:A.handled=none)(B:s.heap.IsKeyIter it d es.size es.size ep)(hm:Cd s.heap d es ep)(hE:∀h' x,Heap.ExtBut it s.heap h'->(∃o,h'.get? x=some o/\o.cls = .type "StopIteration")->E (.ref x) '1'):Ag prog w A (Builtin.«dict_keyiterator.__next__» { pos:=[Value.ref it] }) Q E s:=by
 obtain⟨o,O,hc,U⟩:=id B;obtain⟨od,F,ab,I⟩:=id hm;show aa (ae ?_);show aa ?_;show aa ?_
 first | show aa (cQ B.typeIs (ae ?_)) | show aa (by grind)
 show aa (gY O U ?_);have J:Builtin.Dict_items.ownsTuple "dict_keyiterator" = false:=by ext
 simp only[J,aN,if_false];show wpAny _ _ (if (Value.ref d==Value.none)=true then _ else _) _ _ s;rw[if_neg (by grind)];show aa (ae ?_);show aa (ip F I ?_);rw[if_neg '$'];show aa (ae ?_);show aa (wpAny_dictEpoch F I ?_);rw[if_neg '$'];show ae ?_;simp only[show ¬ ((es.size:Int)<0) from by lia,if_false,bg,Array.getElem?_eq_none (ak es.size)];show aa ?_
 first | show aa (cQ B.typeIs (ae ?_)) | show aa (by grind)
 change wpAny _ _ (setField (.ref it) 0 .none >>= _) _ _ s;show aa (bW O U '$' ?_);change wpAny _ _ (newExc (.type "StopIteration") [] >>= _) _ _ _;show aa ?_;simp only[newExc,newTuple];show aa (bh ?_ (by size_fits));show aa (m:=firstArgMember _ _) (wpAny_of_eq (a:=Value.none) (by first | rfl | (simp only[firstArgMember];rfl)) ?_);show bh ?_ (by size_fits);simp only[raiseNew];show aa (iq ?_);rw[Y];show aa (ae (wpAny_throw ?_));show hE _ _ (((bn ..).extBut.push _).push _) #[_,ar _ A5,A5]
def Ug(F:A.handled=none)(B:s.heap.IsKeyIter it d es.size es.size ep)(I:Cd s.heap d es ep)(J:∀h',Heap.ExtBut it s.heap h'->Q none '1'):Ag prog w A (pyNext (.ref it)) Q E s:=by
 unfold pyNext
 show aa (dM (wpAny_callSpecial?_slot (name:=Str.ofString "__next__") B.typeIs cw
  (aW cw B.typeIs eL (Uf F B I λh' x a b=>?_) (eG _))))
 show aa (cN (T := "StopIteration") (b:=true) b fN (ae (J _ a)))
end
def BS (A7:List (AG×V)):List (List Key×V):=A7.map λq=>(q.1.map Sum.inl,q.2)
def dtO (A7:List (AG×V)):HO:=.dT (BS A7)
def Uh (A7:List (AG×V))(st:AG):Be (BS A7) (st.map Sum.inl)=Be A7 st:=by
 unfold BS
 induction A7 with
 | nil=>rfl
 | cons q r B=>
  rw[ax];by_cases e:q.1=st;rw[xl (p:=q) e,xl (p:=(q.1.map Sum.inl,q.2)) (by rw[e])];rw[xk (p:=q) e,xk (p:=(q.1.map Sum.inl,q.2)) (λz=>e (x6 z)),B]
def Ui (A7:List (AG×V))(st:AG)(v:V):u6 (BS A7) (st.map Sum.inl) v=BS (u6 A7 st v):=by
 have B:∀q:AG×V,decide ((q.1.map (Sum.inl:Int->Key))=st.map Sum.inl)=decide (q.1=st):=λq=>by rw[bS,cH,cH];show#[x6,λz=>by rw[z]]
 have F:((BS A7).any λkv=>decide (kv.1=st.map Sum.inl))=A7.any λkv=>decide (kv.1=st):=by unfold BS;rw[iG];congr 1;funext q;show B q
 unfold u6;rw[F];by_cases h:(A7.any λkv=>decide (kv.1=st))=true;rw[if_pos h,if_pos h];unfold BS;rw[aK,aK];show eM λq _=>?_;grind;rw[if_neg h,if_neg h];unfold BS;right
def Bn.i{A7:List (AG×V)}{st:AG}(e:H a=some (dtO A7))(B:H b=some (.tup (st.map V.int)))(F:A7.length<sizeLine):Bn H a (.ref b) v (upd H a (dtO (u6 A7 st v))):=by have:=Bn.t (k:=st.map Sum.inl) (v:=v) e (by rw[Hw];show B) (by unfold BS;rw[af];show F);rwa[Ui] at this
abbrev Up' (l:AF):Prop:=l.Pairwise λa b=>HT.lexLt a b=true
def CD (x:AG):AF->AF
 | []=>[x]
 | y::r=>if HT.lexLt x y then x::y::r else if x=y then y::r else y::CD x r
def CF (l:AF):AF:=l.foldr CD []
theorem Hy{x z:AG}:∀ {l:AF},z∈CD x l↔z=x\/z∈l
 | []=>by change z∈[x]↔_;simp
 | y::r=>by
  unfold CD;split;simp;split;right;rw[au,Hy,au];grind
theorem yc{z:AG}:∀ {l:AF},z∈CF l↔z∈l
 | []=>Iff.rfl
 | x::l=>by change z∈CD x (CF l)↔_;rw[Hy,yc,au]
theorem LW{x:AG}{m:Nat}(I:x.length=m):∀ {l:AF},(∀y∈l,y.length=m)->Up' l->Up' (CD x l)
 | [],_,_=>eV _ _
 | y::r,J,F=>by
  have O:=J y aq;rw[Up',aR] at F;unfold CD;split
  ·rename_i h;show aR.mpr #[λz B=>?_,aR.mpr F];rcases au.mp B with rfl | B
   show h;show EZ (I.trans O.symm) (by grind) h (F.1 z B)
  ·rename_i h;split
   show aR.mpr F
   ·rename_i U;show aR.mpr #[λz B=>?_,LW I (λz B=>J z (aj _ B)) F.2];rcases Hy.mp B with rfl | B
    ·rcases E4 (a:=z) (b:=y) (I.trans O.symm) with e | e | e
     all_goals right
    show F.1 z B
def Uj{l:AF}(h:∀y∈l,y.length=m):∀y∈CF l,y.length=m:=λy B=>h y (yc.mp B)
theorem Fb:∀ {l:AF},(∀y∈l,y.length=m)->Up' (CF l)
 | [],_=>.nil
 | x::l,h=>LW (h x aq) (Uj λy B=>h y (aj _ B)) (Fb λy B=>h y (aj _ B))
theorem LX:∀ {l l':AF},(∀y∈l,y.length=m)->Up' l->Up' l'->(∀z,z∈l↔z∈l')->l=l'
 | [],[],_,_,_,_=>rfl
 | [],y::r,_,_,_,h=>absurd ((h y).mpr aq) '$'
 | x::l,[],_,_,_,h=>absurd ((h x).mp aq) '$'
 | x::l,y::r,I,J,B,h=>by
  rw[Up',aR] at J B;have F:∀z∈y::r,z.length=m:=λz O=>I z ((h z).mpr O)
  have e:x=y:=by
   rcases au.mp ((h x).mp aq) with e | e;show e;rcases au.mp ((h y).mpr aq) with U | U;show U.symm;have h1:=B.1 x e;have h2:=J.1 y U;have h3:=EZ ((I x aq).trans (F y aq).symm) ((F y aq).trans (I x aq).symm) h2 h1;rw[zX] at h3;cases h3
  subst e;have Y:∀ {l:AF},(∀z∈l,HT.lexLt x z=true)->x∉l:=λhl z=>by have:=hl x z;rw[zX] at this;cases this
  congr 1;show LX (λz O=>I z (aj _ O)) J.2 B.2 λz=>?_;grind
def Uk{l l':AF}(B:∀y∈l,y.length=m)(F:Up' l')(h:∀z,z∈l'↔z∈l):l'=CF l:=
 LX (λy I=>B y ((h y).mp I)) F (Fb B) λz=>(h z).trans yc.symm
def Ul{l:AF}(h:Up' l):l.Nodup:=h.imp λ{a b} B e=>by subst e;rw[zX] at B;cases B
def CG (bk:AW)(st hs:AG):AF:=(bk.filter λx=>uu st x&&!hs.contains x.b).map λx=>chg st x.b x.r
def ux (bk:AW)(st hs:AG):AF:=CF (CG bk st hs)
def yX{st z:AG}:z∈CG bk st hs↔∃x∈bk,uu st x=true/\x.b∉hs/\z=chg st x.b x.r:=by
 unfold CG;grind
def Fc{st:AG}(B:∀x∈bk,WishOk rm x)(I:st.length=rm.length):∀z∈CG bk st hs,z.length=rm.length:=λz J=>by obtain⟨x,F,_,_,rfl⟩:=yX.mp J;have h1:=(B x F).b1;rw[GW (B x F).b0 '!'];show I
theorem Hz [BEq α][LawfulBEq α]:∀ {l l':List α},l.Nodup->(∀x∈l,x∈l')->l.length<=l'.length
 | [],_,_,_=>aQ _
 | a::l,l',B,h=>by
  rw[dG] at B;have:=Hz (l:=l) (l':=l'.erase a) B.2 λx I=>by grind
  grind
def LY{st:AG}{ks:AF}(B:∀x∈bk,WishOk rm x)(h8:rm.length<=8)(F:∀r∈rm,2<=r/\r<=4)(I:ks.Nodup)(J:∀z∈ks,z∈CG bk st hs):ks.length<=32:=by
 have:=Hz (l':=(List.range 32).map λc=>chg st ((c / 4:Nat):Int) ((c % 4:Nat):Int)) I λz O=>by obtain⟨x,U,_,_,rfl⟩:=yX.mp (J z O);have o:=B x U;have h1:=o.b1;have h2:=o.b0;have Y:=o.r0;have h4:=o.r1;have h5:=(ES F h2 h1).2;show aH.mpr #[4*x.b.toNat+x.r.toNat,aL.mpr '!',?_];rw[show (4*x.b.toNat+x.r.toNat) / 4=x.b.toNat by lia,show (4*x.b.toNat+x.r.toNat) % 4=x.r.toNat by lia,bF h2,bF Y]
 right
def Um{st:AG}(B:∀x∈bk,WishOk rm x)(F:rm.length<=8)(I:∀r∈rm,2<=r/\r<=4)(J:st.length=rm.length):(ux bk st hs).length<=32:=
 LY (hs:=hs) B F I (Ul (Fb (Fc B J))) λz O=>yc.mp O
end L2
namespace L2
open PyProof.Rows PySem.SeqAt
theorem uS:∀ds:AS,Dt.toWs ds=ds.map Dt.toW
 | []=>rfl
 | d::ds=>by rw[Dt.toWs,ax,uS ds]
theorem LZ:∀ds:List PySem.W.Dat,PySem.W.kqdPs ds=ds.map PySem.W.kqdP
 | []=>by simp[PySem.W.kqdPs]
 | d::ds=>by rw[ax,<- LZ ds];simp[PySem.W.kqdPs]
def HA (B:Bool):R2:=λx y H Q=>∃d ds,Is H d x/\(Is H (.lst ds) y\/Is H (.tup ds) y)/\d.eqOk/\(Dt.lst ds).eqOk/\∀b:Bool,(b=true↔d∈ds)->Q (.bl (if B then !b else b)) H
def HB(h:(Dt.lst ds).eqOk):∀d∈ds,PySem.W.kqdOk 7 d.toW=true:=λd B=>by
 have h':PySem.W.kqdOk 8 (Dt.lst ds).toW=true:=h;simp only[Dt.toW,PySem.W.kqdOk,bu,uS] at h';right
def L4(B:d.eqOk)(hs:(Dt.lst ds).eqOk):((PySem.W.kqdPs (Dt.toWs ds)).any λy=>PyData.eqv y (PySem.W.kqdP d.toW))=true↔d∈ds:=by
 rw[LZ,uS,aK,iG,iC];constructor;rintro⟨e,F,h⟩;have:=(ef 7 e.toW d.toW 8 (HB hs e F) B).mp h;rw[<- DI this];show F;intro h;show#[d,h,(ef 7 d.toW d.toW 8 (HB hs d h) B).mpr A5]
def Uo(h:PySem.W.kqdOk 7 d=true):PySem.W.kqdOk 8 d=true:=by
 have B:∀n d,PySem.W.kqdOk n d=true->PySem.W.kqdOk (n+1) d=true:=by
  intro n
  induction n with
  | zero=>intro d h;cases d <;> simp_all [PySem.W.kqdOk]
  | succ n F=>
   intro d h;cases d <;> simp_all [PySem.W.kqdOk]
 show B 7 d h
def Uq{d:Dt}{ds:AS}{u:Nat}(J:d.eqOk)(hs:(Dt.lst ds).eqOk)(Y:u+64<cLine):PyData.canLayAll0 (PySem.W.kqdPs (Dt.toWs ds))=true/\(PySem.W.kqdP d.toW).canLay0=true/\u+1+min (PyData.depthAll (PySem.W.kqdPs (Dt.toWs ds))) (PySem.W.kqdP d.toW).depth<cLine:=by
 have F:=ee 8 _ J;have O:=PySem.W.kqd_layL (ds:=Dt.toWs ds) λe I=>by rw[uS] at I;obtain⟨U,B,rfl⟩:=aH.mp I;show Uo (HB hs U B)
 show#[O.1,F.1,?_];have:min (PyData.depthAll (PySem.W.kqdPs (Dt.toWs ds))) (PySem.W.kqdP d.toW).depth<=8:=av (iy _ _) F.2;lia
def HC (Y:X.A.units+64<cLine):OpQ X (compareOp .In) (HA false):=#[by
 intro A6 s G H x y v u Q I rx F h;obtain⟨d,ds,hd,B,kd,ks,q⟩:=h;obtain⟨as,ra⟩:=yT I.hok 8 hd rx kd;obtain⟨J,O,U⟩:=Uq kd ks Y;rcases B with B | B;obtain⟨bs,rb⟩:=yT I.hok 8 B F ks;show in_list_reads rb ra J O U #[.bl _,H,I,A5,q _ (L4 kd ks)];obtain⟨bs,rb⟩:=yT I.hok 8 B F (show (Dt.tup ds).eqOk from ks);show in_tuple_reads rb ra J O U #[.bl _,H,I,A5,q _ (L4 kd ks)]]
def Ur (bk:AW)(B:Int)(st:AG):AF:=(bk.filter λx=>decide (x.b=B)&&xp st x.g).map λx=>[x.w,x.r]
def lpF (bk:AW)(B:Int)(st:AG):AF:=CF (Ur bk B st)
def Us (C:Nat->Nat->Bool)(w j:Nat):AF:=((List.range j).filter (C w)).map λb:Nat=>[(w:Int),(b:Int)]
def Ut (C:Nat->Nat->Bool)(n:Nat):Nat->AF
 | 0=>[]
 | i+1=>Ut C n i++Us C i n
def HD{a b:AG}(h:stD a=stD b):a=b:=by have:=congrArg (List.map Dt.val) (Dt.tup.inj h);rwa[uf,uf] at this
open PySem.W PySem.Calls
def L5{F B:AG}{x:Wi}:GX F B x=true↔uu F x=true/\chg F x.b x.r=B:=by
 unfold GX;grind
def DR{F B:AG}:B∈ux bk F []↔∃x∈bk,GX F B x=true:=by
 unfold ux;rw[yc,yX];constructor;rintro⟨x,I,h1,_,h2⟩;show#[x,I,L5.mpr #[h1,h2.symm]];rintro⟨x,I,h⟩;obtain⟨h1,h2⟩:=L5.mp h;show#[x,I,h1,ck,h2.symm]
def Uu{B:AG}(F:∀x∈bk,WishOk rm x)(I:B.length=rm.length):Up' (ux bk B hs):=Fb (Fc F I)
def unlike (B z hs:AG):AG:=hs.filter λb=>decide (zy B b≠zy z b)
end L2
namespace L2
open PyProof.Rows
end L2
namespace L2
open PyProof.Rows
end L2
namespace L2
open PyProof.Rows
end L2
namespace L2
open PyProof.Rows
section
variable [DecidableEq Kt]
end
end L2
namespace L2
open PyProof.Rows
def Uv{a:Addr}{xs:AT}(I:'&')(h:SqL X.K H a xs):∃B:AN,yf xs B/\s.heap.IsList a B.toArray/\xs.length<=sizeLine:=by obtain⟨B,r,⟨o,n,e,c,_,d⟩,z⟩:=I.list h;show#[B,r,#[o,e,c,n,d],z]
end L2
namespace L2
open PyProof.Rows
abbrev nmS (b:Bool):String:=match b with | true => "tuple" | false => "list"
abbrev nmI (b:Bool):String:=match b with | true => "tuple_iterator" | false => "list_iterator"
def SqH (b:Bool)(h:Heap)(l:Addr)(xs:AK):Prop:=∃o,h.get? l=some o/\o.cls = .type (nmS b)/\∃n,o.data = .seq xs n
def ItH (b:Bool)(h:Heap)(i l:Addr)(k:Nat):Prop:=∃o,h.get? i=some o/\o.cls = .type (nmI b)/\o.data = .fields #v[.ref l,.int k 0]
abbrev SqV (b:Bool)(K:AH)(H:Hp)(a:Addr)(xs:AT):Prop:=match b with | true=>SqT K H a xs | false=>SqL K H a xs
def HE{a:Addr}{xs:AT}(I:'&')(h:SqV b X.K H a xs):∃B:AN,yf xs B/\SqH b s.heap a B.toArray:=by
 cases b;obtain⟨B,r,p,_⟩:=Uv I h;show#[B,r,p];obtain⟨B,r,p,_⟩:=I.tuple h;show#[B,r,p]
def Uw{a:Addr}(I:'&')(h:SqV b X.K H a xs)(h':SqV b X.K H a ys):xs=ys:=by
 cases b;show I.list_inj h h';show I.tuple_inj h h'
section
variable{A:Ae}
def Ux(F:ItH k s.heap it t i)(I:SqH k s.heap t B)(J:B[i]?=some x)(O:∀h',ItH k h' it t (i+1)->Heap.SameBut it s.heap h'->Q x '1'):Ag prog w A (Builtin.SmallTypes.nextOf (.ref it)) Q E s:=by
 cases k;show wpAny_nextOf_list_item F I J O;show yN F I J O
def Uy(I:A.handled=none)(F:ItH k s.heap it t i)(J:SqH k s.heap t B)(O:B[i]?=none)(U:∀h' e,Heap.ExtBut it s.heap h'->(∃o,h'.get? e=some o/\o.cls = .type "StopIteration")->E (.ref e) '1'):Ag prog w A (Builtin.SmallTypes.nextOf (.ref it)) Q E s:=by
 cases k;show wpAny_nextOf_list_end I F J O U;show xb I F J O U
def Uz(h:SqH k s.heap l B)(F:Q (.ref s.heap.objs.size) { s with heap:=s.heap.push { cls:=.type (nmI k),data:=.fields #v[.ref l,.int 0 0] } }):Ag prog w A (pyIter (.ref l)) Q E s:=by
 cases k;show hZ h F;show dq h F
def UA{z TI TO i1 i2 t1 t2:Addr}{xs ys:AK}{x y a b:Value}{Q:AA}(BB:ZipApart z TI TO i1 i2 t1 t2)(hz:IsZip s.heap z TI TO .none)(b2:IsPair s.heap TI (.ref i1) (.ref i2))(b3:IsPair s.heap TO a b)(h1:ItH kb s.heap i1 t1 k1)(h2:s.heap.IsTupleIter i2 t2 k2)(hx:SqH kb s.heap t1 xs)(hy:s.heap.IsTuple t2 ys)(ex:xs[k1]?=some x)(ey:ys[k2]?=some y)(hQ:∀h',IsZip h' z TI TO (rawInt s.heap.objs.size)->IsPair h' TO x y->ItH kb h' i1 t1 (k1+1)->h'.IsTupleIter i2 t2 (k2+1)->IsPair h' s.heap.objs.size x y->h'.objs.size=s.heap.objs.size+1->
   (∀c o,c≠z->c≠TO->c≠i1->c≠i2->s.heap.get? c=some o->h'.get? c=some o)->Q (.ref s.heap.objs.size) '1'):
  Ag prog w A (Builtin.«zip.__next__» #[[.ref z],[]]) (λfin s'=>∃v,fin = .done (.ret v)/\Q v s') E s:=by
 change wpAny _ _ (field (.ref z) 2 >>= _) _ _ s;show aa (bP hz A5 (x:=.bool false) A5 ?_);show aa (bP hz A5 (x:=.ref TI) A5 ?_);show aa (cJ b2 A5 ?_);show aa ?_;show aa (bP hz A5 (x:=.none) A5 ?_);show ae ?_;show aa (cD ?_);show aa (bP hz A5 (x:=.ref TO) A5 ?_);show aa (bW hz A5 '$' ?_);have a3:(s.heap.update z (Obj.mapFields λx=>x.setIfInBounds 0 Value.ellipsis)).get? z=some { cls:=.type "zip",data:=.fields #v[.ellipsis,.bool false,.bool false,.ref TI,.ref TO] }:=bJ _ hz A5;have F:∀c,c≠z->(s.heap.update z (Obj.mapFields λx=>x.setIfInBounds 0 Value.ellipsis)).get? c=s.heap.get? c:=λc B=>cb _ _ (Ne.symm B);have a4:(s.heap.update z (Obj.mapFields λx=>x.setIfInBounds 0 Value.ellipsis)).objs.size=s.heap.objs.size:=by simp[Heap.update]
 generalize s.heap.update z (Obj.mapFields λx=>x.setIfInBounds 0 Value.ellipsis)=H1 at a3 F a4;change wpAny _ _ (forIn ([(Value.ref i1,0),(Value.ref i2,1)]:List (Value×Nat)) ((none,()):Option PySem.Fin×Unit) _ >>= _) _ _ _;rw[gA];show aa (aa ?_);show aa (eZ ?_);change wpAny _ _ (if (Value.bool false==Value.bool true)=true then _ else (Builtin.SmallTypes.nextOf (.ref i1) >>= λx=>pure (some x))) _ _ _;rw[if_neg '#'];have b4:ItH kb H1 i1 t1 k1:=by obtain⟨o,I,r⟩:=h1;show#[o,(F _ BB.i1z).trans I,r]
 have b5:SqH kb H1 t1 xs:=by obtain⟨o,I,r⟩:=hx;show#[o,(F _ BB.l1z).trans I,r]
 show aa (Ux (s:={ s with heap:=H1 }) b4 b5 ex λH2 a5 a7=>?_);show ae ?_;have J:∀c,c≠i1->H2.get? c=H1.get? c:=λc B=>a7.2 c B;have ad:IsPair H2 TO a b:=(J _ BB.TOi1).trans ((F _ BB.TOz).trans b3);show aa (cJ (s:={ s with heap:=H2 }) ad A5 ?_);show aa (wpAny_updateSeq_pair (s:={ s with heap:=H2 }) ad λH3 bb bc=>?_);show aa (wpAny_letGo ?_);show ae ?_;have an:IsPair H3 TO x b:=bb;have O:∀c,c≠TO->H3.get? c=H2.get? c:=λc B=>bc.2 c B;change wpAny _ _ (forIn ([(Value.ref i2,1)]:List (Value×Nat)) ((none,()):Option PySem.Fin×Unit) _) _ _ _;rw[gA];show aa ?_;show aa (eZ ?_);change wpAny _ _ (if (Value.bool false==Value.bool true)=true then _ else (Builtin.SmallTypes.nextOf (.ref i2) >>= λx=>pure (some x))) _ _ _;rw[if_neg '#'];have b6:H3.IsTupleIter i2 t2 k2:=by obtain⟨o,I,r⟩:=h2;show#[o,(O _ (Ne.symm BB.TOi2)).trans ((J _ (Ne.symm BB.i12)).trans ((F _ BB.i2z).trans I)),r]
 have b7:H3.IsTuple t2 ys:=by obtain⟨o,I,r⟩:=hy;show#[o,(O _ BB.l2TO).trans ((J _ BB.l2i1).trans ((F _ BB.l2z).trans I)),r]
 show aa (yN (s:={ s with heap:=H3 }) b6 b7 ey λH4 bd bk=>?_);show ae ?_;have ab:∀c,c≠i2->H4.get? c=H3.get? c:=λc B=>bk.2 c B;have ag:IsPair H4 TO x b:=(ab _ BB.TOi2).trans an;show aa (cJ (s:={ s with heap:=H4 }) ag A5 ?_);show aa (wpAny_updateSeq_pair (s:={ s with heap:=H4 }) ag λH5 bl bm=>?_);show aa (wpAny_letGo ?_);show ae ?_;have U:IsPair H5 TO x y:=bl;have ac:∀c,c≠TO->H5.get? c=H4.get? c:=λc B=>bm.2 c B;change wpAny _ _ (forIn ([]:List (Value×Nat)) ((none,()):Option PySem.Fin×Unit) _) _ _ _;rw[List.forIn_nil];show ae ?_;show aa (cJ (s:={ s with heap:=H5 }) U A5 ?_);show aa (wpAny_newTuple ?_ (by change 2<=sizeLine;decide));have bo:H5.objs.size=s.heap.objs.size:=bm.1.trans (bk.1.trans (bc.1.trans (a7.1.trans a4)));have ko:∀c o,c≠z->c≠TO->c≠i1->c≠i2->s.heap.get? c=some o->H5.get? c=some o:=λc o c1 c2 c3 c4 e=>(ac _ c2).trans ((ab _ c4).trans ((O _ c2).trans ((J _ c3).trans ((F _ c1).trans e))));have b8:H5.get? z=some { cls:=.type "zip",data:=.fields #v[.ellipsis,.bool false,.bool false,.ref TI,.ref TO] }:=(ac _ (Ne.symm BB.TOz)).trans ((ab _ (Ne.symm BB.i2z)).trans ((O _ (Ne.symm BB.TOz)).trans ((J _ (Ne.symm BB.i1z)).trans a3)));have Y:=ar H5 (o:={ cls:=.type "tuple",data:=.seq #v[x,y] }) A5;have as:∀c o,H5.get? c=some o->(H5.push { cls:=.type "tuple",data:=.seq #v[x,y] }).get? c=some o:=λc o e=>ah _ e;have bs:(H5.push { cls:=.type "tuple",data:=.seq #v[x,y] }).objs.size=s.heap.objs.size+1:=by rw[dF,bo]
 rw[bo] at Y ⊢;generalize H5.push { cls:=.type "tuple",data:=.seq #v[x,y] }=H6 at Y as bs;have bt:=as _ _ b8;show aa ?_;show aa (bW bt A5 '$' ?_);have a0:(H6.update z (Obj.mapFields λx=>x.setIfInBounds 0 (rawInt s.heap.objs.size))).get? z=some { cls:=.type "zip",data:=.fields #v[rawInt s.heap.objs.size,.bool false,.bool false,.ref TI,.ref TO] }:=bJ _ bt A5;have a1:∀c,c≠z->(H6.update z (Obj.mapFields λx=>x.setIfInBounds 0 (rawInt s.heap.objs.size))).get? c=H6.get? c:=λc B=>cb _ _ (Ne.symm B);have bx:(H6.update z (Obj.mapFields λx=>x.setIfInBounds 0 (rawInt s.heap.objs.size))).objs.size=H6.objs.size:=by simp[Heap.update]
 generalize H6.update z (Obj.mapFields λx=>x.setIfInBounds 0 (rawInt s.heap.objs.size))=H7 at a0 a1 bx;show bW (s:={ s with heap:=H7 }) a0 A5 '$' ?_;have b0:(H7.update z (Obj.mapFields λx=>x.setIfInBounds 1 (Value.bool false))).get? z=some { cls:=.type "zip",data:=.fields #v[rawInt s.heap.objs.size,.bool false,.bool false,.ref TI,.ref TO] }:=bJ _ a0 A5;have a2:∀c,c≠z->(H7.update z (Obj.mapFields λx=>x.setIfInBounds 1 (Value.bool false))).get? c=H7.get? c:=λc B=>cb _ _ (Ne.symm B);have b1:(H7.update z (Obj.mapFields λx=>x.setIfInBounds 1 (Value.bool false))).objs.size=H7.objs.size:=by simp[Heap.update]
 generalize H7.update z (Obj.mapFields λx=>x.setIfInBounds 1 (Value.bool false))=H8 at b0 a2 b1;have kk:∀c o,c≠z->H5.get? c=some o->H8.get? c=some o:=λc o B e=>(a2 _ B).trans ((a1 _ B).trans (as _ _ e));have al:=aw hz;show ae #[_,A5,hQ H8 b0 (kk _ _ BB.TOz U) ?_ ?_ ?_ (by rw[b1,bx,bs]) λc o c1 c2 c3 c4 e=>kk _ _ c1 (ko c o c1 c2 c3 c4 e)];obtain⟨o,I,r⟩:=a5;show#[o,kk _ _ BB.i1z ((ac _ (Ne.symm BB.TOi1)).trans ((ab _ BB.i12).trans ((O _ (Ne.symm BB.TOi1)).trans I))),r];obtain⟨o,I,r⟩:=bd;show#[o,kk _ _ BB.i2z ((ac _ (Ne.symm BB.TOi2)).trans I),r];show (a2 _ (eO al)).trans ((a1 _ (eO al)).trans Y)
def UB{z TI TO i1 i2 t1 t2:Addr}{xs:AK}{Q:PySem.Fin->AZ->Prop}(BB:ZipApart z TI TO i1 i2 t1 t2)(hh:A.handled=none)(F:IsZip s.heap z TI TO .none)(O:IsPair s.heap TI (.ref i1) (.ref i2))(h1:ItH kb s.heap i1 t1 k1)(hx:SqH kb s.heap t1 xs)(ex:xs[k1]?=none)(hE:∀h' e,(∀c o,c≠z->c≠i1->s.heap.get? c=some o->h'.get? c=some o)->(∃o,h'.get? e=some o/\o.cls = .type "StopIteration")->E (.ref e) '1'):
  Ag prog w A (Builtin.«zip.__next__» #[[.ref z],[]]) Q E s:=by
 change wpAny _ _ (field (.ref z) 2 >>= _) _ _ s;show aa (bP F A5 (x:=.bool false) A5 ?_);show aa (bP F A5 (x:=.ref TI) A5 ?_);show aa (cJ O A5 ?_);show aa ?_;show aa (bP F A5 (x:=.none) A5 ?_);show ae ?_;show aa (cD ?_);show aa (bP F A5 (x:=.ref TO) A5 ?_);show aa (bW F A5 '$' ?_);have I:(s.heap.update z (Obj.mapFields λx=>x.setIfInBounds 0 Value.ellipsis)).get? z=some { cls:=.type "zip",data:=.fields #v[.ellipsis,.bool false,.bool false,.ref TI,.ref TO] }:=bJ _ F A5;have B:∀c,c≠z->(s.heap.update z (Obj.mapFields λx=>x.setIfInBounds 0 Value.ellipsis)).get? c=s.heap.get? c:=λc U=>cb _ _ (Ne.symm U);generalize s.heap.update z (Obj.mapFields λx=>x.setIfInBounds 0 Value.ellipsis)=H1 at I B;change wpAny _ _ (forIn ([(Value.ref i1,0),(Value.ref i2,1)]:List (Value×Nat)) ((none,()):Option PySem.Fin×Unit) _ >>= _) _ _ _;rw[gA];show aa (aa ?_);show aa (eZ ?_);change wpAny _ _ (if (Value.bool false==Value.bool true)=true then _ else (Builtin.SmallTypes.nextOf (.ref i1) >>= λx=>pure (some x))) _ _ _;rw[if_neg '#'];have Y:ItH kb H1 i1 t1 k1:=by obtain⟨o,J,r⟩:=h1;show#[o,(B _ BB.i1z).trans J,r]
 have ab:SqH kb H1 t1 xs:=by obtain⟨o,J,r⟩:=hx;show#[o,(B _ BB.l1z).trans J,r]
 show aa (Uy (s:={ s with heap:=H1 }) hh Y ab ex λH2 e eb he=>?_);have ac:=eb z _ (Ne.symm BB.i1z) I;show bW (s:={ s with heap:=H2 }) ac A5 '$' ?_;have ad:e≠z:=by grind
 show hE _ e (λc o c1 c2 e1=>?_) ?_;show (cb _ _ (Ne.symm c1)).trans (eb c o c2 ((B _ c1).trans e1));obtain⟨o,J,U⟩:=he;show#[o,(cb _ _ (Ne.symm ad)).trans J,U]
def Bx (kb:Bool)(h:Heap)(B F:Addr):Heap:=
 ((((h.push { cls:=.type (nmI kb),data:=.fields #v[.ref B,.int 0 0] }).push { cls:=.type "tuple_iterator",data:=.fields #v[.ref F,.int 0 0] }).push { cls:=.type "tuple",data:=.seq #v[.ref h.objs.size,.ref (h.objs.size+1)] }).push { cls:=.type "tuple",data:=.seq #v[.none,.none] }).push
  { cls:=.type "zip",data:=.fields #v[.none,.bool false,.bool false,.ref (h.objs.size+2),.ref (h.objs.size+3)] }
def UC (kb:Bool)(B F:Addr)(xs ys:AK):
  Meets (Builtin.«zip.__new__» #[[.type "zip",.ref B,.ref F],[]]) (λ_ R s=>SqH kb s.heap B xs/\s.heap.IsTuple F ys/\R (.ok (.ret (.ref (s.heap.objs.size+4)))) { s with heap:=Bx kb s.heap B F }):=
 .of_wp λprog w A R s h=>by
  obtain⟨hp,g,d,tk,O⟩:=s;obtain⟨h1,h2,h⟩:=h;have J:=sub_zip;have I:Heap.IsTuple (Shared.heap #[hp.push { cls:=.type (nmI kb),data:=.fields #v[.ref B,.int 0 0] },g,d,tk,O]) F ys:=by obtain⟨o,U,r⟩:=h2;show#[o,ah _ U,r]
  wp_walk using Uz h1,dq I
  show#[_,A5,?_];unfold Bx at h;simpa [dF,Builtin.SmallTypes.ownedTupleFields] using h
def UD(h1:SqH kb s.heap B xs)(h2:s.heap.IsTuple J ys)(h:∀h',IsZip h' (s.heap.objs.size+4) (s.heap.objs.size+2) (s.heap.objs.size+3) .none->IsPair h' (s.heap.objs.size+2) (.ref s.heap.objs.size) (.ref (s.heap.objs.size+1))->IsPair h' (s.heap.objs.size+3) .none .none->
   ItH kb h' s.heap.objs.size B 0->h'.IsTupleIter (s.heap.objs.size+1) J 0->h'.objs.size=s.heap.objs.size+5->(∀b o,s.heap.get? b=some o->h'.get? b=some o)->Q (.ref (s.heap.objs.size+4)) '1'):
  Ag prog w A (call (.type "zip") [.ref B,.ref J]) Q E s:=by
 show callType_new F.called_zip '#' (F.typeCall_zip_2 _ _) (F.newCall_zip_2 _ _) (λO=>F.args_object_init_3 O _ _) F.entry_zip_new (UC kb B J xs ys) #[h1,h2,?_];generalize ad:({ cls:=.type (nmI kb),data:=.fields #v[.ref B,.int 0 0] }:Obj)=o0;have z1:∀o,(s.heap.push o).objs.size=s.heap.objs.size+1:=λo=>dF ..;have z2:∀o o',((s.heap.push o).push o').objs.size=s.heap.objs.size+2:=λo o'=>by rw[dF,z1]
 have z3:∀o o' I,(((s.heap.push o).push o').push I).objs.size=s.heap.objs.size+3:=λo o' I=>by rw[dF,z2]
 have z4:∀o o' I p,((((s.heap.push o).push o').push I).push p).objs.size=s.heap.objs.size+4:=λo o' I p=>by rw[dF,z3]
 have gz:(Bx kb s.heap B J).get? (s.heap.objs.size+4)=some { cls:=.type "zip",data:=.fields #v[.none,.bool false,.bool false,.ref (s.heap.objs.size+2),.ref (s.heap.objs.size+3)] }:=by unfold Bx;rw[<- z4];show ar _ A5
 have U:(Bx kb s.heap B J).get? (s.heap.objs.size+3)=some { cls:=.type "tuple",data:=.seq #v[.none,.none] }:=by unfold Bx;show ah _ ?_;rw[<- z3];show ar _ A5
 have Y:(Bx kb s.heap B J).get? (s.heap.objs.size+2)=some { cls:=.type "tuple",data:=.seq #v[.ref s.heap.objs.size,.ref (s.heap.objs.size+1)] }:=by unfold Bx;show ah _ (ah _ ?_);rw[<- z2];show ar _ A5
 have ab:(Bx kb s.heap B J).get? (s.heap.objs.size+1)=some { cls:=.type "tuple_iterator",data:=.fields #v[.ref J,.int 0 0] }:=by unfold Bx;show ah _ (ah _ (ah _ ?_));rw[<- z1];show ar _ A5
 have ac:(Bx kb s.heap B J).get? s.heap.objs.size=some { cls:=.type (nmI kb),data:=.fields #v[.ref B,.int 0 0] }:=by unfold Bx;show ah _ (ah _ (ah _ (ah _ (ar _ A5))))
 show#[#[_,gz,A5],h _ gz Y U #[_,ac,A5,A5] #[_,ab,A5,A5] ?_ λb o x=>?_];unfold Bx;rw[dF,z4];unfold Bx;show ah _ (ah _ (ah _ (ah _ (ah _ x))))
end
def Izg (kb:Bool)(K:AH)(a b:Addr):It:=
 #[λi H=>∃xs ys x y,SqV kb K H a xs/\SqT K H b ys/\xs[i]?=some x/\ys[i]?=some y,λi H v H'=>∃T x y,v = .ref T/\H T=none/\H'=upd H T (.tup [x,y])/\(∀xs,SqV kb K H a xs->xs[i]?=some x)/\∀ys,SqT K H b ys->ys[i]?=some y,λi H=>∃xs,SqV kb K H a xs/\xs.length<=i]
def UE{P:Aa}{a2:AO}{x1}(z TI TO i1 i2 a b:Addr)(BB:ZipApart z TI TO i1 i2 a b):
  Turn P w K (.Tuple a2 x1 tpos) (Izg kb K a b) [z,TI,TO,i1,i2] z (λi h=>IsZip h z TI TO .none/\IsPair h TI (.ref i1) (.ref i2)/\(∃c d,IsPair h TO c d)/\ItH kb h i1 a i/\h.IsTupleIter i2 b i) where
 mem:=by simp
 obj:=λi h st c J=>by
  obtain⟨hz,O,⟨u,v,ag⟩,⟨o1,e1,c1,d1⟩,⟨o2,e2,c2,d2⟩⟩:=st;grind
 keep:=λi h h' st k=>by obtain⟨hz,O,⟨u,v,ag⟩,⟨o1,e1,r1⟩,⟨o2,e2,r2⟩⟩:=st;show#[k z '$' _ hz,k TI '$' _ O,#[u,v,k TO '$' _ ag],#[o1,k i1 '$' _ e1,r1],#[o2,k i2 '$' _ e2,r2]]
 item:=by
  intro X hP hw hK J i A6 s G H E I hf st hg;subst hP hw hK;obtain⟨xs,ys,x,y,a3,a4,hx,hy⟩:=hg;obtain⟨b7,bm,p1⟩:=HE I a3;obtain⟨b8,bo,p2,cd⟩:=I.tuple a4;obtain⟨u1,bs,bt⟩:=bm.get hx;obtain⟨u2,bx,b0⟩:=bo.get hy;have fz:=hf z '$';have ab:=hf TO '$';have f1:=hf i1 '$';have f2:=hf i2 '$';obtain⟨hz,O,⟨c0,d0,ag⟩,an,as⟩:=st;have hT:s.TypeIs (.ref z) "zip" := #[_,hz,A5];unfold pyNext
  show aa (dM (wpAny_callSpecial?_slot (name:=Str.ofString "__next__") hT gH
   (aW gH hT F.entry_zip_next (UA (A:=X.A.in1) BB hz O ag an as p1 p2 (x:=u1) (y:=u2) (by simpa using bs) (by simpa using bx) λh' gz b1 b2 b3 gT ci hk=>?_) (F.args_zip_next_1 _))))
  show ae #[_,A5,?_];show wpAny_letOwnedTupleGo_zip (s:='1') gz λal a5 U=>?_;have nz:∀b' o',s.heap.get? b'=some o'->s.heap.objs.size≠b':=λb' o' e=>eO (aw e);have a7:s.heap.objs.size≠z:=nz z _ hz;have bb:s.heap.objs.size≠TO:=nz TO _ ag;have b4:s.heap.objs.size≠i1:=by obtain⟨o,ho,_⟩:=an;show nz i1 _ ho
  have b5:s.heap.objs.size≠i2:=by obtain⟨o,ho,_⟩:=as;show nz i2 _ ho
  have bc:s.heap.objs.size≠TI:=nz TI _ O;have B:=I.hok.fresh (ak s.heap.objs.size);have kp:∀c o,c≠z->c≠TO->c≠i1->c≠i2->s.heap.get? c=some o->al.get? c=some o:=λc o h1 h2 h3 Y hb=>(U.2 c h1).trans (hk c o h1 h2 h3 Y hb);have bd:al.get? s.heap.objs.size=some { cls:=.type "tuple",data:=.seq #v[u1,u2] }:=(U.2 _ a7).trans gT;have ca:∀b' u',H b'=some u'->b'≠z/\b'≠TO/\b'≠i1/\b'≠i2:=λb' u' hb=>#[ze hb fz.1,ze hb ab.1,ze hb f1.1,ze hb f2.1]
  have bk:HOk X.prog X.w (upd H s.heap.objs.size (.tup [x,y])) al:=by
   intro b' u' hb;by_cases bl:b'=s.heap.objs.size;subst bl;rw[zg] at hb;cases hb;show#[by change 2<=sizeLine;decide,[u1,u2],.cons bt (.cons b0 .nil),_,bd,A5,#[0,A5],A5]
   ·rw[zc bl] at hb;show (I.hok b' u' hb).stay (λc v ac q=>?_) (λc q=>?_) (λc ys q=>?_)
    ·have:c≠z/\c≠TO/\c≠i1/\c≠i2:=by
      rcases ac with rfl | ac
      all_goals right
     right
    rw[zc (ze q B)];show q;rw[zc (ze q B)];show q
  have ad:∀c o,c∉[z,TO,i1,i2]->s.heap.get? c=some o->al.get? c=some o:=λc o J e=>kp c o (λq=>J (by simp[q])) (λq=>J (by simp[q])) (λq=>J (by simp[q])) (λq=>J (by simp[q])) e
  have I1:Inv X A6 G (upd H s.heap.objs.size (.tup [x,y])) { s with heap:=al,toks:=s.toks }:=by
   show Inv.step (ch:=[z,TO,i1,i2]) (g':=s.gens) (d':=s.drawn) (t':=s.toks) I (λc J=>?_) (λc o h1 h2 h3 Y h5=>?_) (λc o h1 h2 h3 Y h5=>?_) (λc o h3 Y h5=>?_) (λc o h3 Y=>?_) (λc ys q=>?_) (λc o u' q=>?_) (λc ps q=>?_) (λm hm=>?_) bk I.bare;simp only[au,ck,or_false] at J;rcases J with rfl | rfl | rfl | rfl;show#[fz.2.2.2.1,fz.2.1,fz.2.2.2.2.1,fz.2.2.2.2.2];show#[ab.2.2.2.1,ab.2.1,ab.2.2.2.2.1,ab.2.2.2.2.2];show#[f1.2.2.2.1,f1.2.1,f1.2.2.2.2.1,f1.2.2.2.2.2];show#[f2.2.2.2.1,f2.2.1,f2.2.2.2.2.1,f2.2.2.2.2.2];show ad c o h3 Y;show#[o.slots,ad c o h3 Y];rw[zc (aY (aw Y))];show h5;show#[o,ad c o h3 Y];rw[zc (ze q B)];show q;rw[zc (ze q B)];show q;show#[#v[],by rw[zc (ze q B),gO];show q];obtain⟨o,es,ep,a0,r1⟩:=hm;show#[o,es,ep,kp _ o (Ne.symm fz.2.1) (Ne.symm ab.2.1) (Ne.symm f1.2.1) (Ne.symm f2.2.1) a0,r1]
  show#[.ref s.heap.objs.size,_,I1,A5,#[s.heap.objs.size,x,y,A5,B,A5,λzs a1=>by rw[Uw I a1 a3];show hx,λzs a1=>by rw[I.tuple_inj a1 a4];show hy],#[a5,?_,#[_,_,(U.2 TO BB.TOz).trans b1],?_,?_],λc J=>?_];show kp TI _ BB.TIz BB.TITO BB.TIi1 BB.TIi2 O;obtain⟨o,ho,r⟩:=b2;show#[o,(U.2 i1 BB.i1z).trans ho,r];obtain⟨o,ho,r⟩:=b3;show#[o,(U.2 i2 BB.i2z).trans ho,r];simp only[au,ck,or_false] at J;rcases J with rfl | rfl | rfl | rfl | rfl;rw[zc (Ne.symm a7)];show fz.1;rw[zc (Ne.symm bc)];show (hf _ '$').1;rw[zc (Ne.symm bb)];show ab.1;rw[zc (Ne.symm b4)];show f1.1;rw[zc (Ne.symm b5)];show f2.1
 done:=by
  intro X hP hw hK J i A6 s G H E I hf st hg;subst hP hw hK;obtain⟨xs,hq,hx⟩:=hg;obtain⟨cn,rv,p⟩:=HE I hq;have fz:=hf z '$';have f1:=hf i1 '$';obtain⟨hz,O,⟨c0,d0,ag⟩,an,as⟩:=st;have hl:=rv.length;have hT:s.TypeIs (.ref z) "zip" := #[_,hz,A5];unfold pyNext
  show aa (dM (wpAny_callSpecial?_slot (name:=Str.ofString "__next__") hT gH
   (aW gH hT F.entry_zip_next (UB (A:=X.A.in1) BB (I.ok.hd J) hz O an p (by simp;lia) λh' e ko he=>?_) (F.args_zip_next_1 _))))
  obtain⟨o,ho,b6⟩:=he;show aa (cN (T := "StopIteration") (b:=true) #[o,ho,b6] fN ?_);show ae #[A5,?_];have ad:∀c o,c∉[z,i1]->s.heap.get? c=some o->h'.get? c=some o:=λc o J e=>ko c o (λq=>J (by simp[q])) (λq=>J (by simp[q])) e;show Inv.step (ch:=[z,i1]) (g':=s.gens) (d':=s.drawn) (t':=s.toks) I (λc J=>?_) (λc o h1 h2 h3 Y h5=>ad c o h3 Y) (λc o h1 h2 h3 Y h5=>#[o.slots,ad c o h3 Y]) (λc o h3 Y h5=>h5) (λc o h3 Y=>#[o,ad c o h3 Y]) (λc ys q=>q) (λc o u' q=>q) (λc ps q=>#[#v[],by right]) (λm hm=>?_) (λb' u' hb=>?_) I.bare;simp only[au,ck,or_false] at J;rcases J with rfl | rfl;show#[fz.2.2.2.1,fz.2.1,fz.2.2.2.2.1,fz.2.2.2.2.2];show#[f1.2.2.2.1,f1.2.1,f1.2.2.2.2.1,f1.2.2.2.2.2];obtain⟨o,es,ep,a0,r1⟩:=hm;show#[o,es,ep,ko _ o (Ne.symm fz.2.1) (Ne.symm f1.2.1) a0,r1];show (I.hok b' u' hb).stay (λc v ac q=>?_) (λc q=>q) (λc ys q=>q)
  have:c≠z/\c≠i1:=by
   rcases ac with rfl | ac;show#[ze hb fz.1,ze hb f1.1];show#[ze ac fz.1,ze ac f1.1]
  show ko c v this.1 this.2 q
 self:=λA i s Q E st h=>by obtain⟨hz,_⟩:=st;show wpAny_pyIter_zip hz h
def L6 (kb:Bool)(K:AH)(ta:TA):TI:=λG H R=>ta G H λvs H1=>∃a b,vs=[.ref a,.ref b]/\(∃xs,SqV kb K H1 a xs)/\(∃ys,SqT K H1 b ys)/\R (Izg kb K a b) H1
def UF (kb:Bool){B:AO}{x1}{a b:Expr}{ta:TA}{pos:Pos}(hg:Gl X "zip")(hm:X.mg "zip" = none)(ha:PA X [a,b] ta)(hs:starEach [a,b] X.env=[(false,eval a X.env),(false,eval b X.env)]:=by rfl)(F:ig b X:=by rfl):
  PI X (.Tuple B x1 tpos) (.Call (.Name "zip" p) [a,b] [] pos) (L6 kb X.K ta):=by
 intro A6 s G H R I h;show Call_ (C4 I hg hm boot_zip (cZ (thn (ha pos A6 s G H _ I h) λus s1 ⟨vs,H1,I1,r1,q1⟩=>?_) (by rw[hs,F]) (by rw[F];rfl)));obtain⟨c,d,e,⟨xs,O⟩,⟨ys,U⟩,q⟩:=q1;subst e
 cases r1 with
 | cons r Y=>
  cases Y with
  | cons r' Y=>
   cases Y;cases r;cases r';obtain⟨as,a0,p1⟩:=HE I1 O;obtain⟨J,a1,p2,a2⟩:=I1.tuple U;have ab:c<s1.heap.objs.size:=by obtain⟨o,ho,_⟩:=id p1;show aw ho
   have ac:d<s1.heap.objs.size:=by obtain⟨o,ho,_⟩:=id p2;show aw ho
   show UD p1 (show s1.heap.IsTuple d J.toArray from p2) λh' gz ad ag al an hsz hk=>?_;have I2:Inv X A6 G H1 { s1 with heap:=h',toks:=s1.toks }:=I1.kept (t':=s1.toks) hk;show wpAny_pyIter_zip gz ?_;show#[s1.heap.objs.size+4,[s1.heap.objs.size+4,s1.heap.objs.size+2,s1.heap.objs.size+3,s1.heap.objs.size,s1.heap.objs.size+1],_,_,H1,A5,I2,UE _ _ _ _ _ c d (zipApart_new ab ac),#[gz,ad,#[_,_,ag],al,an],λe he=>?_,q];simp only[au,ck,or_false] at he;rcases he with rfl | rfl | rfl | rfl | rfl;show I1.fpOk '!' (I1.hok.fresh '!');show I1.fpOk '!' (I1.hok.fresh '!');show I1.fpOk '!' (I1.hok.fresh '!');show I1.fpOk (ak _) (I1.hok.fresh (ak _));show I1.fpOk '!' (I1.hok.fresh '!')
def UG (kb:Bool){B:AO}{x1}{a b:Expr}{ta:TA}{pos:Pos}(I:Gl X "zip")(J:X.mg "zip" = none)(O:QA X [a,b] ta)(hs:starEach [a,b] X.env=[(false,eval a X.env),(false,eval b X.env)]:=by rfl)(F:ig b X:=by rfl):
  QI X (.Tuple B x1 tpos) (.Call (.Name "zip" p) [a,b] [] pos) (L6 kb X.K ta):=#[UF kb I J O.run hs F]
def UH:V->AT->Hp->VK->Prop:=λx vs H Q=>∃l xs k y,x = .ref l/\vs=[.int k,y]/\H l=some '+'/\0<=k/\k<=xs.length/\xs.length<sizeLine/\Q .non (upd H l (.lst (xs.take k.toNat++y::xs.drop k.toNat)))
def UI:MtM X "list.insert" UH:=by
 intro A6 s G H x vs v us Q I O U h;obtain⟨l,xs,k,y,rfl,rfl,J,h0,h1,Y,q⟩:=h;cases O
 cases U with
 | cons r1 rr=>
  cases rr with
  | cons r2 rn=>
   cases rn;obtain⟨t,rfl⟩:=r1;obtain⟨z,B,n,r,hl,e⟩:=I.lstM (.inl J)
   have hk:k<2 ^ 63:=by
    have:(xs.length:Int)<=2 ^ 40:=by have h2:xs.length<=2 ^ 40:=av (cS Y) '#';lia
    lia
   show call_meets PySem.F.slot_list_insert #[_,e,A5] PySem.F.entry_list_insert (PySem.F.args_list_insert_3 _ _ _)
    (AutoSeq1.list_insert_list_int_val_1 l B.toArray n k t _ (by rw[fitsIndex_both '!' hk];decide) (by grind)) #[e,?_]
   show#[.non,_,I.lset (its':=B.take k.toNat++_::B.drop k.toNat) J e ?_ ((r.take _).append (.cons r2 (r.drop _))) ?_,A5,q];rw[if_neg '!',aU,eX '!'];apply fV.mp;simp;rw[bz '$'];grind
def L7{T:String}{id:String}{r:V->AT->Hp->VK->Prop}{t:TA}(Y:PlainAttrs T)(J:Slot T name id)(U:typeOf (.builtin id)=pure (.type "method_descriptor"))(hm:MtR X id r)(ho:QE X o to)(ha:QA X (e::es) t)(F:attributeBase o name X.env (eval o X.env)=eval o X.env:=by rfl)(O:((backTo cpos (starEach (e::es) X.env)).all (λx=>!x.1)&&(backToKw cpos (keywordEach [] X.env)).all (λx=>x.1.isSome)
   && decide ((e::es).length+([]:List Keyword).length+(if ([]:List Keyword).isEmpty then 0 else 1)<30))=true:=by rfl)(I:(apos.endLine==cpos.line)=true:=by rfl)(hs:gy e es X:=by rfl)(B:iI cpos es X:=by rfl):
  QE X (.Call (.Attribute o name apos) (e::es) [] cpos) (tBM X.K T r to t):=#[Kl Y J U hm ho.run ha.run F O I hs B]
mutual
def Dt.hk:Dt->Bool
 | .int _=>true
 | .bl _=>true
 | .tup l=>Dt.hks l
 | _=>false
def Dt.hks:AS->Bool
 | []=>true
 | d::ds=>d.hk&&Dt.hks ds
end
theorem xJ:∀ {l:AS},Dt.hks l=true↔∀d∈l,d.hk=true
 | []=>by simp[Dt.hks]
 | d::l=>by simp[Dt.hks,xJ (l:=l)]
noncomputable instance:DecidableEq Dt:=λa b=>Classical.propDecidable _
mutual
def By:Dt->Int
 | .int n=>hashInt n
 | .bl b=>reduceHash (if b then 1 else 0)
 | .tup l=>reduceHash (Builtin.Tuple.tupleHashOf (Fd l))
 | _=>0
def Fd:AS->AG
 | []=>[]
 | d::ds=>By d::Fd ds
end
mutual
def drD:Dt->Nat
 | .tup l=>Bz l+1
 | _=>1
def Bz:AS->Nat
 | []=>0
 | d::ds=>drD d+Bz ds
end
theorem L8:∀l:AS,Fd l=l.map By
 | []=>rfl
 | d::l=>by rw[Fd,L8 l,ax]
theorem L9:∀l m:AS,Bz (l++m)=Bz l+Bz m
 | [],m=>by simp[Bz]
 | d::l,m=>by rw[cP,Bz,L9 l m,Bz,ff]
def kd:Nat->Dt->Bool
 | _,.int _=>true
 | _,.bl _=>true
 | n+1,.tup l=>l.all (kd n)
 | _,_=>false
def Dt.isT:Dt->Bool
 | .tup _=>true
 | _=>false
def Dt.isB:Dt->Bool
 | .bl _=>true
 | _=>false
def Dt.kk:Dt->Prop
 | .tup l=>(Dt.tup l).eqOk/\l.all Dt.isT=true\/l.all Dt.isB=true
 | _=>False
section
variable{P:Aa}
def xQ(h:PySem.W.kqdOk (n+1) (Dt.tup l).toW=true):∀d∈l,PySem.W.kqdOk n d.toW=true:=λd B=>by
 simp only[Dt.toW,PySem.W.kqdOk,bu,uS] at h;right
def UJ:∀n {d:Dt},d.hk=true->PySem.W.kqdOk n d.toW=true->kd n d=true:=by
 intro n
 induction n with
 | zero=>
  intro d B h
  cases d with
  | tup l=>simp[Dt.toW,PySem.W.kqdOk] at h
  | int _=>rfl
  | bl _=>rfl
  | _=>cases B
 | succ n I=>
  intro d B h
  cases d with
  | tup l=>show bu.mpr λd F=>I (xJ.mp (show Dt.hks l=true from B) d F) (xQ h d F)
  | int _=>rfl
  | bl _=>rfl
  | _=>cases B
def CH(h:l.all Dt.isB=true):∃bs:List Bool,l=bs.map Dt.bl:=by
 induction l with
 | nil=>show#[[],A5]
 | cons d l B=>
  rw[cj,aO] at h;obtain⟨bs,rfl⟩:=B h.2
  cases d with
  | bl b=>show#[b::bs,A5]
  | _=>cases h.1
def L_(h1:d.hk=true)(h:d.kk):kd 8 d=true:=by
 cases d with
 | tup l=>
  rcases h with h | h;show UJ 8 h1 h.1;obtain⟨bs,rfl⟩:=CH h;show bu.mpr λd B=>by obtain⟨b,_,rfl⟩:=aH.mp B;rfl
 | _=>show h.elim
def Ma{A:Ae}{b:Bool}{Q:Int->AZ->Prop}(q:Q (reduceHash (if b then 1 else 0)) { s with toks:=s.toks+1 }):wpAny (model P w) A (pyHash (.bool b)) Q E s:=by
 show PySem.W.pyHash_slot (T := "bool") A5 F.slot_bool_hash entry_int_hash (args_int_hash _) (beq_builtin_none _) (.inl A5) ?_;cases b;show (show wpAny _ _ (do ret (<- mkInt 0)) _ _ s from aa (wpAny_mkInt (ae #[_,_,A5,q])));show (show wpAny _ _ (do ret (<- mkInt 1)) _ _ s from aa (wpAny_mkInt (ae #[_,_,A5,q])))
def UK:∀n {d:Dt} {A:Ae} {v:Value} {as:AY} {s:AZ} {Q:Int->AZ->Prop},kd n d=true->Reads s.heap v (PySem.W.kqdP d.toW) as->A.units+n<cLine->
  Q (By d) { s with toks:=s.toks+drD d }->wpAny (model P w) A (pyHash v) Q E s:=by
 intro n
 induction n with
 | zero=>
  intro d A v as s Q U I hu q
  cases d with
  | int i=>
   cases I;show (intKind P w).pyHash (k:=i) (by simp[intKind,Value.isInt]) q
  | bl b=>cases I;show Ma q
  | _=>cases U
 | succ n ih=>
  intro d A v as s Q U I hu q
  cases d with
  | int i=>
   cases I;show (intKind P w).pyHash (k:=i) (by simp[intKind,Value.isInt]) q
  | bl b=>cases I;show Ma q
  | tup l=>
   have hi:=bu.mp (show l.all (kd n)=true from U)
   cases I with
   | @tuple a o vs m xs as g hc hd O=>
   have Y:s.TypeIs (.ref a) "tuple" := #[o,g,hc];unfold pyHash
   first | unfold pyHashByItsType | skip
   first | show aa (wpAny_cRoomFor_or (.inr '!') ?_) | skip
   show aa (dW Y F.slot_tuple_hash.lookup ?_);change wpAny _ _ (if (some (Value.builtin "tuple.__hash__")==some Value.none)=true then _ else _) Q E s;rw[if_neg (by rw[beq_builtin_none];show aB)];show aa (dW Y F.slot_tuple_hash.lookup ?_);change wpAny _ _ (callSpecialIfBoundUnlessNone? (.ref a) "__hash__" _ >>= _) Q E s;show aa (wpAny_callSpecialIfBoundUnlessNone?_slot Y F.slot_tuple_hash (aW F.slot_tuple_hash Y F.entry_tuple_hash ?_ (F.args_tuple_hash_1 _)));change wpAny _ _ (Builtin.Tuple.tupleItemsOf (.ref a) >>= _) _ _ s;show aa (gX g hd ?_);show aa ?_;rw[<- fg]
   show dP _
    (λzu (b:Array Int) s'=>∃done left bs,l=done++left/\ReadsAll s.heap zu (PySem.W.kqdPs (Dt.toWs left)) bs/\b.toList=done.map By/\s'={ s with toks:=s.toks+Bz done })
    _ ?_ ?_ _ _ #[[],l,_,A5,O,A5,A5]
   ·rintro x zu b s' ⟨done,left,bs,rfl,O,hb,rfl⟩
    cases left with
    | nil=>cases O
    | cons y left=>
     simp only[Dt.toWs,PySem.W.kqdPs] at O
     cases O with
     | cons h1 ab=>
     show aa (ih (s:={ s with toks:=s.toks+Bz done }) (hi y '$') h1 (by change A.units+1+n<cLine;lia) ?_);show (λz=>?_:∀z,_) (#[done++[y],left,_,by simp,ab,by simp[hb],by rw[L9];simp[Bz,ff]]:∃B J ac,done++y::left=B++J/\ReadsAll s.heap zu (PySem.W.kqdPs (Dt.toWs J)) ac/\(b.push (By y)).toList=B.map By/\({ s with toks:=s.toks+Bz done+drD y }:AZ)={ s with toks:=s.toks+Bz B })
     first
      | show ae z
      | show aa (ae (ae z))
   ·rintro b s' ⟨done,left,bs,rfl,O,hb,rfl⟩
    cases left with
    | cons y left=>simp only[Dt.toWs,PySem.W.kqdPs] at O;cases O
    | nil=>
    rw[bU] at q;have q:Q (reduceHash (Builtin.Tuple.tupleHashOf (done.map By))) { s with toks:=s.toks+(Bz done+1) }:=by rw[<- L8];show q
    change wpAny _ _ (retInt (Builtin.Tuple.tupleHashOf b.toList)) _ _ _;rw[hb];show wpAny_ret_mkInt ?_;change wpAny _ _ (if (decide (-(2:Int) ^ 63<=Builtin.Tuple.tupleHashOf (done.map By))&&decide (Builtin.Tuple.tupleHashOf (done.map By)<2 ^ 63))=true then _ else _) Q E _;unfold reduceHash at q;by_cases I:(decide (-(2:Int) ^ 63<=Builtin.Tuple.tupleHashOf (done.map By))&&decide (Builtin.Tuple.tupleHashOf (done.map By)<2 ^ 63))=true;rw[if_pos I];rw[if_pos I] at q;show ae (by simpa [ff] using q);rw[if_neg I];rw[if_neg I] at q;show aa (cD (ae (by simpa [ff] using q)))
  | _=>cases U
def UL:∀n {d:Dt} {v:Value} {as:AY} {Q:Bool->AZ->Prop},kd n d=true->Reads s.heap v (PySem.W.kqdP d.toW) as->
  Q true s->wpAny (model P w) A (eqIsQuiet n v) Q E s:=by
 intro n
 induction n with
 | zero=>
  intro d v as Q J B q
  cases d with
  | bl i=>cases B;rw[fK _ rfl];show ae q
  | int i=>cases B;rw[fK _ rfl];show ae q
  | _=>cases J
 | succ n ih=>
  intro d v as Q J B q
  cases d with
  | bl i=>cases B;rw[fK _ rfl];show ae q
  | int i=>cases B;rw[fK _ rfl];show ae q
  | tup l=>
   have hi:=bu.mp (show l.all (kd n)=true from J)
   cases B with
   | @tuple a o vs m xs as g hc O I=>
   have Y:s.TypeIs (.ref a) "tuple" := #[o,g,hc];unfold eqIsQuiet;show aa (dW Y F.slot_tuple_eq.lookup ?_);show aa (cN Y isSubtype_tuple_tuple ?_);simp only[dO,aN,if_false];show aa (cJ g O ?_);show aa ?_;rw[<- fg];show dP _ (λzu r s'=>r.1=none/\s'=s/\∃left bs,(∀d∈left,d∈l)/\ReadsAll s.heap zu (PySem.W.kqdPs (Dt.toWs left)) bs) _ ?_ ?_ _ _ #[A5,A5,l,_,λ_ z=>z,I];rintro x zu r s' ⟨B,rfl,left,bs,hs,I⟩
   cases left with
   | nil=>cases I
   | cons y left=>
    simp only[Dt.toWs,PySem.W.kqdPs] at I
    cases I with
    | cons h1 U=>
    show aa (ih (hi y (hs y '$')) h1 ?_);simp only[dO,aN,if_false];show ae #[A5,A5,left,_,λd O=>hs d (aj _ O),U]
   rintro⟨r1,r2⟩ s' ⟨B,rfl,_⟩;simp only at B;subst B;show ae q
  | _=>cases J
mutual
theorem uc {h h':Heap}(k:∀b o vs n,h.get? b=some o->o.cls = .type "tuple" -> o.data = .seq vs n->h'.get? b=some o):∀ {d:Dt} {v:Value} {as:AY},d.hk=true->Reads h v (PySem.W.kqdP d.toW) as->Reads h' v (PySem.W.kqdP d.toW) as
 | .int i,_,_,_,r=>by cases r;show .int _ _
 | .str _,_,_,hk,_=>by cases hk
 | .tup l,_,_,hk,r=>by
  cases r with
  | tuple g hc hd hl=>show .tuple (k _ _ _ _ g hc hd) hc hd (Mb k hk hl)
 | .non,_,_,hk,_=>by cases hk
 | .bl b,_,_,_,r=>by cases r;show .bool _
 | .lst _,_,_,hk,_=>by cases hk
 | .dct,_,_,hk,_=>by cases hk
theorem Mb {h h':Heap}(k:∀b o vs n,h.get? b=some o->o.cls = .type "tuple" -> o.data = .seq vs n->h'.get? b=some o):∀ {l:AS} {vs:AN} {as:AY},Dt.hks l=true->ReadsAll h vs (PySem.W.kqdPs (Dt.toWs l)) as->ReadsAll h' vs (PySem.W.kqdPs (Dt.toWs l)) as
 | [],_,_,_,r=>by simp only[Dt.toWs,PySem.W.kqdPs] at r ⊢;cases r;show .nil
 | d::l,_,_,hk,r=>by
  simp only[Dt.hks,aO] at hk;simp only[Dt.toWs,PySem.W.kqdPs] at r ⊢
  cases r with
  | cons r1 r2=>show .cons (uc k hk.1 r1) (Mb k hk.2 r2)
end
def UM (h:Heap)(k:Dt)(a:Addr):Prop:=k.hk=true/\k.kk/\∃as,Reads h (.ref a) (PySem.W.kqdP k.toW) as
def Mc{x y:Dt}(B:x.eqOk)(F:y.eqOk):PyData.eqv (PySem.W.kqdP x.toW) (PySem.W.kqdP y.toW)=decide (x=y):=by rw[bS,b9,ef 8 _ _ 8 B F];show#[λh=>DI h,λh=>by rw[h]]
theorem Md:∀ {a b:List Bool},PyData.eqvAll (PySem.W.kqdPs (Dt.toWs (a.map Dt.bl))) (PySem.W.kqdPs (Dt.toWs (b.map Dt.bl)))=decide (a=b)
 | [],[]=>rfl
 | [],_::_=>rfl
 | _::_,[]=>rfl
 | x::a,y::b=>by have:=Md (a:=a) (b:=b);simp only[ax,Dt.toWs,Dt.toW,PySem.W.kqdPs,PySem.W.kqdP,PyData.eqvAll,PyData.eqv,this];cases x <;> cases y <;> simp
def UN{a b:List Bool}:a.map Dt.bl=b.map Dt.bl↔a=b:=dD λ_ _ z=>by cases z;rfl
theorem Me:∀ {a:List Bool},PyData.canLayAll0 (PySem.W.kqdPs (Dt.toWs (a.map Dt.bl)))=true/\PyData.depthAll (PySem.W.kqdPs (Dt.toWs (a.map Dt.bl)))<=0
 | []=>#[A5,ak _]
 | x::a=>by
  obtain⟨h1,h2⟩:=Me (a:=a);constructor;simpa [Dt.toWs,Dt.toW,PySem.W.kqdPs,PySem.W.kqdP,PyData.canLayAll0,PyData.canLay0] using h1;simpa [Dt.toWs,Dt.toW,PySem.W.kqdPs,PySem.W.kqdP,PyData.depthAll,PyData.depth] using h2
def Mf{bs:List Bool}{l:AS}(h:l.all Dt.isT=true):PyData.eqvAll (PySem.W.kqdPs (Dt.toWs (bs.map Dt.bl))) (PySem.W.kqdPs (Dt.toWs l))=decide (bs.map Dt.bl=l)/\PyData.eqvAll (PySem.W.kqdPs (Dt.toWs l)) (PySem.W.kqdPs (Dt.toWs (bs.map Dt.bl)))=decide (l=bs.map Dt.bl):=by
 cases bs with
 | nil=>
  cases l with
  | nil=>simp[Dt.toWs,PySem.W.kqdPs,PyData.eqvAll]
  | cons d l=>simp[Dt.toWs,PySem.W.kqdPs,PyData.eqvAll]
 | cons b bs=>
  cases l with
  | nil=>simp[Dt.toWs,PySem.W.kqdPs,PyData.eqvAll]
  | cons d l=>
   rw[cj,aO] at h
   cases d with
   | tup l'=>simp[Dt.toWs,Dt.toW,PySem.W.kqdPs,PySem.W.kqdP,PyData.eqvAll,PyData.eqv]
   | _=>cases h.1
def HF{x y:Dt}(B:x.kk)(F:y.kk):PyData.eqv (PySem.W.kqdP x.toW) (PySem.W.kqdP y.toW)=decide (x=y):=by
 cases x with
 | tup l=>
  cases y with
  | tup m=>
   rcases B with B | B <;> rcases F with F | F;show Mc B.1 F.1;obtain⟨bs,rfl⟩:=CH F;have:=(Mf (bs:=bs) B.2).2;simpa [Dt.toW,PySem.W.kqdP,PyData.eqv] using this;obtain⟨bs,rfl⟩:=CH B;have:=(Mf (bs:=bs) F.2).1;simpa [Dt.toW,PySem.W.kqdP,PyData.eqv] using this;obtain⟨bs,rfl⟩:=CH B;obtain⟨cs,rfl⟩:=CH F;have:=Md (a:=bs) (b:=cs);simpa [Dt.toW,PySem.W.kqdP,PyData.eqv,UN] using this
  | _=>show F.elim
 | _=>show B.elim
def HG{x:Dt}(B:x.kk):PyData.canLay0 (PySem.W.kqdP x.toW)=true/\(PySem.W.kqdP x.toW).depth<=8:=by
 cases x with
 | tup l=>
  rcases B with B | B;show ee 8 _ B.1;obtain⟨bs,rfl⟩:=CH B;obtain⟨h1,h2⟩:=Me (a:=bs);simp only[Dt.toW,PySem.W.kqdP,PyData.canLay0,PyData.depth];show#[h1,by lia]
 | _=>show B.elim
noncomputable def HH (P:Aa)(w:Ab):HeapKind P w Dt where
 is:=UM
 hash:=By
 draws:=drD
 room:=λA=>A.units+9<cLine
 inj:=λ{h a x y} B J=>by obtain⟨_,I,_,O⟩:=B;obtain⟨_,F,_,U⟩:=J;have:=SeqAt.Reads.unique _ _ _ _ _ (HG I).1 O U;have e:=HF I F;rw[this,HF F F,aD rfl] at e;show be e.symm
 keeps:=λ{h h' k a d o es ep} B ho hd hs=>by
  obtain⟨h1,h2,_,r⟩:=B;show#[h1,h2,_,uc (λb u vs n e _ Y=>?_) h1 r];by_cases hb:b=d;subst hb;rw[ho] at e;cases e;rw[hd] at Y;cases Y;show (hs.2 b hb).trans e
 pyHash:=λ{A E s k a Q} hu B q=>by obtain⟨h1,h2,_,r⟩:=B;show UK 8 (L_ h1 h2) r '!' q
 eqBool:=λ{A E s x y a b Q} hu B J q=>by obtain⟨h1,I,_,O⟩:=B;obtain⟨h2,F,_,U⟩:=J;have l1:=HG I;have l2:=HG F;show SeqAt.eqBoolOverData _ _ _ _ _ _ _ _ _ _ _ _ O U l1.1 l2.1 ?_ (by rw[HF I F];show q);have:min (PySem.W.kqdP x.toW).depth (PySem.W.kqdP y.toW).depth<=8:=av (Nat.min_le_left _ _) l1.2;lia
 quiet:=λB q=>by obtain⟨h1,h2,_,r⟩:=B;show UL 8 (L_ h1 h2) r q
def DDo (h:Heap)(a:Addr)(ks:List (Dt×Addr×V)):Prop:=ks.length<=sizeLine/\(a==sysModules)=false/\∃xs:List (Dt×Addr×Value),
 Paired (λp q=>p.1=q.1/\p.2.1=q.2.1/\ye p.2.2 q.2.2) ks xs/\∃o es ep,h.get? a=some o/\o.ExactDict/\o.data = .dict es ep/\es.toList=xs.map (λx=>#[By x.1,.ref x.2.1,x.2.2])/\(xs.map (·.1)).Nodup
def ddO (a:Addr)(ks:List (Dt×Addr×V)):HO:=.ext λh=>DDo h a ks
def HI(S:DDo h a ks):zJ P w H h a (ddO a ks):=by
 show#[S,?_,λh1 h2 q k=>?_];obtain⟨_,_,_,_,o,_,_,B,_⟩:=S;show#[o,B];obtain⟨z,lo,xs,r,o,es,ep,B,q⟩:=q;show#[z,lo,xs,r,o,es,ep,k o B,q]
def Fe:∀A7,pnK (ddO a ks)=some A7->Be A7 (Sum.inr "at" : Key)=none:=λA7 e=>by
 unfold ddO pnK at e;dsimp only at e;rw[if_neg] at e;cases e;rintro⟨d,ob,⟨F,I⟩,z⟩;have h1:DDo F a ks:=by rw[show DDo F a ks=_ from congrFun z F];show I
 obtain⟨J,lo,xs,r,o,es,ep,ho,⟨O,U,Y⟩,hd,q⟩:=h1;have k:∀B:Nat,({ o with data:=.dict es B }:Obj)=ob:=λB=>by have h2:DDo (#[Array.replicate (a+1) { o with data:=.dict es B },{}]:Heap) a ks:=#[J,lo,xs,r,{ o with data:=.dict es B },es,B,by simp[Heap.get?],#[O,U,Y],A5,q];rw[show DDo _ a ks=_ from congrFun z _] at h2;show (LQ h2).symm
 have:=congrArg Obj.data ((k 0).trans (k 1).symm);cases this
noncomputable def De (ks:List (Dt×Addr×V))(k:Dt):Option V:=(ks.find? λq=>decide (q.1=k)).map (·.2.2)
noncomputable def B3 (ks:List (Dt×Addr×V))(k:Dt)(b:Addr)(v:V):List (Dt×Addr×V):=if (De ks k).isSome then ks.map λq=>if q.1=k then (q.1,q.2.1,v) else q else ks++[(k,b,v)]
def ur (H:Hp)(ks:List (Dt×Addr×V)):Prop:=∀q∈ks,q.1.hk=true/\q.1.kk/\Is H q.1 (.ref q.2.1)
abbrev PrN (p:Dt×Addr×V)(q:Dt×Addr×Value):Prop:=p.1=q.1/\p.2.1=q.2.1/\ye p.2.2 q.2.2
def UO(r:Paired PrN ks xs)(k:Dt):BI (De ks k) ((atKey xs k).map (·.2)):=by
 unfold De atKey
 induction r with
 | nil=>trivial
 | cons h _ B=>
  obtain⟨F,I,h⟩:=h;rw[bV,bV,F];split;show h;show B
def UP(r:Paired PrN ks xs):∀ {x},x∈xs->∃p∈ks,PrN p x:=by
 induction r with
 | nil=>intro x B;cases B
 | @cons p q ps J a _ F=>
  intro x B;rcases au.mp B with rfl | B;show#[p,by simp,a];obtain⟨I,h1,h2⟩:=F B;show#[I,aj _ h1,h2]
theorem Mh:∀ {H:Hp} {bs:List Bool} {xs:AT} {us:AN} {h:Heap},IsL H (bs.map Dt.bl) xs->yf xs us->ReadsAll h us (PySem.W.kqdPs (Dt.toWs (bs.map Dt.bl))) []
 | _,[],_,_,_,i,v=>by cases i;cases v;show .nil
 | _,b::bs,_,_,_,i,v=>by
  obtain⟨x,r,rfl,h1,h2⟩:=i;cases h1
  cases v with
  | cons B F=>cases B;show .cons (.bool _) (Mh h2 F)
def Mi(I:'&')(h1:k.hk=true)(h2:k.kk)(h:Is H k (.ref b)):(HH X.prog X.w).is s.heap k b:=by
 show#[h1,h2,?_]
 cases k with
 | tup l=>
  rcases h2 with h2 | h2;show yT I.hok 8 h A5 h2.1;obtain⟨bs,rfl⟩:=CH h2;obtain⟨a,xs,e,B,F⟩:=h;cases e;obtain⟨_,J,O,o,U,Y,⟨m,hd⟩,_⟩:=I.hok _ _ B;show#[_,reads_tuple_at U Y hd (by simpa using Mh F O)]
 | _=>show h2.elim
def UQ(I:'&')(h:Rd H a (ddO a ks))(B:ur H ks):(a==sysModules)=false/\ks.length<=sizeLine/\∃xs,Paired PrN ks xs/\s.heap.DictOfH (HH X.prog X.w) a xs:=by obtain⟨⟨z,lo,xs,r,o,es,ep,F,h1,h2,J,O⟩,_⟩:=(show zJ X.prog X.w H s.heap a (ddO a ks) from h.ok I.hok);show#[lo,z,xs,r,o,es,ep,F,h1,h2,J,λx U=>?_,O];obtain⟨p,hp,Y,e2,_⟩:=UP r U;obtain⟨k1,k2,k3⟩:=B p hp;rw[<- Y,<- e2];show Mi I k1 k2 k3
end
def BM (B:Bool)(T:Hp)(a:Addr)(ks:List (Dt×Addr×V)):Prop:=if B=true then ∃ob,T a=some (.frz ob (ddO a ks)) else T a=some (ddO a ks)
def BM.rd(h:BM B T a ks):Rd T a (ddO a ks):=by
 cases B with
 | true=>show .inr (by simpa [BM] using h)
 | false=>show .inl (by simpa [BM] using h)
def BM.imp(h:BM B T a ks)(t:∀o,(∀A7,pnK o=some A7->Be A7 (Sum.inr "at" : Key)=none)->T a=some o->T' a=some o):BM B T' a ks:=by
 cases B with
 | true=>
  obtain⟨ob,e⟩:∃ob,T a=some (.frz ob (ddO a ks)):=by simpa [BM] using h
  show (if_pos A5).mpr #[ob,t _ (λ_ z=>by cases z) e]
 | false=>show t _ Fe (by simpa [BM] using h)
def ur.stay(h:ur BA ks)(s:zq BA G'):ur G' ks:=λq B=>let ⟨h1,h2,h3⟩:=h q B;#[h1,h2,h3.stay s]
def kvN (ks:List (Dt×Addr×V)):List (Dt×V):=ks.map λq=>(q.1,q.2.2)
end L2
namespace L3
open L2
abbrev UR:=Addr×Addr×List Int
abbrev imm:HO->Bool
 | .lst _=>false
 | .dK _=>false
 | .dT _=>false
 | .ext _=>false
 | _=>true
def Mt (o:HO):Prop:=imm o=false
def Mt.tup(h:Mt o):∀xs,o≠.tup xs:=λ_ e=>by subst e;cases h
def NP (o:HO):Prop:=∀A7,pnK o=some A7->Be A7 (Sum.inr "at" : Key)=none
def NP.lst:NP '+':=λ_ e=>by cases e
structure Jv where
 K:(AL)->Hp->Prop
 same:∀ {A:AL} {H H':Hp},K A H->yL H H'->K A H'
 grow:∀ {A A':AL} {H:Hp},K A' H->(∀a,A a->A' a\/∃o,H a=some o/\NP o/\Mt o)->K A H
 upd:∀ {A:AL} {H:Hp} {p:Addr} {o:HO},K A H->A p->K A (L2.upd H p o)
 frz:∀ {A:AL} {H:Hp} {p:Addr} {o o':HO},K A H->H p=some o->NP o->Mt o->K A (L2.upd H p o')
structure PN where
 pn:Option UR
 J:Jv
def J0:Jv:=#[λ_ _=>True,λ_ _=>trivial,λ_ _=>trivial,λ_ _=>trivial,λ_ _ _ _=>trivial]
structure CuW where
 at_:Hp->Hp->AL
 mv:∀ {T T' BA G':Hp} {a:Addr},(∀o,T a=some o->NP o->T' a=some o)->zq BA G'->at_ T BA a->at_ T' G' a
inductive W where
 | d (x:Dt) | pen (p:Addr) | dk (A7:List (Key×Dt)) | dt (A7:List (AG×Dt)) | ss (P:Aa) (w:Ab) (ks:AF) | df (A7:List (AG×Dt)) | kf (A7:List (Key×Dt)) | fl (l:AS) | ad (a:Addr) (x:Dt) | tz (A7:List (AG×Dt)) (x:Dt) | dn (fz:Bool) (A7:List (Dt×Dt)) | wd (d:Addr) (fs:List (Key×Dt)) (kn:List (AG×Dt)) | lf (ls:List AS) | cu (k:CuW)
abbrev AV:=W->Nat->Prop
abbrev AU:=List W
abbrev Mo (α:Type):=Nat->(α->Nat->Prop)->Prop
abbrev Ev:=List (Option W)
abbrev iJ:=W->Ev->(Ev->Prop)->Prop
abbrev AD:=Ev->Mo W
variable{f fa fb fc fe:AD}{Pn:PN}{D:Ev}
abbrev AC:=Ev->Mo AU
open Classical in
noncomputable def zF (A:AL)(H:Hp):Hp:=λb=>if A b then none else H b
section
variable{A A0:AL}{a b:Addr}{o:HO}
def zY:zF A H b=some o↔¬ A b/\H b=some o:=by
 unfold zF;grind
def zv (h:¬ A b)(e:H b=some o):zF A H b=some o:=zY.mpr #[h,e]
def zw:yL (zF A H) H:=λb o e=>(zY.mp e).2
def _root_.L2.Rd.sub(h:Rd (zF A H) b u):Rd H b u:=h.imp (zw b _) λ⟨o,h⟩=>#[o,zw b _ h]
def _root_.L2.Rd.hid(h:Rd H b u)(n:¬ A b):Rd (zF A H) b u:=h.imp (zv n) λ⟨o,h⟩=>#[o,zv n h]
def zr (s:zq H H'):zq (zF A H) (zF A H'):=λb o e n=>zv (zY.mp e).1 (s b o (zY.mp e).2 n)
def Ff (s:yL H H'):yL (zF A H) (zF A H'):=λb o e=>zv (zY.mp e).1 (s b o (zY.mp e).2)
def yx (h:∀b,A0 b->A b):yL (zF A H) (zF A0 H):=λb o e=>zv (λz=>(zY.mp e).1 (h b z)) (zY.mp e).2
def zH (h:A a):zF A (upd H a o)=zF A H:=by
 funext b;unfold zF;by_cases B:A b;simp[B];have:b≠a:=λe=>B (e ▸ h);simp[B,zc this]
end
def DAt (T BA:Hp):Dt->V->Prop
 | .lst l,v=>∃a xs,v = .ref a/\Rd T a '+'/\IsL BA l xs
 | .dct,v=>∃a A7,v = .ref a/\T a=some (.dK A7)/\A7=[]
 | .non,v=>Is BA .non v
 | .bl b,v=>Is BA (.bl b) v
 | .int i,v=>Is BA (.int i) v
 | .str x,v=>Is BA (.str x) v
 | .tup l,v=>Is BA (.tup l) v
def DAt.is(h:DAt BA BA x v):Is BA x v:=by cases x <;> show h
def DAt.of(h:Is BA x v):DAt BA BA x v:=by cases x <;> show h
def DAt.up(t:zq T T')(g:zq BA G')(h:DAt T BA x v):DAt T' G' x v:=by
 cases x with
 | lst l=>obtain⟨a,xs,e,h1,h2⟩:=h;show#[a,xs,e,t.rdl h1,h2.stay g]
 | dct=>obtain⟨a,A7,e,h1,h2⟩:=h;show#[a,A7,e,t _ _ h1 λk q=>by cases q;subst h2;rfl,h2]
 | _=>show Is.stay g h
def DAt.full(t:yL T H)(g:yL BA H)(h:DAt T BA x v):Is H x v:=(DAt.up (zq.same t) (zq.same g) h).is
def xN (BA:Hp):List (κ×Dt)->List (κ×V)->Prop
 | [],ks=>ks=[]
 | q::r,ks=>∃v s,ks=(q.1,v)::s/\Is BA q.2 v/\xN BA r s
theorem xN.stay{BA:Hp}(s:zq BA G'):∀ {A7:List (κ×Dt)} {ks:List (κ×V)},xN BA A7 ks->xN G' A7 ks
 | [],_,h=>h
 | q::r,ks,⟨v,t,e,h1,h2⟩=>#[v,t,e,h1.stay s,xN.stay s h2]
def SIs (BA:Hp)(ks:AF)(xs:AE):Prop:=ks=xs.map (·.1)/\(∀q∈xs,BA q.2=some (.tup (q.1.map V.int)))/\ks.Nodup
def SIs.stay{ks:AF}{xs:AE}(h:SIs BA ks xs)(s:zq BA G'):SIs G' ks xs:=#[h.1,λq B=>s _ _ (h.2.1 q B) (λ_ e=>by cases e),h.2.2]
noncomputable def HJ (a:Addr)(H:Hp):Hp:=zF (λb=>b≠a/\∃xs,H b=some '+') H
def US(s:zq H H'):zq (HJ a H) (HJ a H'):=λb o e n=>by obtain⟨h1,h2⟩:=zY.mp e;have B:=s b o h2 n;show zv (λz=>h1 #[z.1,?_]) B;obtain⟨xs,F⟩:=z.2;rw[B] at F;cases F;show#[_,h2]
def Fg (BA:Hp)(d:Addr)(fs:List (Key×Dt))(I:List (AG×Dt))(ks:List (Key×V)):Prop:=Be ks (Sum.inr "at" : Key)=none/\∃B kd ob F,ks=B++([(Sum.inr "known",V.ref kd),(Sum.inr "wide",V.ref d)]:List (Key×V))/\xN BA fs B/\BA kd=some (.frz ob (dtO F))/\xN BA I F
def Fg.stay{I:List (AG×Dt)}(h:Fg BA d fs I ks)(s:zq BA G'):Fg G' d fs I ks:=by obtain⟨J,B,kd,ob,F,h1,h2,O,U⟩:=h;show#[J,B,kd,ob,F,h1,h2.stay s,s _ _ O (λk q=>by cases q),U.stay s]
def Df (BA:Hp):List AS->AT->Prop
 | [],xs=>xs=[]
 | l::r,xs=>∃b o ys s,xs = .ref b::s/\BA b=some (.frz o (.lst ys))/\IsL BA l ys/\Df BA r s
theorem Df.stay(s:zq BA G'):∀ {B:List AS} {xs:AT},Df BA B xs->Df G' B xs
 | [],_,h=>h
 | _::_,_,⟨b,o,ys,t,e,h1,h2,F⟩=>#[b,o,ys,t,e,s _ _ h1 (λk q=>by cases q),h2.stay s,Df.stay s F]
def WAt (T BA:Hp):W->V->Prop
 | .d x,v=>DAt T BA x v
 | .pen p,v=>v = .ref p
 | .dk A7,v=>∃a ks,v = .ref a/\T a=some (.dK ks)/\xN BA A7 ks/\Be ks (Sum.inr "at" : Key)=none
 | .dt A7,v=>∃a ks,v = .ref a/\T a=some (dtO ks)/\xN BA A7 ks
 | .ss P w ks,v=>∃a xs,v = .ref a/\T a=some (Bv P w a (uG xs))/\SIs BA ks xs
 | .dn B A7,v=>∃a ks,v = .ref a/\BM B T a ks/\ur BA ks/\xN BA A7 (kvN ks)
 | .wd d fs F,v=>∃a ks,v = .ref a/\T a=some (.dK ks)/\Fg BA d fs F ks
 | .lf I,v=>∃a xs,v = .ref a/\Rd T a '+'/\Df BA I xs
 | .cu k,v=>∃a,v = .ref a/\k.at_ T BA a
 | .df A7,v=>∃a ob ks,v = .ref a/\T a=some (.frz ob (dtO ks))/\xN BA A7 ks
 | .kf A7,v=>∃a ob ks,v = .ref a/\T a=some (.frz ob (.dK ks))/\xN BA A7 ks
 | .fl l,v=>∃a ob xs,v = .ref a/\T a=some (.frz ob '+')/\IsL BA l xs
 | .ad a x,v=>(∃b,v = .ref b)/\Is (HJ a BA) x v
 | .tz A7 x,v=>∃a b ob ks y,v = .ref a/\BA a=some (.tup [.ref b,y])/\BA b=some (.frz ob (dtO ks))/\xN BA A7 ks/\Is BA x y
def WAt.up{w:_}(t:zq T T')(g:zq BA G')(h:WAt T BA w v):WAt T' G' w v:=by
 cases w with
 | d x=>show DAt.up t g h
 | pen p=>show h
 | dk A7=>
  obtain⟨a,ks,e,h1,h2,B⟩:=h;show#[a,ks,e,t _ _ h1 λk q=>by cases q;show B,h2.stay g,B]
 | dt A7=>
  obtain⟨a,ks,e,h1,h2⟩:=h;show#[a,ks,e,t _ _ h1 (λk q=>by cases q),h2.stay g]
 | dn I A7=>
  obtain⟨a,ks,e,h1,h2,B⟩:=h;show#[a,ks,e,h1.imp λo n q=>t a o q n,h2.stay g,B.stay g]
 | wd d fs J=>
  obtain⟨a,ks,e,h1,h2⟩:=h;show#[a,ks,e,t _ _ h1 (λk q=>by cases q;show h2.1),h2.stay g]
 | cu k=>
  obtain⟨a,e,h1⟩:=h;show#[a,e,k.mv (λo z n=>t a o z n) g h1]
 | lf O=>
  obtain⟨a,xs,e,h1,h2⟩:=h;show#[a,xs,e,t.rdl h1,h2.stay g]
 | ss P w A7=>
  obtain⟨a,ks,e,h1,h2⟩:=h;show#[a,ks,e,t _ _ h1 Fa,h2.stay g]
 | df A7=>
  obtain⟨a,ob,ks,e,h1,h2⟩:=h;show#[a,ob,ks,e,t _ _ h1 (λk q=>by cases q),h2.stay g]
 | kf A7=>
  obtain⟨a,ob,ks,e,h1,h2⟩:=h;show#[a,ob,ks,e,t _ _ h1 (λk q=>by cases q),h2.stay g]
 | fl A7=>
  obtain⟨a,ob,ks,e,h1,h2⟩:=h;show#[a,ob,ks,e,t _ _ h1 (λk q=>by cases q),h2.stay g]
 | ad a x=>show#[h.1,Is.stay (US g) h.2]
 | tz A7 x=>
  obtain⟨a,b,ob,ks,y,e,h1,h2,B,F⟩:=h;show#[a,b,ob,ks,y,e,g.tup h1,g _ _ h2 (λk q=>by cases q),B.stay g,F.stay g]
abbrev W.mut:W->Bool
 | .d (.lst _)=>true
 | .d .dct=>true
 | .dk _=>true
 | .dt _=>true
 | .ss _ _ _=>true
 | .dn false _=>true
 | _=>false
abbrev Val (A:AL)(H:Hp)(w:W)(v:V):Prop:=WAt (zF A H) (zF A H) w v
abbrev Bor (A:AL)(H:Hp)(w:W)(v:V):Prop:=WAt H (zF A H) w v
def Val.bor{w:_}(h:Val A H w v):Bor A H w v:=WAt.up (zq.same zw) (zq.refl _) h
def Val.stay{w:_}(h:Val A H w v)(s:zq H H'):Val A H' w v:=WAt.up (zr s) (zr s) h
def Bor.stay{w:_}(h:Bor A H w v)(s:zq H H'):Bor A H' w v:=WAt.up s (zr s) h
def Bor.is(h:Bor A H (.d x) v):Is H x v:=DAt.full (T_ _) zw h
def Val.is(h:Val A H (.d x) v):Is (zF A H) x v:=DAt.is h
def Val.of(h:Is (zF A H) x v):Val A H (.d x) v:=DAt.of h
mutual
theorem UT {A:AL}{H:Hp}(hA:∀a xs,A a->H a≠some (.tup xs)):∀ {x:Dt} {v:V},x.noL=true->Is H x v->Is (zF A H) x v
 | .non,_,_,h=>h
 | .bl _,_,_,h=>h
 | .int _,_,_,h=>h
 | .str _,_,_,h=>h
 | .tup l,_,n,h=>by obtain⟨p,xs,e,hp,hl⟩:=h;show#[p,xs,e,zv (λz=>hA p xs z hp) hp,CI hA (by simpa [Dt.noL] using n) hl]
 | .lst l,_,n,_=>by simp[Dt.noL] at n
 | .dct,_,n,_=>by simp[Dt.noL] at n
theorem CI {A:AL}{H:Hp}(hA:∀a xs,A a->H a≠some (.tup xs)):∀ {ds:AS} {xs:AT},Dt.noLs ds=true->IsL H ds xs->IsL (zF A H) ds xs
 | [],_,_,h=>h
 | d::ds,xs,n,h=>by
  obtain⟨x,r,e,h1,h2⟩:=h;have n':(d.noL&&Dt.noLs ds)=true:=by simpa [Dt.noLs] using n
  rw[aO] at n';show#[x,r,e,UT hA n'.1 h1,CI hA n'.2 h2]
end
def y8 (Pn:PN)(A:AL)(n:Nat)(H:Hp):Prop:=
 (match Pn.pn with
 | none=>True
 | some (p,c,ns)=>Pen H p c ns n/\¬ A c/\¬ A p)/\Pn.J.K A H
def Own (A:AL)(H:Hp)(w:W)(v:V):Prop:=∃a,v = .ref a/\A a/\Bor A H w v/\w.mut=true
def Al (A:AL)(H:Hp):Prop:=∀a,A a->∃o,H a=some o/\NP o/\Mt o
structure EnvR (A:AL)(M:AR)(G:St)(H:Hp)(D:Ev):Prop where
 len:G.length=D.length
 val:∀i w,D[i]?=some (some w)->∃v,G[i]?=some (some v)/\(i∉M->Val A H w v)/\(i∈M->Own A H w v)
 dis:∀i j w u a,i∈M->j∈M->i≠j->D[i]?=some (some w)->D[j]?=some (some u)->G[i]?=some (some (.ref a))->G[j]?≠some (some (.ref a))
 al:Al A H
def _root_.L2.Rd.own(h:Rd H a '+')(B:Al A H)(F:A a):H a=some '+':=by
 rcases h with h | ⟨o,h⟩;show h;obtain⟨u,e,_,m⟩:=B a F;rw[h] at e;cases e;cases m
def EnvR.stay(E:EnvR A M G H D)(s:zq H H'):EnvR A M G H' D where
 len:=E.len
 val:=λi w e=>by obtain⟨v,h1,h2,B⟩:=E.val i w e;show#[v,h1,λz=>(h2 z).stay s,λz=>?_];obtain⟨a,e,F,I,J⟩:=B z;show#[a,e,F,I.stay s,J]
 dis:=E.dis
 al:=λa h=>by obtain⟨o,h1,h2,B⟩:=E.al a h;show#[o,s _ _ h1 h2,h2,B]
def EnvR.new{p:_}(E:EnvR A M G H D)(h:H p=none):¬ A p:=λz=>by
 obtain⟨o,h1,_⟩:=E.al p z;grind
def Fr (H:Hp)(a:Addr):Prop:=∀o,H a=some o->¬ NP o
def Fr.of(h:H a=none):Fr H a:=λo e=>by rw[h] at e;cases e
def Fr.back(h:Fr H1 a)(s:zq H H1):Fr H a:=λo e n=>h o (s _ _ e n) n
def FrV (A:AL)(H H':Hp)(w:W)(v:V):Prop:=∃a,v = .ref a/\Fr H a/\(∃o,H' a=some o/\Mt o)/\WAt H' (zF (λb=>A b\/b=a) H') w v
def FrV.back{w:_}(h:FrV A H1 H' w v)(s:zq H H1):FrV A H H' w v:=let ⟨a,e,f,g⟩:=h;#[a,e,f.back s,g]
def FrV.less{w:_}(h:FrV A H H' w v)(s:∀a,A0 a->A a):FrV A0 H H' w v:=let ⟨a,e,f,m,g⟩:=h;#[a,e,f,m,WAt.up (zq.refl _) (zq.same (yx λb z=>z.elim (λz=>.inl (s b z)) .inr)) g]
def EnvR.newF{p:_}(E:EnvR A M G H D)(h:Fr H p):¬ A p:=λz=>by obtain⟨o,h1,h2,_⟩:=E.al p z;show h o h1 h2
def yy{p:_}(s:zq H H')(n:Fr H p):zq (zF A H) (zF (λb=>A b\/b=p) H'):=λb o e np=>by obtain⟨h1,h2⟩:=zY.mp e;show zv (λz=>z.elim h1 λz=>by subst z;show n o h2 np) (s b o h2 np)
structure Go (Pn:PN)(A:AL)(H:Hp)(n:Nat)(H':Hp):Prop where
 st:zq H H'
 pn:y8 Pn A n H'
def Go.trans(a:Go Pn A H n H1)(b:Go Pn A H1 m H2):Go Pn A H m H2:=#[a.st.trans b.st,b.pn]
structure RE (Pn:PN)(M:AR)(fr:Bool)(te:TE)(f:AD):Prop where
 run:∀A G H D n Q R,EnvR A M G H D->y8 Pn A n H->f D n R->(∀w m v H',R w m->Val A H' w v->Go Pn A H m H'->(fr=true->FrV A H H' w v)->Q v H')->te G H Q
structure RB (Pn:PN)(M:AR)(te:TE)(f:AD):Prop where
 run:∀A G H D n Q R,EnvR A M G H D->y8 Pn A n H->f D n R->(∀w m v H',R w m->Bor A H' w v->Go Pn A H m H'->Q v H')->te G H Q
structure RT (Pn:PN)(M:AR)(te:TT)(f:Ev->Mo Bool):Prop where
 run:∀A G H D n Q R,EnvR A M G H D->y8 Pn A n H->f D n R->(∀b m H',R b m->Go Pn A H m H'->Q b H')->te G H Q
def DS (A:AL)(H:Hp):AU->AT->Prop
 | [],vs=>vs=[]
 | w::B,vs=>∃v r,vs=v::r/\Bor A H w v/\DS A H B r
def Bd (A:AL)(H:Hp):AU->AT->Prop
 | [],vs=>vs=[]
 | w::B,vs=>∃v r,vs=v::r/\Val A H w v/\Bd A H B r
theorem Bd.bor:∀ {B:AU} {vs:AT},Bd A H B vs->DS A H B vs
 | [],_,h=>h
 | _::_,_,⟨v,r,e,h1,h2⟩=>#[v,r,e,h1.bor,Bd.bor h2]
structure RA (Pn:PN)(M:AR)(ta:TA)(f:AC):Prop where
 run:∀A G H D n Q R,EnvR A M G H D->y8 Pn A n H->f D n R->(∀ws m vs H',R ws m->Bd A H' ws vs->Go Pn A H m H'->Q vs H')->ta G H Q
structure RAB (Pn:PN)(M:AR)(ta:TA)(f:AC):Prop where
 run:∀A G H D n Q R,EnvR A M G H D->y8 Pn A n H->f D n R->(∀ws m vs H',R ws m->DS A H' ws vs->Go Pn A H m H'->Q vs H')->ta G H Q
structure Kt where
 nx:Ev->Nat->Prop
 rt:AV
 bk:Ev->Nat->Prop:=λ_ _=>False
 ct:Ev->Nat->Prop:=λ_ _=>False
abbrev Ms:=Ev->Nat->Kt->Prop
def StX (B:AL)(H0 H:Hp):Prop:=∀b o,H0 b=some o->NP o->¬ B b->H b=some o
def StX.of(s:zq H0 H):StX B H0 H:=λb o e n _=>s b o e n
def StX.stay(s:StX (λ_=>False) H0 H):zq H0 H:=λb o e n=>s b o e n λz=>z
structure Frm (A0:AL)(H0:Hp)(ca:AL)(A:AL)(H:Hp):Prop where
 sub:∀a,A0 a->A a
 new:∀a,A a->A0 a\/Fr H0 a\/ca a
 st:StX ca H0 H
 al:Al A0 H0
 cn:∀a,ca a->¬ A0 a
 cs:∀a,ca a->∃o,H a=some o/\NP o
def Frm.back(f:Frm A0 H0 B A H)(h:Fr H a)(n:¬ A a):Fr H0 a:=λo e np=>h o (f.st a o e np λz=>let ⟨o2,e2,n2⟩:=f.cs a z;h o2 e2 n2) np
structure Bs where
 ca:AL:=λ_=>False
 A0:AL
 H0:Hp
 G0:Hp
 σ0:St
def NoL (BA:Hp):Prop:=∀a xs,BA a≠some '+'
structure At3 (Pn:PN)(B:Bs)(S M:AR)(A:AL)(G:St)(H:Hp)(D:Ev)(n:Nat):Prop where
 env:EnvR A M G H D
 frm:Frm B.A0 B.H0 B.ca A H
 pn:y8 Pn A n H
 prot:zq B.G0 (zF A H)
 fix:(∀i∈S,G[i]?=B.σ0[i]?)/\(9999∈S->NoL B.G0/\NoL B.H0)
 mine:∀i w a,i∈M->D[i]?=some (some w)->G[i]?=some (some (.ref a))->Fr B.H0 a\/B.ca a
structure KOk (Pn:PN)(B:Bs)(S M:AR)(fr:Bool)(k:Kt)(BB:Ends):Prop where
 nx:∀A G H D n,At3 Pn B S M A G H D n->k.nx D n->BB.nx G H
 bk:∀A G H D n,At3 Pn B S M A G H D n->k.bk D n->BB.bk G H
 ct:∀A G H D n,At3 Pn B S M A G H D n->k.ct D n->BB.ct G H
 fc:∀a,¬ B.ca a
 rt:∀w n v H,Val B.A0 H w v->StX B.ca B.H0 H->y8 Pn B.A0 n H->(fr=true->FrV B.A0 B.H0 H w v)->k.rt w n->BB.rt v H
structure RS (Pn:PN)(S M:AR)(fr:Bool)(ts:TS)(fs:Ms):Prop where
 run:∀B A G H D n k BB,At3 Pn B S M A G H D n->KOk Pn B S M fr k BB->fs D n k->ts BB G H
structure RG (S M:AR)(g:TG)(mg:W->Ev->(Ev->Prop)->Prop):Prop where
 run:∀A G H D v w Q R,EnvR A M G H D->Val A H w v->mg w D R->(∀ σ' ρ',R ρ'->EnvR A M σ' H ρ'->(∀i∈S,σ'[i]?=G[i]?/\ρ'[i]?=D[i]?)->Q σ' H)->g v G H Q
structure RGs (S M:AR)(g:TGs)(mg:AS->Ev->(Ev->Prop)->Prop):Prop where
 run:∀A G H D vs ds Q R,EnvR A M G H D->IsL (zF A H) ds vs->mg ds D R->(∀ σ' ρ',R ρ'->EnvR A M σ' H ρ'->(∀i∈S,σ'[i]?=G[i]?/\ρ'[i]?=D[i]?)->Q σ' H)->g vs G H Q
structure ItV (ow:Bool)(A:AL)(H:Hp)(J:It)(l:AU):Prop where
 one:∀i w A2 H2,l[i]?=some w->zq (zF A H) (zF A2 H2)->(ow=true->zq H H2)->(∀p,H2 p=none->¬ A2 p)->J.go i H2/\∀x H3,J.yld i H2 x H3->yL H2 H3/\Val A2 H3 w x
 stop:∀A2 H2,zq (zF A H) (zF A2 H2)->(ow=true->zq H H2)->J.stop l.length H2
structure RI (Pn:PN)(M:AR)(ow:Bool)(wi:TI)(f:AC):Prop where
 run:∀A G H D n Q R,EnvR A M G H D->y8 Pn A n H->f D n R->(∀l m J H',R l m->ItV ow A H' J l->Go Pn A H m H'->Q J H')->wi G H Q
def RE.rb(h:RE Pn M fr te f):RB Pn M te f:=
 #[λA G H D n Q R E P hf k=>h.run A G H D n Q R E P hf λw m v H' r a g _=>k w m v H' r a.bor g]
def RA.rab{f te:_}(h:RA Pn M te f):RAB Pn M te f:=
 #[λA G H D n Q R E P hf k=>h.run A G H D n Q R E P hf λw m v H' r a g=>k w m v H' r a.bor g]
def y8.same(h:y8 Pn A n H)(s:yL H H'):y8 Pn A n H':=by
 show#[?_,Pn.J.same h.2 s];have h:=h.1;split at h;trivial;show#[h.1.same s,h.2]
def Go.same(h:y8 Pn A n H)(s:yL H H'):Go Pn A H n H':=#[zq.same s,h.same s]
def Go.refl(h:y8 Pn A n H):Go Pn A H n H:=#[zq.refl _,h]
structure JE (X:Cx)(Pn:PN)(M:AR)(fr:Bool)(e:Expr)(f:AD):Prop where
 ex:∃te,QE X e te/\RE Pn M fr te f
structure JB (X:Cx)(Pn:PN)(M:AR)(e:Expr)(f:AD):Prop where
 ex:∃te,QE X e te/\RB Pn M te f
structure JT (X:Cx)(Pn:PN)(M:AR)(e:Expr)(f:Ev->Mo Bool):Prop where
 ex:∃te,QT X e te/\RT Pn M te f
structure JW (X:Cx)(Pn:PN)(M:AR)(e:Expr)(f:Ev->Mo Bool):Prop where
 ex:∃te,QW X e te/\RT Pn M te f
structure JA (X:Cx)(Pn:PN)(M:AR)(es:AO)(f:AC):Prop where
 ex:∃te,QA X es te/\RA Pn M te f
structure JAB (X:Cx)(Pn:PN)(M:AR)(es:AO)(f:AC):Prop where
 ex:∃te,QA X es te/\RAB Pn M te f
structure JO (X:Cx)(Pn:PN)(M:AR)(e:Option Expr)(f:Ev->Mo AQ):Prop where
 ex:∃t,QO X e t/\∀A G H D n Q R,EnvR A M G H D->y8 Pn A n H->f D n R->(∀o m H',R o m->Go Pn A H m H'->Q o H')->t G H Q
section
variable{a b:Expr}{pos:Pos}
def DT (i:Nat):AD:=λD n Q=>∃w,D[i]?=some (some w)/\Q w n
abbrev mC (w:W):AD:=λ_ n Q=>Q w n
abbrev Cp (F:W->W->Mo W)(fa fb:AD):AD:=λD n Q=>fa D n λx n1=>fb D n1 λy n2=>F x y n2 Q
abbrev mUn (F:W->Mo W)(fa:AD):AD:=λD n Q=>fa D n λx n1=>F x n1 Q
def CJ (fa:AD):Ev->Mo Bool:=λD n Q=>fa D n λx n1=>∃c,x = .d (.bl c)/\Q c n1
def Fh (t u:Ev->Mo Bool):Ev->Mo Bool:=λD n Q=>t D n λc n1=>if c=true then u D n1 Q else Q false n1
def mOr (t u:Ev->Mo Bool):Ev->Mo Bool:=λD n Q=>t D n λc n1=>if c=true then Q true n1 else u D n1 Q
def HK (t:Ev->Mo Bool):Ev->Mo Bool:=λD n Q=>t D n λc n1=>Q (!c) n1
def HL (fa fb:AD):AD:=λD n Q=>fa D n λx n1=>∃c,x = .d (.bl c)/\if c=true then fb D n1 Q else Q (.d (.bl false)) n1
def mIf (t:Ev->Mo Bool)(fa fb:AD):AD:=λD n Q=>t D n λc n1=>if c=true then fa D n1 Q else fb D n1 Q
abbrev Fi:AC:=λ_ n Q=>Q [] n
abbrev CK (fa:AD)(fr:AC):AC:=λD n Q=>fa D n λx n1=>fr D n1 λxs n2=>Q (x::xs) n2
abbrev HM (F:AU->Mo W)(fa:AC):AD:=λD n Q=>fa D n λxs n1=>F xs n1 Q
def JE.bo (h:JE X Pn M fr e f):JB X Pn M e f:=let ⟨te,h1,h2⟩:=h.ex;#[te,h1,h2.rb]
def JA.bo{f:AC}(h:JA X Pn M es f):JAB X Pn M es f:=let ⟨te,h1,h2⟩:=h.ex;#[te,h1,h2.rab]
def UU(hi:i∉M):RE Pn M false (BX i) (DT i):=#[λA G H D n Q R E P hf k=>by obtain⟨w,e,r⟩:=hf;obtain⟨v,h1,h2,_⟩:=E.val i w e;show#[v,h1,k w n v H r (h2 hi) (Go.refl P) λz=>by cases z]]
def UV:RB Pn M (BX i) (DT i):=#[λA G H D n Q R E P hf k=>by
 obtain⟨w,e,r⟩:=hf;obtain⟨v,h1,h2,B⟩:=E.val i w e;show#[v,h1,k w n v H r ?_ (Go.refl P)];by_cases hi:i∈M;obtain⟨a,_,_,h,_⟩:=B hi;show h;show (h2 hi).bor]
def DU (i:Nat){x:Str}(hi:i∉M:=by ext)(F:X.N[i]?=some x:=by rfl)(I:Vis X.env.scope x:=by fail"v")(J:Ah x:=by ext)(B:h_ x:=by ext):JE X Pn M false (.Name x pos) (DT i):=#[_,qv i F I J B,UU hi]
def UW(i:Nat)(F:X.N[i]?=some x:=by rfl)(I:Vis X.env.scope x:=by fail"v")(J:Ah x:=by ext)(B:h_ x:=by ext):JB X Pn M (.Name x pos) (DT i):=#[_,qv i F I J B,UV]
def Fj(h:∀BA,Is BA x v):RE Pn M false (tC v) (mC (.d x)):=#[λA G H D n Q R E P hf k=>k _ n v H hf (Val.of (h _)) (Go.refl P) λz=>by cases z]
def zi{i:Int}:JE X Pn M false (.Constant (.int i) j pos) (mC (.d (.int i))):=#[_,yv,Fj λ_=>rfl]
def BN:JE X Pn M false (.Constant (.bool k) j pos) (mC (.d (.bl k))):=#[_,Kw,Fj λ_=>rfl]
def UX:JE X Pn M false (.Constant .none j pos) (mC (.d .non)):=#[_,Kx,Fj λ_=>rfl]
def UY{i:Int}(B:Gl X x)(h:∃w,ye (.int i) w/\X.mg x=some w)(F:Ah x:=by ext):JE X Pn M false (.Name x pos) (mC (.d (.int i))):=#[_,Gx B h F,Fj λ_=>rfl]
def Al.new{A:AL}(h:Al A H){p:Addr}(e:H p=none):¬ A p:=λz=>by
 obtain⟨o,h1,_⟩:=h p z;grind
def Al.stay(h:Al A H)(s:zq H H'):Al A H':=λa z=>by obtain⟨o,h1,h2,B⟩:=h a z;show#[o,s _ _ h1 h2,h2,B]
def Al.noT(h:Al A H):∀a xs,A a->H a≠some (.tup xs):=λa xs z e=>by
 obtain⟨o,h1,_,B⟩:=h a z;have:=B.tup;grind
def Al.noT'{A:AL}(h:Al A H)(s:zq H H'){p:Addr}{xs:AT}(e:H' p=some (.tup xs)):¬ A p:=λz=>(h.stay s).noT p xs z e
structure F2 (Pn:PN)(fr:Bool)(r:R2)(F:W->W->Mo W):Prop where
 run:∀A H x y wx wy n Q R,Al A H->Bor A H wx x->Bor A H wy y->y8 Pn A n H->F wx wy n R->(∀w m v H',R w m->Val A H' w v->Go Pn A H m H'->(fr=true->FrV A H H' w v)->Q v H')->r x y H Q
structure F1 (Pn:PN)(fr:Bool)(r:V->Hp->VK->Prop)(F:W->Mo W):Prop where
 run:∀A H x wx n Q R,Al A H->Bor A H wx x->y8 Pn A n H->F wx n R->(∀w m v H',R w m->Val A H' w v->Go Pn A H m H'->(fr=true->FrV A H H' w v)->Q v H')->r x H Q
structure FL (Pn:PN)(fr:Bool)(r:AT->Hp->VK->Prop)(F:AU->Mo W):Prop where
 run:∀A H xs ws n Q R,Al A H->DS A H ws xs->y8 Pn A n H->F ws n R->(∀w m v H',R w m->Val A H' w v->Go Pn A H m H'->(fr=true->FrV A H H' w v)->Q v H')->r xs H Q
def Fk(B:F2 Pn fr r F)(I:RB Pn M ta fa)(J:RB Pn M tb fb):RE Pn M fr (tOp r ta tb) (Cp F fa fb):=#[λA G H D n Q R E P hf k=>by show I.run A G H D n _ _ E P hf λx n1 O H1 U Y g1=>?_;show J.run A G H1 D n1 _ _ (E.stay g1.st) g1.pn U λy n2 v2 H2 r2 b2 g2=>?_;have g:=g1.trans g2;show B.run A H2 O v2 x y n2 _ _ (E.stay g.st).al (Y.stay g2.st) b2 g2.pn r2 λw m v H' h1 h2 h3 h4=>k w m v H' h1 h2 (g.trans h3) λz=>(h4 z).back g.st]
def UZ(B:F1 Pn fr r F)(I:RB Pn M ta fa):RE Pn M fr (tUn r ta) (mUn F fa):=#[λA G H D n Q R E P hf k=>by show I.run A G H D n _ _ E P hf λx n1 J H1 O U g1=>?_;show B.run A H1 J x n1 _ _ (E.stay g1.st).al U g1.pn O λw m v H' h1 h2 Y h4=>k w m v H' h1 h2 (g1.trans Y) λz=>(h4 z).back g1.st]
def Mj{r:AT->Hp->VK->Prop}{F:AU->Mo W}{ta:TA}{fa:AC}(B:FL Pn fr r F)(I:RAB Pn M ta fa):RE Pn M fr (tCB r ta) (HM F fa):=#[λA G H D n Q R E P hf k=>by show I.run A G H D n _ _ E P hf λx n1 J H1 O U g1=>?_;show B.run A H1 J x n1 _ _ (E.stay g1.st).al U g1.pn O λw m v H' h1 h2 Y h4=>k w m v H' h1 h2 (g1.trans Y) λz=>(h4 z).back g1.st]
def Bb(B:OpQ X (binaryOp op) r)(I:F2 Pn fr r F)(J:JB X Pn M a fa)(O:JB X Pn M b fb):JE X Pn M fr (.BinOp a op b pos) (Cp F fa fb):=by obtain⟨ta,U,ra⟩:=J.ex;obtain⟨tb,Y,rb⟩:=O.ex;show#[_,y4 B U Y,Fk I ra rb]
def j_un(B:UnQ X (unaryOp op) r)(I:F1 Pn fr r F)(J:JB X Pn M a fa):JE X Pn M fr (.UnaryOp op a pos) (mUn F fa):=by obtain⟨ta,O,ra⟩:=J.ex;show#[_,Rh B O,UZ I ra]
def Ce(B:OpQ X (compareOp op) r)(I:F2 Pn fr r F)(J:JB X Pn M a fa)(O:JB X Pn M b fb)(U:behindInMarks op b=false):JE X Pn M fr (.Compare a [op] [b] pos) (Cp F fa fb):=by obtain⟨ta,Y,ra⟩:=J.ex;obtain⟨tb,qb,rb⟩:=O.ex;show#[_,Ri B Y qb U,Fk I ra rb]
def Mk(h:RB Pn M ta fa):RT Pn M (Gc ta) (CJ fa):=#[λA G H D n Q R E P hf k=>by show h.run A G H D n _ _ E P hf ?_;rintro x n1 F H1 ⟨c,e,r⟩ I g1;subst e;have B:F = .bl c:=I;show#[c,B,k c n1 H1 r g1]]
def yb(B:OpQ X (compareOp op) r)(I:F2 Pn fr r F)(J:JB X Pn M a fa)(O:JB X Pn M b fb)(U:behindInMarks op b=false):JT X Pn M (.Compare a [op] [b] pos) (CJ (Cp F fa fb)):=by obtain⟨ta,Y,ra⟩:=J.ex;obtain⟨tb,qb,rb⟩:=O.ex;show#[_,DF B Y qb U,Mk (Fk I ra rb).rb]
def yD (h:JB X Pn M e f)(he:∀whole,isTrue e X.env whole=(do let v <- whole;standAt e.pos;holding [v] (truthy v)):=by intro _;rfl):JT X Pn M e (CJ f):=by obtain⟨ta,qa,ra⟩:=h.ex;show#[_,GA qa he,Mk ra]
def xA(h:JT X Pn M a t):JT X Pn M (.UnaryOp .Not a pos) (HK t):=by obtain⟨ta,B,ra⟩:=h.ex;show#[_,GB B,#[λA G H D n Q R E P hf k=>ra.run A G H D n _ _ E P hf λb m H' r g=>k _ m H' r g]]
def uh(B:op = .And\/op = .Or)(h:JT X Pn M a t):JW X Pn M (.BoolOp op [a] pos) t:=by
 obtain⟨ta,F,ra⟩:=h.ex;rcases B with rfl | rfl;show#[_,Kz F,ra];show#[_,KA F,ra]
def U0(h:RT Pn M t ft)(h':RT Pn M u B):RT Pn M (F3 t u) (Fh ft B):=#[λA G H D n Q R E P hf k=>by
 show h.run A G H D n _ _ E P hf λc m H1 r g=>?_
 cases c with
 | true=>show h'.run A G H1 D m _ _ (E.stay g.st) g.pn (by simpa using r) λb F H' I g'=>k b F H' I (g.trans g')
 | false=>show k false m H1 (by simpa using r) g]
def U1(h:RT Pn M t ft)(h':RT Pn M u B):RT Pn M (tOr t u) (mOr ft B):=#[λA G H D n Q R E P hf k=>by
 show h.run A G H D n _ _ E P hf λc m H1 r g=>?_
 cases c with
 | false=>show h'.run A G H1 D m _ _ (E.stay g.st) g.pn (by simpa using r) λb F H' I g'=>k b F H' I (g.trans g')
 | true=>show k true m H1 (by simpa using r) g]
def DV{zu:AO}{t u:Ev->Mo Bool}(h:JT X Pn M a t)(h':JW X Pn M (.BoolOp .And (b::zu) pos) u):JW X Pn M (.BoolOp .And (a::b::zu) pos) (Fh t u):=by obtain⟨ta,B,ra⟩:=h.ex;obtain⟨tb,F,rb⟩:=h'.ex;show#[_,KB B F,U0 ra rb]
def BT{zu:AO}{t u:Ev->Mo Bool}(h:JT X Pn M a t)(h':JW X Pn M (.BoolOp .Or (b::zu) pos) u):JW X Pn M (.BoolOp .Or (a::b::zu) pos) (mOr t u):=by obtain⟨ta,B,ra⟩:=h.ex;obtain⟨tb,F,rb⟩:=h'.ex;show#[_,KC B F,U1 ra rb]
def JW.t{t:Ev->Mo Bool}(h:JW X Pn M e t):JT X Pn M e t:=let ⟨te,h1,h2⟩:=h.ex;#[te,h1.pt,h2]
def DW(h:JE X Pn M false a fa):JE X Pn M false (.BoolOp op [a] pos) fa:=let ⟨te,h1,h2⟩:=h.ex;#[te,Rm h1,h2]
def CL{zu:AO}(h:JB X Pn M a fa)(h':JE X Pn M false (.BoolOp .And (b::zu) pos) fb):JE X Pn M false (.BoolOp .And (a::b::zu) pos) (HL fa fb):=by
 obtain⟨ta,F,ra⟩:=h.ex;obtain⟨tb,I,rb⟩:=h'.ex;show#[_,Rn F I,'7'];show ra.run A G H D n _ _ E P hf ?_;rintro x m v H1 ⟨c,J,r⟩ O g;subst J;have B:v = .bl c:=O;show#[c,B,?_]
 cases c with
 | true=>
  rw[if_pos rfl] at r ⊢;show rb.run A G H1 D m _ _ (E.stay g.st) g.pn r λw U Y H' r' a' g' _=>k w U Y H' r' a' (g.trans g') λz=>by cases z
 | false=>
  rw[if_neg '#'] at r ⊢;show k _ m _ H1 r (Val.of A5) g λz=>by cases z
def HN (fa:AD):AD:=λD n Q=>fa D n λx n1=>∃c,x = .d (.bl c)/\Q (.d (.bl (!c))) n1
def U2 (h:JB X Pn M a fa):JE X Pn M false (.UnaryOp .Not a pos) (HN fa):=by obtain⟨ta,F,ra⟩:=h.ex;show#[_,KD F,'7'];show ra.run A G H D n _ _ E P hf ?_;rintro x m v H1 ⟨c,I,r⟩ J g;subst I;have B:v = .bl c:=J;show#[c,B,k _ m _ H1 r (Val.of A5) g λz=>by cases z]
def j_if(U:JT X Pn M c t)(Y:JE X Pn M fr a fa)(hb:JE X Pn M fr b fb):JE X Pn M fr (.IfExp c a b pos) (mIf t fa fb):=by
 obtain⟨tc,qc,rc⟩:=U.ex;obtain⟨ta,qa,ra⟩:=Y.ex;obtain⟨tb,qb,rb⟩:=hb.ex;show#[_,Ro qc qa qb,'7'];show rc.run A G H D n _ _ E P hf λc m H1 r g=>?_
 cases c with
 | true=>
  rw[if_pos rfl] at r ⊢;show ra.run A G H1 D m _ _ (E.stay g.st) g.pn r λw B F H' I J g' O=>k w B F H' I J (g.trans g') λz=>(O z).back g.st
 | false=>
  rw[if_neg '#'] at r ⊢;show rb.run A G H1 D m _ _ (E.stay g.st) g.pn r λw B F H' I J g' O=>k w B F H' I J (g.trans g') λz=>(O z).back g.st
abbrev isNon:W->Bool
 | .d .non=>true
 | _=>false
def Bor.isNon{w:_}(h:Bor A H w v):decide (v = .non)=isNon w:=by
 cases w with
 | d x=>
  cases x with
  | non=>have:v = .non:=h;subst this;rfl
  | bl c=>have:v = .bl c:=h;subst this;rfl
  | int c=>have:v = .int c:=h;subst this;rfl
  | str c=>have:v = .str c:=h;subst this;rfl
  | tup l=>obtain⟨a,_,rfl,_⟩:=h;rfl
  | lst l=>obtain⟨a,_,rfl,_⟩:=h;rfl
  | dct=>obtain⟨a,_,rfl,_⟩:=h;rfl
 | pen p=>have:v = .ref p:=h;subst this;rfl
 | dk k=>obtain⟨a,_,rfl,_⟩:=h;rfl
 | dt k=>obtain⟨a,_,rfl,_⟩:=h;rfl
 | ss P w k=>obtain⟨a,_,rfl,_⟩:=h;rfl
 | dn B k=>obtain⟨a,_,rfl,_⟩:=h;rfl
 | wd d fs k=>obtain⟨a,_,rfl,_⟩:=h;rfl
 | lf F=>obtain⟨a,_,rfl,_⟩:=h;rfl
 | cu k=>obtain⟨a,rfl,_⟩:=h;rfl
 | df k=>obtain⟨a,_,_,rfl,_⟩:=h;rfl
 | kf k=>obtain⟨a,_,_,rfl,_⟩:=h;rfl
 | fl k=>obtain⟨a,_,_,rfl,_⟩:=h;rfl
 | ad a x=>obtain⟨⟨b,rfl⟩,_⟩:=h;rfl
 | tz k x=>obtain⟨a,_,_,_,_,rfl,_⟩:=h;rfl
abbrev mIsN (fa:AD):AD:=λD n Q=>fa D n λx n1=>Q (.d (.bl (isNon x))) n1
abbrev mNotN (fa:AD):AD:=λD n Q=>fa D n λx n1=>Q (.d (.bl (!isNon x))) n1
def U3(h:RB Pn M ta fa):RE Pn M false (F0 ta) (mIsN fa):=#[λA G H D n Q R E P hf k=>by show h.run A G H D n _ _ E P hf λx m v H1 r B g=>?_;show k _ m _ H1 r (Val.of (by rw[B.isNon];rfl)) g λz=>by cases z]
def U4(h:RB Pn M ta fa):RT Pn M (tB ta) (CJ fa):=#[λA G H D n Q R E P hf k=>by show h.run A G H D n _ _ E P hf ?_;rintro x n1 F H1 ⟨c,e,r⟩ I g1;subst e;have B:F = .bl c:=I;show#[c,B,k c n1 H1 r g1]]
def U5(h:JB X Pn M a fa):JT X Pn M (.Compare a [.Is] [.Constant .none j pos'] pos) (CJ (mIsN fa)):=by obtain⟨ta,B,ra⟩:=h.ex;show#[_,Rl (Rk B),U4 (U3 ra).rb]
def zd:JA X Pn M [] Fi:=#[_,yu,#[λA G H D n Q R E P hf k=>k [] n [] H hf A5 (Go.refl P)]]
def za(B:JE X Pn M fr e f)(F:JA X Pn M es fs)(hs:gy e es X:=by rfl):JA X Pn M (e::es) (CK f fs):=by obtain⟨ta,I,ra⟩:=B.ex;obtain⟨tb,J,rb⟩:=F.ex;show#[_,zB I J hs,'7'];show ra.run A G H D n _ _ E P hf λx n1 O H1 U Y g1 _=>?_;show rb.run A G H1 D n1 _ _ (E.stay g1.st) g1.pn U λxs n2 vs H2 r2 b2 g2=>k _ n2 _ H2 r2 #[O,vs,A5,Y.stay g2.st,b2] (g1.trans g2)
def zt:JAB X Pn M [] Fi:=zd.bo
def zn(B:JB X Pn M e f)(F:JAB X Pn M es fs)(hs:gy e es X:=by rfl):JAB X Pn M (e::es) (CK f fs):=by obtain⟨ta,I,ra⟩:=B.ex;obtain⟨tb,J,rb⟩:=F.ex;show#[_,zB I J hs,'7'];show ra.run A G H D n _ _ E P hf λx n1 O H1 U Y g1=>?_;show rb.run A G H1 D n1 _ _ (E.stay g1.st) g1.pn U λxs n2 vs H2 r2 b2 g2=>k _ n2 _ H2 r2 #[O,vs,A5,Y.stay g2.st,b2] (g1.trans g2)
def lim:Nat:=500000
def Fl(h:n<=lim):n<=sizeLine:=av h '#'
def CM(h:n<=lim):n<sizeLine:=bR h '#'
def dts:AU->Option AS
 | []=>some []
 | .d x::r=>(dts r).map (x::·)
 | _::_=>none
theorem Bd.dts:∀ {B:AU} {vs:AT} {l:AS},Bd A H B vs->dts B=some l->IsL (zF A H) l vs
 | [],vs,l,h,e=>by cases e;show h
 | .d x::B,vs,l,⟨v,r,F,h1,h2⟩,e=>by obtain⟨l',I,rfl⟩:=aI.mp e;show#[v,r,F,h1.is,Bd.dts h2 I]
 | .pen _::_,_,_,_,e=>by cases e
 | .dk _::_,_,_,_,e=>by cases e
 | .dt _::_,_,_,_,e=>by cases e
 | .ss _ _ _::_,_,_,_,e=>by cases e
 | .dn _ _::_,_,_,_,e=>by cases e
 | .wd _ _ _::_,_,_,_,e=>by cases e
 | .lf _::_,_,_,_,e=>by cases e
 | .cu _::_,_,_,_,e=>by cases e
 | .df _::_,_,_,_,e=>by cases e
 | .kf _::_,_,_,_,e=>by cases e
 | .fl _::_,_,_,_,e=>by cases e
 | .ad _ _::_,_,_,_,e=>by cases e
 | .tz _ _::_,_,_,_,e=>by cases e
theorem Bd.len:∀ {B:AU} {vs:AT},Bd A H B vs->vs.length=B.length
 | [],_,h=>by cases h;rfl
 | _::B,vs,⟨v,r,e,_,h2⟩=>by rw[e,aS,aS,Bd.len h2]
def DX{A:AL}{p:Addr}{xs:AT}{l:AS}(B:IsL (zF A H) l xs)(s:zq H H')(n:¬ A p)(g:H' p=some (.tup xs)):Val A H' (.d (.tup l)) (.ref p):=
 Val.of #[p,xs,A5,zv n g,B.stay (zr s)]
def HP{A:AL}{p:Addr}{xs:AT}{l:AS}(B:IsL (zF A H) l xs)(s:zq H H')(n:¬ A p)(g:H' p=some '+'):Val A H' (.d (.lst l)) (.ref p):=
 Val.of #[p,xs,A5,.inl (zv n g),B.stay (zr s)]
def HQ{A:AL}{p:Addr}{xs:AT}{l:AS}(B:IsL (zF A H) l xs)(s:yL H H')(n:H p=none)(g:H' p=some '+'):FrV A H H' (.d (.lst l)) (.ref p):=
 #[p,A5,.of n,#[_,g,A5],p,xs,A5,.inl g,B.stay (yy (zq.same s) (.of n))]
abbrev Fm:Nat->AU->(AS->Prop)->Prop
 | _,[],P=>P []
 | k+1,.d x::r,P=>Fm k r λl=>P (x::l)
 | _,_,_=>False
theorem HR:∀ {k:Nat} {l:AU} {P:AS->Prop},Fm k l P->∃ds,dts l=some ds/\P ds/\l.length<=k
 | 0,[],P,h=>#[[],A5,h,aQ _]
 | k+1,[],P,h=>#[[],A5,h,aQ _]
 | 0,.d x::r,P,h=>h.elim
 | k+1,.d x::r,P,h=>by obtain⟨ds,e,h2,B⟩:=HR (k:=k) (l:=r) (P:=λl=>P (x::l)) h;show#[x::ds,by simp[dts,e],h2,Nat.succ_le_succ B]
 | 0,.pen _::r,P,h=>h.elim
 | k+1,.pen _::r,P,h=>h.elim
 | 0,.dk _::r,P,h=>h.elim
 | k+1,.dk _::r,P,h=>h.elim
 | 0,.dt _::r,P,h=>h.elim
 | 0,.ss _ _ _::r,P,h=>h.elim
 | 0,.dn _ _::r,P,h=>h.elim
 | 0,.wd _ _ _::r,P,h=>h.elim
 | 0,.lf _::r,P,h=>h.elim
 | 0,.cu _::r,P,h=>h.elim
 | 0,.df _::r,P,h=>h.elim
 | 0,.kf _::r,P,h=>h.elim
 | 0,.fl _::r,P,h=>h.elim
 | 0,.ad _ _::r,P,h=>h.elim
 | 0,.tz _ _::r,P,h=>h.elim
 | k+1,.dt _::r,P,h=>h.elim
 | k+1,.ss _ _ _::r,P,h=>h.elim
 | k+1,.dn _ _::r,P,h=>h.elim
 | k+1,.wd _ _ _::r,P,h=>h.elim
 | k+1,.lf _::r,P,h=>h.elim
 | k+1,.cu _::r,P,h=>h.elim
 | k+1,.df _::r,P,h=>h.elim
 | k+1,.kf _::r,P,h=>h.elim
 | k+1,.fl _::r,P,h=>h.elim
 | k+1,.ad _ _::r,P,h=>h.elim
 | k+1,.tz _ _::r,P,h=>h.elim
abbrev U6 (fa:AC):AD:=λD n Q=>fa D n λB m=>Fm 200 B λl=>Q (.d (.tup l)) m
def z9{x1}(h:JA X Pn M es fs):JE X Pn M false (.Tuple es x1 pos) (U6 fs):=by obtain⟨ta,B,ra⟩:=h.ex;show#[_,GQ B,'7'];show ra.run A G H D n _ _ E P hf λO m vs H1 F b g=>?_;obtain⟨l,e,r,I⟩:=HR F;show#[Fl (by rw[b.len];show av I '#'),λp H2 np J S=>?_];show k _ m _ H2 r (DX (b.dts e) (zq.same S) ((E.stay g.st).new np) J) (g.trans (Go.same g.pn S)) λz=>by cases z
abbrev U7 (fa:AC):AD:=λD n Q=>fa D n λB m=>Fm 200 B λl=>Q (.d (.lst l)) m
def BC(h:JA X Pn M es fs):JE X Pn M true (.List es pos) (U7 fs):=by obtain⟨ta,F,ra⟩:=h.ex;show#[_,KU F,'7'];show ra.run A G H D n _ _ E P hf λO m vs H1 I b g=>?_;obtain⟨l,e,r,J⟩:=HR I;show#[Fl (by rw[b.len];show av J '#'),λp H2 np B S=>?_];show k _ m _ H2 r (HP (b.dts e) (zq.same S) ((E.stay g.st).new np) B) (g.trans (Go.same g.pn S)) λ_=>(HQ (b.dts e) S np B).back g.st
def z6{id:String}{r:AT->Hp->VK->Prop}{F:AU->Mo W}{x:Str}{fs:AC}(J:CallQ X (.builtin id) r)(O:FL Pn fr r F)(U:Gl X x)(Y:X.mg x=none)(hv:bootBuiltins x=some (.builtin id))(ha:JAB X Pn M (e::es) fs)(hn:x ≠ "__name__" := by ext)(B:Ah x:=by ext)(he:gy e es X:=by rfl)(I:iI pos es X:=by rfl):JE X Pn M fr '<' (HM F fs):=by
 obtain⟨ta,qa,ra⟩:=ha.ex;show#[_,yr J U Y hv qa hn B he I,Mj O ra]
def xY(J:CallQ X (.type T) r)(O:FL Pn fr r F)(U:Gl X x)(Y:X.mg x=none)(hv:bootBuiltins x=some (.type T))(ha:JAB X Pn M (e::es) fs)(hn:x ≠ "__name__" := by ext)(B:Ah x:=by ext)(he:gy e es X:=by rfl)(I:iI pos es X:=by rfl):JE X Pn M fr '<' (HM F fs):=by
 obtain⟨ta,qa,ra⟩:=ha.ex;show#[_,GF J U Y hv qa hn B he I,Mj O ra]
end
section
variable{A:AL}
def xm{i:Int}(h:Bor A H (.d (.int i)) v):v = .int i:=h
def xH(h:Bor A H (.d (.tup l)) v):∃a xs,v = .ref a/\H a=some (.tup xs)/\IsL (zF A H) l xs:=by obtain⟨a,xs,e,h1,h2⟩:=h;show#[a,xs,e,zw _ _ h1,h2]
def DY(h:Bor A H (.d (.lst l)) v):∃a xs,v = .ref a/\Rd H a '+'/\IsL (zF A H) l xs:=h
def U8(h:Bor A H (.d (.lst l)) v\/Bor A H (.d (.tup l)) v):∃a xs,v = .ref a/\(SqL K H a xs\/SqT K H a xs)/\IsL (zF A H) l xs:=by
 rcases h with h | h;obtain⟨a,xs,e,h1,h2⟩:=DY h;show#[a,xs,e,.inl (.inl h1),h2];obtain⟨a,xs,e,h1,h2⟩:=xH h;show#[a,xs,e,.inr (.of h1),h2]
def fI (C:Int->Int->Prop)(g:Int->Int->Dt):W->W->Mo W:=λx y n Q=>∃i j,x = .d (.int i)/\y = .d (.int j)/\C i j/\Q (.d (g i j)) n
def fI0 (g:Int->Int->Dt):W->W->Mo W:=λx y n Q=>∃i j,x = .d (.int i)/\y = .d (.int j)/\Q (.d (g i j)) n
def f2_I{C:Int->Int->Prop}{g:Int->Int->V}(F:∀i j BA,Is BA (g' i j) (g i j)):F2 Pn false (rI C g) (fI C g'):=#[by
 rintro A H x y wx U n Q R Y I B P ⟨i,j,J,O,c,r⟩ k;subst J O;show#[i,j,xm I,xm B,c,k _ n _ H r (Val.of (F _ _ _)) (Go.refl P) λz=>by cases z]]
def DZ{g:Int->Int->V}(F:∀i j BA,Is BA (g' i j) (g i j)):F2 Pn false (rI0 g) (fI0 g'):=#[by
 rintro A H x y wx U n Q R Y I B P ⟨i,j,J,O,r⟩ k;subst J O;show#[i,j,xm I,xm B,k _ n _ H r (Val.of (F _ _ _)) (Go.refl P) λz=>by cases z]]
abbrev fAdd:=fI0 λi j=>.int (i+j)
abbrev fSub:=fI0 λi j=>.int (i-j)
abbrev fMul:=fI Cl λi j=>.int (i*j)
abbrev fMod:=fI (λ_ j=>0<j) λi j=>.int (i % j)
abbrev fLt:=fI0 λi j=>.bl (decide (i<j))
abbrev fLe:=fI0 λi j=>.bl (decide (i<=j))
abbrev fGt:=fI0 λi j=>.bl (decide (j<i))
def U9:F2 Pn false (rI0 λi j=>.int (i+j)) fAdd:=DZ λ_ _ _=>rfl
def U_:F2 Pn false (rI0 λi j=>.int (i-j)) fSub:=DZ λ_ _ _=>rfl
def Va:F2 Pn false (rI Cl λi j=>.int (i*j)) fMul:=f2_I λ_ _ _=>rfl
def Vb:F2 Pn false (rI (λ_ j=>0<j) λi j=>.int (i % j)) fMod:=f2_I λ_ _ _=>rfl
def v_lt:F2 Pn false (rI0 λi j=>.bl (decide (i<j))) fLt:=DZ λ_ _ _=>rfl
def v_le:F2 Pn false (rI0 λi j=>.bl (decide (i<=j))) fLe:=DZ λ_ _ _=>rfl
def v_gt:F2 Pn false (rI0 λi j=>.bl (decide (j<i))) fGt:=DZ λ_ _ _=>rfl
def HS:W->Mo W:=λx n Q=>∃i,x = .d (.int i)/\Q (.d (.int (-i))) n
def Vc:F1 Pn false (rU λi=>.int (-i)) HS:=#[by
 rintro A H x wx n Q R F B P ⟨i,e,r⟩ k;subst e;show#[i,xm B,k _ n _ H r (Val.of A5) (Go.refl P) λz=>by cases z]]
abbrev sEq:Dt->Dt->Option Bool
 | .int i,.int j=>some (decide (i=j))
 | .bl i,.bl j=>some (decide (i=j))
 | .str i,.str j=>some (decide (i=j))
 | .non,.non=>some true
 | .non,.int _=>some false
 | .int _,.non=>some false
 | .non,.bl _=>some false
 | .bl _,.non=>some false
 | .non,.str _=>some false
 | .str _,.non=>some false
 | .int _,.str _=>some false
 | .str _,.int _=>some false
 | _,_=>none
def plain:Dt->Option V
 | .int i=>some (.int i)
 | .bl i=>some (.bl i)
 | .str i=>some (.str i)
 | .non=>some .non
 | _=>none
def Ml(h:sEq a b=some r):∃x y,plain a=some x/\plain b=some y/\Gb x y=true/\decide (x=y)=r:=by cases a <;> cases b <;> cases h <;> show#[_,_,A5,A5,A5,?_] <;> first | rfl | show aJ '!' | show decide_eq_decide.mpr '$'
def Fn(h:Bor A H (.d a) v)(e:plain a=some x):v=x:=by cases a <;> cases e <;> show h
def fEq:W->W->Mo W:=λx y n Q=>∃a b r,x = .d a/\y = .d b/\sEq a b=some r/\Q (.d (.bl r)) n
def fNe:W->W->Mo W:=λx y n Q=>∃a b r,x = .d a/\y = .d b/\sEq a b=some r/\Q (.d (.bl (!r))) n
def v_eq:F2 Pn false rEq fEq:=#[by
 rintro A H x y wx O n Q R U F B P ⟨a,b,r,I,J,e,h⟩ k;subst I J;obtain⟨Y,y',p1,p2,s,d⟩:=Ml e;obtain rfl:=Fn F p1;obtain rfl:=Fn B p2;show#[s,k _ n _ H h (Val.of (by rw[d];rfl)) (Go.refl P) λz=>by cases z]]
def v_ne:F2 Pn false rNe fNe:=#[by
 rintro A H x y wx O n Q R U F B P ⟨a,b,r,I,J,e,h⟩ k;subst I J;obtain⟨Y,y',p1,p2,s,d⟩:=Ml e;obtain rfl:=Fn F p1;obtain rfl:=Fn B p2;show#[s,k _ n _ H h (Val.of (by rw[d];rfl)) (Go.refl P) λz=>by cases z]]
def HU:W->W->Mo W:=λx y n Q=>∃a b,x = .d a/\y = .d b/\a.eqOk/\b.eqOk/\∀r:Bool,(r=true↔a=b)->Q (.d (.bl r)) n
def HV:W->W->Mo W:=λx y n Q=>∃a b,x = .d a/\y = .d b/\a.eqOk/\b.eqOk/\∀r:Bool,(r=true↔a=b)->Q (.d (.bl (!r))) n
def Vd:F2 Pn false EO HU:=#[by
 rintro A H x y wx wy n Q R al F B P ⟨a,b,I,J,O,U,h⟩ k;subst I J;show#[a,b,F.is,B.is,O,U,λr Y=>k _ n _ H (h r Y) (Val.of A5) (Go.refl P) λz=>by cases z]]
def Ve:F2 Pn false EQ HV:=#[by
 rintro A H x y wx wy n Q R al F B P ⟨a,b,I,J,O,U,h⟩ k;subst I J;show#[a,b,F.is,B.is,O,U,λr Y=>k _ n _ H (h r Y) (Val.of A5) (Go.refl P) λz=>by cases z]]
def HW:W->W->Mo W:=λx y n Q=>∃ (b:Int) (ns:AG),x = .d (.int b)/\(y = .d (.lst (ns.map .int))\/y = .d (.tup (ns.map .int)))/\Q (.d (.bl (!ns.contains b))) n
def Vf:F2 Pn false (rIn K true) HW:=#[by
 rintro A H x y wx U n Q R Y B F P ⟨b,ns,I,e2,h⟩ k;subst I;have J:Bor A H (.d (.lst (ns.map .int))) y\/Bor A H (.d (.tup (ns.map .int))) y:=by grind
 obtain⟨a,xs,e,hs,O⟩:=U8 (K:=K) J;obtain rfl:=O.of_ints;obtain rfl:=xm B;show#[a,_,e,hs,A5,Se ns,k _ n _ H h (Val.of (by rw[Sd];rfl)) (Go.refl P) λz=>by cases z]]
def HX (B:Bool):W->W->Mo W:=λx y n Q=>∃d ds,x = .d d/\(y = .d (.lst ds)\/y = .d (.tup ds))/\d.eqOk/\(Dt.lst ds).eqOk/\∀b:Bool,(b=true↔d∈ds)->Q (.d (.bl (if B then !b else b))) n
def Vg:F2 Pn false (HA B) (HX B):=#[by
 rintro A H x y wx wy n Q R al I F P ⟨d,ds,J,O,U,Y,h⟩ k;subst J;show#[d,ds,I.is,?_,U,Y,λb hb=>k _ n _ H (h b hb) (Val.of A5) (Go.refl P) λz=>by cases z];rcases O with rfl | rfl;show .inl F.is;show .inr F.is]
def Mn{i:Int}(h:IsL BA l xs)(e:atI l i=some d):∃v,atI xs i=some v/\Is BA d v:=by
 unfold atI at e ⊢;rw[h.length];obtain⟨j,h1,h2⟩:=Option.bind_eq_some_iff.mp e;obtain⟨v,B,F⟩:=h.getD h2;right
def HY:W->W->Mo W:=λx y n Q=>∃l i d,x = .d (.tup l)/\y = .d (.int i)/\atI l i=some d/\Q (.d d) n
def HZ:W->W->Mo W:=λx y n Q=>∃l i d,x = .d (.lst l)/\y = .d (.int i)/\atI l i=some d/\Q (.d d) n
def Vh:F2 Pn false (ED K) HY:=#[by
 rintro A H x y wx wy n Q R al F B P ⟨l,i,d,I,J,e,h⟩ k;subst I J;obtain⟨a,xs,O,U,Y⟩:=xH F;obtain⟨v,h1,h2⟩:=Mn Y e;show#[a,xs,i,v,O,xm B,.of U,h1,k _ n _ H h (Val.of h2) (Go.refl P) λz=>by cases z]]
def Vi:F2 Pn false (EC K) HZ:=#[by
 rintro A H x y wx wy n Q R al F B P ⟨l,i,d,I,J,e,h⟩ k;subst I J;obtain⟨a,xs,O,U,Y⟩:=DY F;obtain⟨v,h1,h2⟩:=Mn Y e;show#[a,xs,i,v,O,xm B,.inl U,h1,k _ n _ H h (Val.of h2) (Go.refl P) λz=>by cases z]]
def CN:W->W->Mo W:=λx y n Q=>∃l m,x = .d (.tup l)/\y = .d (.tup m)/\l.length+m.length<=lim/\Q (.d (.tup (l++m))) n
def Vj:F2 Pn false (DD K) CN:=#[by
 rintro A H x y wx wy n Q R J O B P ⟨l,m,U,Y,z,h⟩ k;subst U Y;obtain⟨a,xs,ea,ha,F⟩:=xH O;obtain⟨b,ys,eb,hb,I⟩:=xH B;show#[a,b,xs,ys,ea,eb,ha,hb,Fl (by rw[F.length,I.length];show z),λp H' g S=>?_];show k _ n _ H' h (DX (F.append I) (zq.same S) (J.noT' (zq.same S) g) g) (Go.same P S) λz=>by cases z]
abbrev lenD:W->Option Nat
 | .d (.lst l)=>some l.length
 | .d (.tup l)=>some l.length
 | _=>none
def H_:AU->Mo W:=λB n Q=>∃x k,B=[x]/\lenD x=some k/\Q (.d (.int (k:Int))) n
def CO{w:_}(h:DS A H [w] vs):∃v,vs=[v]/\Bor A H w v:=by obtain⟨v,r,e,h1,h2⟩:=h;cases h2;show#[v,e,h1]
def Vk:FL Pn false (λxs H Q=>∃x n,xs=[x]/\Ex K x H n/\Q (.int n) H) H_:=#[by
 rintro A H xs U n Q R Y b P ⟨x,j,O,B,h⟩ k;subst O;obtain⟨v,rfl,J⟩:=CO b;show#[v,j,A5,?_,k _ n _ H h (Val.of A5) (Go.refl P) λz=>by cases z]
 cases x with
 | d x=>
  cases x with
  | lst l=>
   cases B;obtain⟨a,ys,rfl,F,I⟩:=DY J;show .inl #[ys,.inl F,I.length.symm]
  | tup l=>
   cases B;obtain⟨a,ys,rfl,F,I⟩:=xH J;show .inr #[ys,.of F,I.length.symm]
  | _=>cases B
 | _=>cases B]
theorem Mp:∀ {bs:List Bool} {xs:AT},IsL BA (bs.map .bl) xs->xs=bs.map V.bl
 | [],_,h=>h
 | b::bs,xs,h=>by obtain⟨y,r,rfl,h1,h2⟩:=h;cases h1;rw[Mp h2];rfl
def Ia:AU->Mo W:=λB n Q=>∃bs:List Bool,B=[.d (.lst (bs.map .bl))]/\Q (.d (.bl (bs.all id))) n
def Vl:FL Pn false (λxs H Q=>∃ (p:Addr) (bs:List Bool),xs=[.ref p]/\Rd H p (.lst (bs.map V.bl))/\Q (.bl (bs.all id)) H) Ia:=#[by
 rintro A H xs O n Q R U b P ⟨bs,B,h⟩ k;subst B;obtain⟨v,rfl,F⟩:=CO b;obtain⟨a,ys,rfl,I,J⟩:=DY F;obtain rfl:=Mp J;show#[a,bs,A5,I,k _ n _ H h (Val.of A5) (Go.refl P) λz=>by cases z]]
def Mq:AU->Mo W:=λB n Q=>∃l,(B=[.d (.lst l)]\/B=[.d (.tup l)])/\Q (.d (.tup l)) n
def Vm:FL Pn false (GR K) Mq:=#[by
 rintro A H xs U n Q R J b P ⟨l,O,h⟩ k;rcases O with rfl | rfl;obtain⟨v,rfl,F⟩:=CO b;obtain⟨a,ys,rfl,B,I⟩:=DY F;show#[a,ys,A5,.inl #[.inl B,λp H' np g S=>k _ n _ H' h (DX I (zq.same S) (J.new np) g) (Go.same P S) λz=>by cases z]];obtain⟨v,rfl,F⟩:=CO b;obtain⟨a,ys,e,B,I⟩:=id F;subst e;show#[a,ys,A5,.inr #[.of (zw _ _ B),k _ n _ H h (Val.of #[a,ys,A5,B,I]) (Go.refl P) λz=>by cases z]]]
def uv (xs:List α)(lo hi:AQ):List α:=(xs.drop (HT.sIx xs.length 0 lo)).take (HT.sIx xs.length xs.length hi-HT.sIx xs.length 0 lo)
def Vn{lo:AQ}(h:IsL BA l xs):IsL BA (uv l lo hi) (Bj xs lo hi):=by unfold uv Bj;rw[h.length];show (h.drop _).take _
def yE [DecidableEq κ](A7:List (κ×Dt))(k:κ):Option Dt:=(A7.find? λq=>decide (q.1=k)).map (·.2)
theorem xN.look [DecidableEq κ]{BA:Hp}{k:κ}:∀ {A7:List (κ×Dt)} {ks:List (κ×V)},xN BA A7 ks->(yE A7 k=none->Be ks k=none)/\∀d,yE A7 k=some d->∃v,Be ks k=some v/\Is BA d v
 | [],_,h=>by cases h;show#[λ_=>rfl,λd e=>by cases e]
 | q::r,ks,⟨v,s,e,h1,h2⟩=>by
  subst e;have F:=xN.look (k:=k) h2;by_cases B:q.1=k;show#[λz=>?_,λd z=>?_];simp[yE,bV,B] at z;simp[yE,bV,B] at z;subst z;show#[v,xl B,h1];have I:yE (q::r) k=yE r k:=by simp[yE,bV,B]
  rw[I,xk B];show F
end
section
variable{a b:Expr}{pos:Pos}
def xu(B:IxQ X r)(I:F2 Pn fr r F)(J:JB X Pn M a fa)(O:JB X Pn M b fb)(hs:Gm b):JE X Pn M fr (.Subscript a b pos) (Cp F fa fb):=by obtain⟨ta,U,ra⟩:=J.ex;obtain⟨tb,Y,rb⟩:=O.ex;show#[_,KI B U Y hs,Fk I ra rb]
abbrev Vo:Ev->Mo AQ:=λ_ n Q=>Q none n
def Ib (fa:AD):Ev->Mo AQ:=λD n Q=>fa D n λx m=>∃i,x = .d (.int i)/\Q (some i) m
def xK:JO X Pn M none Vo:=#[_,KF,λA G H D n Q R E P hf k=>k none n H hf (Go.refl P)]
def xL (h:JB X Pn M e f):JO X Pn M (some e) (Ib f):=by obtain⟨te,q,r⟩:=h.ex;show#[_,KG q,λA G H D n Q R E P hf k=>?_];show r.run A G H D n _ _ E P hf ?_;rintro w m v H' ⟨i,e,r⟩ B g;subst e;show#[i,xm B,k (some i) m H' r g]
def Ic (fa:AD)(fl B:Ev->Mo AQ):AD:=λD n Q=>fa D n λx n1=>fl D n1 λlo n2=>B D n2 λhi n3=>∃l,x = .d (.tup l)/\Q (.d (.tup (uv l lo hi))) n3
def B4{lo hi:_}{fl F:Ev->Mo AQ}(J:JB X Pn M e f)(B:JO X Pn M lo fl)(O:JO X Pn M hi F):JE X Pn M false (.Subscript e (.Slice lo hi none p2) pos) (Ic f fl F):=by obtain⟨te,U,Y⟩:=J.ex;obtain⟨tl,ql,rl⟩:=B.ex;obtain⟨th,qh,rh⟩:=O.ex;show#[_,KH Rr U ql qh,'7'];show Y.run A G H D n _ _ E P hf λw m v H1 r1 bb g1=>?_;show rl A G H1 D m _ _ (E.stay g1.st) g1.pn r1 λo m2 H2 r2 g2=>?_;show rh A G H2 D m2 _ _ ((E.stay g1.st).stay g2.st) g2.pn r2 ?_;rintro o3 m3 H3 ⟨l,e,r3⟩ g3;subst e;have g:=(g1.trans g2).trans g3;obtain⟨ad,xs,rfl,ha,B⟩:=xH (bb.stay (g2.trans g3).st);show#[ad,xs,A5,ha,λp H' I S=>k _ m3 _ H' r3 (DX (Vn B) (zq.same S) (Al.noT' (E.stay g.st).al (zq.same S) I) I) (g.trans (Go.same g3.pn S)) λz=>by cases z]
theorem Mr:∀ {ds:AS} {xs:AT},IsL BA ds xs->IsL BA ds.reverse xs.reverse
 | [],_,h=>by cases h;rfl
 | d::ds,xs,h=>by obtain⟨x,r,rfl,h1,h2⟩:=h;rw[en,en];show (Mr h2).append (IsL.one h1)
def Id (fa:AD):AD:=λD n Q=>fa D n λx m=>∃l,x = .d (.tup l)/\Q (.d (.tup l.reverse)) m
def Vp(B:JB X Pn M e f):JE X Pn M false (.Subscript e (.Slice none none (some (.UnaryOp .USub (.Constant (.int 1) j p4) p3)) p2) pos) (Id f):=by obtain⟨te,F,I⟩:=B.ex;show#[_,So F,'7'];show I.run A G H D n _ _ E P hf ?_;rintro w m v H1 ⟨l,e,r⟩ J g;subst e;obtain⟨O,xs,rfl,U,Y⟩:=xH J;show#[O,xs,A5,U,λp H' np gp S=>k _ m _ H' r (DX (Mr Y) (zq.same S) ((E.stay g.st).new np) gp) (g.trans (Go.same g.pn S)) λz=>by cases z]
abbrev Fo:W->Option Key
 | .d (.int i)=>some (Sum.inl i)
 | .d (.str x)=>some (Sum.inr x)
 | _=>none
abbrev prD (q:Int×Dt):Dt:=.tup [.int q.1,q.2]
def kvD (q:Int×Dt):Key×Dt:=(Sum.inl q.1,q.2)
def spV (k:Nat)(fr:Bool)(F:PN->AU->Mo W):Sp:=λvs H Q _=>∃Pn A B n R,Al A H/\Bd A H B vs/\B.length=k/\y8 Pn A n H/\F Pn B n R/\∀w m v H',R w m->Val A H' w v->Go Pn A H m H'->(fr=true->FrV A H H' w v)->Q v H'
def mFn (k:Nat)(F:AU->Mo W)(fa:AC):AD:=λD n Q=>fa D n λB m=>B.length=k/\F B m Q
def Vq(B:RA Pn M ta fs):RE Pn M fr (Cz (spV k fr F) [] E0 ta) (mFn k (F Pn) fs):=#[λA G H D n Q R E P hf kk=>by show B.run A G H D n _ _ E P hf ?_;rintro I m vs H1 ⟨J,r⟩ b g;rw[bU];show#[Pn,A,I,m,R,(E.stay g.st).al,b,J,g.pn,r,λw O v H' h1 h2 U Y=>kk w O v H' h1 h2 (g.trans U) λz=>(Y z).back g.st]]
def yC(BB:Dfn X.K X.mg x st ps fA fd)(BA:FnOk X.prog X.w X.K X.mg X.base CX0 j fA fd ps (spV k fr F))(O:Room kk X.A)(U:JA X Pn M (e::es) fs)(B:j<=kk:=by ext)(Y:Gl X x:=by rfl)(I:Ah x:=by ext)(he:gy e es X:=by rfl)(J:iI pos es X:=by rfl):
  JE X Pn M fr '<' (mFn k (F Pn) fs):=by
 obtain⟨ta,qa,ra⟩:=U.ex;show#[_,KJ BB BA O qa B Y I he J,Vq ra]
abbrev W.flat (fr:Bool):W->Bool
 | .d (.lst l)=>fr&&Dt.noLs l
 | .d x=>x.noL
 | .pen _=>true
 | .dk _=>false
 | .dt _=>false
 | .ss _ _ _=>false
 | .dn _ _=>false
 | .wd _ _ _=>false
 | .lf _=>false
 | .cu _=>false
 | .df _=>false
 | .kf _=>false
 | .fl _=>false
 | .ad _ _=>false
 | .tz _ _=>false
def y8.less(h:y8 Pn A n H)(s:∀a,A' a->A a):y8 Pn A' n H:=by
 show#[?_,Pn.J.grow h.2 λa z=>.inl (s a z)];have h:=h.1;split at h;trivial;show#[h.1,λz=>h.2.1 (s _ z),λz=>h.2.2 (s _ z)]
end
structure JG (X:Cx)(S M:AR)(e:Expr)(mg:W->Ev->(Ev->Prop)->Prop):Prop where
 ex:∃g,QG X e g/\RG S M g mg
structure JGs (X:Cx)(S M:AR)(es:AO)(mg:AS->Ev->(Ev->Prop)->Prop):Prop where
 ex:∃g,QGs X es g/\RGs S M g mg
structure JI (X:Cx)(Pn:PN)(M:AR)(ow:Bool)(tg e:Expr)(f:AC):Prop where
 ex:∃wi,QI X tg e wi/\RI Pn M ow wi f
structure JTs (X:Cx)(Pn:PN)(M:AR)(es:AO)(f:Ev->Mo Bool):Prop where
 ex:∃t,QTs X es t/\RT Pn M t f
section
variable{a b:Expr}{pos:Pos}
def gN (i:Nat):iJ:=λw D Q=>Q (D.set i (some w))
def gNl:AS->Ev->(Ev->Prop)->Prop:=λds D Q=>ds=[]/\Q D
def gCn (g:iJ)(u:AS->Ev->(Ev->Prop)->Prop):AS->Ev->(Ev->Prop)->Prop:=λds D Q=>∃d r,ds=d::r/\g (.d d) D λB=>u r B Q
def gTp (n:Nat)(u:AS->Ev->(Ev->Prop)->Prop):iJ:=λw D Q=>∃ds,w = .d (.tup ds)/\ds.length=n/\u ds D Q
def EnvR.set{w:_}(E:EnvR A M G H D)(hi:i∉M)(h:Val A H w v):EnvR A M (G.set i (some v)) H (D.set i (some w)) where
 len:=by rw[cg,cg];show E.len
 val:=λj u e=>by
  by_cases B:j=i;subst B
  have O:j<D.length:=by
   have:=(ai.mp e).1;right
  rw[ba O] at e;cases e;show#[v,ba (by rw[E.len];show O),λ_=>h,λz=>absurd z hi];rw[aG (Ne.symm B)] at e ⊢;show E.val j u e
 dis:=λj k u u' ad B U F Y e2 s1=>by have I:i≠j:=λz=>hi (z ▸ B);have J:i≠k:=λz=>hi (z ▸ U);rw[aG I] at Y s1;rw[aG J] at e2 ⊢;show E.dis j k u u' ad B U F Y e2 s1
 al:=E.al
def Ie(hi:i∉M)(hs:i∉S):RG S M (BJ i) (gN i):=#[λA G H D v w Q R E h r k=>k _ _ r (E.set hi h) λj B=>#[aG λ(z:i=j)=>hs (by rw[z];show B),aG λ(z:i=j)=>hs (by rw[z];show B)]]
def zm(B:X.N.Nodup)(F:X.N[i]?=some x:=by rfl)(I:Loc X.env.scope x:=by first | show Or.inl A5 | show Or.inr A5)(hi:i∉M:=by ext)(hs:i∉S:=by ext)(hf:g_ x X:=by fail"l"):JG X S M (.Name x pos) (gN i):=#[_,DG B F I hf,Ie hi hs]
def xo:JGs X S M [] gNl:=#[_,Rv,#[by
 rintro A G H D vs ds Q R E h ⟨e,r⟩ k;subst e;show#[h,k G D r E λ_ _=>#[A5,A5]]]]
def zx(h1:JG X S M e g)(h2:JGs X S M es u)(hs:(assignEach (e::es) X.env).map (·.2)=assign e X.env::(assignEach es X.env).map (·.2):=by rfl):JGs X S M (e::es) (gCn g u):=by obtain⟨t1,O,U⟩:=h1.ex;obtain⟨t2,Y,r2⟩:=h2.ex;show#[_,Rw O Y hs,#[ ?_]];rintro A G H D vs ds Q R E h ⟨d,r,e,hg⟩ k;subst e;obtain⟨v,s,rfl,hv,hr⟩:=h;show#[v,s,A5,?_];show U.run A G H D v _ _ _ E (Val.of hv) hg λB F hu E' f1=>?_;show r2.run A B H F s _ _ _ E' hr hu λI J hR E2 f2=>k I J hR E2 λi hi=>#[(f2 i hi).1.trans (f1 i hi).1,(f2 i hi).2.trans (f1 i hi).2]
def uE{k:Nat}{u:AS->Ev->(Ev->Prop)->Prop}(K:AH)(J:X.K=K)(O:X.calm=true)(h:JGs X S M es u)(U:(assignEach es X.env).length=n:=by rfl)(B:(assignEach es X.env).findIdx? (·.1)=none:=by rfl):JG X S M (.Tuple es k pos) (gTp n u):=by obtain⟨t1,Y,r1⟩:=h.ex;show#[_,R_ K J O Y U B,#[ ?_]];rintro A G H D v w Q R E h ⟨ds,e,hl,hu⟩ kk;subst e;obtain⟨ad,xs,rfl,F,I⟩:=h;show#[ad,xs,A5,.of (zw _ _ F),by rw[I.length];show hl,r1.run A G H D xs ds _ _ E I hu kk]
def Ig (fa:AD):AC:=λD n Q=>fa D n λx m=>∃l,x = .d (.lst l)/\Q (l.map W.d) m
def Ih (fa:AD):AC:=λD n Q=>fa D n λx m=>∃l,x = .d (.tup l)/\Q (l.map W.d) m
def Mu{BA:Hp}{l:AS}{xs:AT}{i:Nat}{w:W}(h:IsL BA l xs)(e:(l.map W.d)[i]?=some w)(s:zq BA G'):∃d x,w = .d d/\xs[i]?=some x/\Is G' d x:=by rw[aF] at e;obtain⟨d,h1,rfl⟩:=aI.mp e;obtain⟨x,h2,B⟩:=h.getD h1;show#[d,x,A5,h2,B.stay s]
def Vr(h:Rd (zF A H) B '+')(F:IsL (zF A H) l xs):ItV false A H (Itl K B) (l.map W.d) where
 one:=λi w A2 H2 e s _ _=>by obtain⟨d,x,rfl,I,J⟩:=Mu F e s;have g:=(s.rdl h).sub;show#[#[xs,x,.inl g,I],?_];rintro y H3 ⟨O,U⟩;subst O;have:=U xs (.inl g);rw[I] at this;cases this;show#[λ_ _ z=>z,Val.of J]
 stop:=λA2 H2 s _=>#[xs,.inl (s.rdl h).sub,by rw[af,F.length];show ak _]
def Vs(h:zF A H B=some (.tup xs))(F:IsL (zF A H) l xs):ItV false A H (Itt K B) (l.map W.d) where
 one:=λi w A2 H2 e s _ _=>by obtain⟨d,x,rfl,I,J⟩:=Mu F e s;have g:=zw _ _ (s.tup h);show#[#[xs,x,.of g,I],?_];rintro y H3 ⟨O,U⟩;subst O;have:=U xs (.of g);rw[I] at this;cases this;show#[λ_ _ z=>z,Val.of J]
 stop:=λA2 H2 s _=>#[xs,.of (zw _ _ (s.tup h)),by rw[af,F.length];show ak _]
def Dg(K:AH)(F:X.K=K)(h:JE X Pn M fr e f):JI X Pn M false tg e (Ig f):=by obtain⟨te,q,r⟩:=h.ex;show#[_,GT K F q,'7'];show r.run A G H D n _ _ E P hf ?_;rintro w m v H1 ⟨l,e,r⟩ I g _;subst e;obtain⟨J,xs,rfl,B,O⟩:=I;show#[J,A5,#[xs,.inl B.sub],k _ m _ H1 r (Vr B O) g]
def Cq(K:AH)(F:X.K=K)(h:JE X Pn M fr e f):JI X Pn M false tg e (Ih f):=by obtain⟨te,q,r⟩:=h.ex;show#[_,Sa K F q,'7'];show r.run A G H D n _ _ E P hf ?_;rintro w m v H1 ⟨l,e,r⟩ I g _;subst e;obtain⟨J,xs,rfl,B,O⟩:=I;show#[J,A5,#[xs,.of (zw _ _ B)],k _ m _ H1 r (Vs B O) g]
def BG (lo:Int)(n:Nat):AU:=(List.range n).map λi:Nat=>W.d (.int (lo+i))
def Vt{lo:Int}:ItV false A H (Itr lo n) (BG lo n) where
 one:=λi w A2 H2 e s _ _=>by unfold BG at e;rw[aF] at e;obtain⟨j,h1,rfl⟩:=aI.mp e;obtain⟨hi,h2⟩:=ai.mp h1;rw[fq] at h2;subst h2;rw[aZ] at hi;show#[hi,?_];rintro y H3 ⟨B,F⟩;subst B F;show#[λ_ _ z=>z,Val.of A5]
 stop:=λA2 H2 s _=>by
  change n<=(BG lo n).length;unfold BG;right
def Ii (fa:AC):AC:=λD n Q=>fa D n λB m=>∃j:Int,B=[.d (.int j)]/\j<=1000000/\-1000000<=j/\Q (BG 0 j.toNat) m
def ya(B:Gl X "range")(F:X.mg "range" = none)(I:JAB X Pn M [a] fs)(hs:ig a X:=by rfl):JI X Pn M false tg (.Call (.Name "range" p) [a] [] pos) (Ii fs):=by obtain⟨te,q,r⟩:=I.ex;show#[_,Ry B F q hs,'7'];show r.run A G H D n _ _ E P hf ?_;rintro U m vs H1 ⟨j,e,j1,j2,r⟩ J g;subst e;obtain⟨v,rfl,O⟩:=CO J;obtain rfl:=xm O;show#[j,A5,by lia,by lia,k _ m _ H1 r Vt g]
def enW:Nat->AS->AU
 | _,[]=>[]
 | k,x::r=>.d (.tup [.int k,x])::enW (k+1) r
theorem Ij:∀l k i,(enW k l)[i]?=(l[i]?).map λx=>W.d (.tup [.int ((k+i:Nat):Int),x])
 | [],_,_=>by simp[enW]
 | x::r,k,0=>by simp[enW]
 | x::r,k,i+1=>by have:=Ij r (k+1) i;simp only[enW,cR,this];rw[show k+1+i=k+(i+1) by lia]
theorem Mv:∀l k,(enW k l).length=l.length
 | [],_=>rfl
 | x::r,k=>by rw[enW,aS,aS,Mv r]
def Ik (fa:AC):AC:=λD n Q=>fa D n λB m=>∃l,B=[.d (.tup l)]/\Q (enW 0 l) m
def Vu(h:zF A H B=some (.tup xs))(F:IsL (zF A H) l xs):ItV false A H (Ite K B) (enW 0 l) where
 one:=λi w A2 H2 e s _ O=>by rw[Ij] at e;obtain⟨d,h1,rfl⟩:=aI.mp e;obtain⟨x,I,U⟩:=F.getD h1;have g:=zw _ _ (s.tup h);show#[#[xs,x,.of g,I],?_];rintro y H3 ⟨T,z,Y,J,e3,hy⟩;subst Y e3;have:=hy xs (.of g);rw[I] at this;cases this;have S:=yL.upd (o:=.tup [.int i,x]) J;show#[S,Val.of #[T,_,A5,zv (O T J) zg,_,_,A5,?_,_,_,A5,(U.stay s).stay (zq.same (Ff S)),A5]];change V.int (i:Int)=V.int ((0+i:Nat):Int);rw[gS]
 stop:=λA2 H2 s _=>#[xs,.of (zw _ _ (s.tup h)),by rw[Mv,F.length];show ak _]
def Mw{x1}(I:Gl X "enumerate")(J:X.mg "enumerate" = none)(O:JA X Pn M [a] fs)(hs:ig a X:=by rfl):JI X Pn M false (.Tuple B x1 tpos) (.Call (.Name "enumerate" p) [a] [] pos) (Ik fs):=by obtain⟨te,q,r⟩:=O.ex;show#[_,RW I J q hs,'7'];show r.run A G H D n _ _ E P hf ?_;rintro ws m vs H1 ⟨l,e,r⟩ U g;subst e;obtain⟨v,s,rfl,⟨Y,xs,rfl,F,hl⟩,hs⟩:=U;cases hs;show#[Y,A5,#[xs,.of (zw _ _ F)],k _ m _ H1 r (Vu F hl) g]
def Bm:AS->AS->AU
 | x::r,y::s=>.d (.tup [x,y])::Bm r s
 | _,_=>[]
theorem Mx:∀ (l k:AS) (i:Nat),l.length=k.length->(Bm l k)[i]?=(l[i]?).bind λx=>(k[i]?).map λy=>W.d (.tup [x,y])
 | [],[],_,_=>by simp[Bm]
 | [],_::_,_,h=>by simp at h
 | _::_,[],_,h=>by simp at h
 | x::r,y::s,0,_=>by simp[Bm]
 | x::r,y::s,i+1,h=>by have:=Mx r s i (by simpa using h);simp only[Bm,cR,this]
theorem My:∀l k,l.length=k.length->(Bm l k).length=l.length
 | [],[],_=>rfl
 | [],_::_,h=>by simp at h
 | _::_,[],h=>by simp at h
 | x::r,y::s,h=>by rw[Bm,aS,aS,My r s (by simpa using h)]
def Il (fa:AC):AC:=λD n Q=>fa D n λB m=>∃l k,B=[.d (.tup l),.d (.tup k)]/\l.length=k.length/\Q (Bm l k) m
def Vv(B:l.length=k.length)(h:∀ {A2:AL} {H2:Hp},zq (zF A H) (zF A2 H2)->SqV kb K H2 O xs)(Y:IsL (zF A H) l xs)(h':zF A H U=some (.tup ys))(hk:IsL (zF A H) k ys):ItV false A H (Izg kb K O U) (Bm l k) where
 one:=λi w A2 H2 e s _ hA=>by rw[Mx _ _ _ B] at e;obtain⟨d,h1,e⟩:=Option.bind_eq_some_iff.mp e;obtain⟨d',F,rfl⟩:=aI.mp e;obtain⟨x,hx,hd⟩:=Y.getD h1;obtain⟨y,hy,I⟩:=hk.getD F;have g:=h s;have g':=zw _ _ (s.tup h');show#[#[xs,ys,x,y,g,.of g',hx,hy],?_];rintro v H3 ⟨T,z,z',e1,hT,e3,hz,J⟩;subst e1 e3;have q1:=hz xs g;have q2:=J ys (.of g');rw[hx] at q1;rw[hy] at q2;cases q1;cases q2;have S:=yL.upd (o:=.tup [x,y]) hT;show#[S,Val.of #[T,_,A5,zv (hA T hT) zg,_,_,A5,(hd.stay s).stay (zq.same (Ff S)),_,_,A5,(I.stay s).stay (zq.same (Ff S)),A5]]
 stop:=λA2 H2 s _=>#[xs,h s,by rw[My _ _ B,Y.length];show ak _]
def Vw{B:AO}{x1}{fs:AC}(U:Gl X "zip")(Y:X.mg "zip" = none)(ha:JA X Pn M [a,b] fs)(hs:starEach [a,b] X.env=[(false,eval a X.env),(false,eval b X.env)]:=by rfl)(O:ig b X:=by rfl):JI X Pn M false (.Tuple B x1 tpos) (.Call (.Name "zip" p) [a,b] [] pos) (Il fs):=by obtain⟨te,q,r⟩:=ha.ex;show#[_,UG true U Y q hs O,'7'];show r.run A G H D n _ _ E P hf ?_;rintro ws m vs H1 ⟨l,kk,e,F,r⟩ hv g;subst e;obtain⟨v,s,rfl,⟨ad,xs,rfl,I,hl⟩,v2,s2,rfl,⟨bd,ys,rfl,J,hk⟩,hs⟩:=hv;cases hs;show#[ad,bd,A5,#[xs,.of (zw _ _ I)],#[ys,.of (zw _ _ J)],k _ m _ H1 r (Vv F (λs=>.of (zw _ _ (s.tup I))) hl J hk) g]
def uy (D:Ev)(A8:List '0'):Ev:=A8.map λo=>match o with
 | none=>none
 | some i=>(D[i]?).join
def zQ (M:AR)(A8:List '0'):AR:=(List.range A8.length).filter λk=>match A8[k]? with
 | some (some i)=>M.contains i
 | _=>false
def Fq:k∈zQ M A8↔∃i,A8[k]?=some (some i)/\i∈M:=by
 unfold zQ;rw[bK,aL];constructor;rintro⟨h1,h2⟩;rw[am h1] at h2 ⊢
 cases e:A8[k] with
 | none=>rw[e] at h2;cases h2
 | some i=>rw[e] at h2;show#[i,A5,by simpa using h2]
 rintro⟨i,h1,h2⟩;show#[(ai.mp h1).1,by right]
def Dh{l:List (Option α)}{k:Nat}{x:α}:(A8.map λo=>match o with | none=>none | some i=>(l[i]?).join)[k]?=some (some x)↔∃i,A8[k]?=some (some i)/\l[i]?=some (some x):=by
 rw[aF]
 cases e:A8[k]? with
 | none=>simp
 | some o=>
  cases o with
  | none=>simp
  | some i=>
   simp only[Option.map_some,Option.some.injEq];constructor;intro h;show#[i,A5,?_]
   cases q:l[i]? with
   | none=>rw[q] at h;cases h
   | some z=>rw[q] at h;cases z with
    | none=>cases h
    | some y=>cases h;rfl
   right
def EnvR.cap(E:EnvR A M G H D)(hn:(A8.filterMap id).Nodup):EnvR A '(' (xw G A8) H (uy D A8) where
 len:=by unfold xw uy;rw[af,af]
 val:=λk w e=>by
  obtain⟨i,h1,h2⟩:=Dh.mp e;obtain⟨v,s1,s2,s3⟩:=E.val i w h2;show#[v,Dh.mpr #[i,h1,s1],λz=>s2 λy=>z (Fq.mpr #[i,h1,y]),λz=>?_];obtain⟨j,h3,h4⟩:=Fq.mp z;right
 dis:=λk k' w u ad hk ab ac e1 e2 s1 s2=>by
  obtain⟨i,h1,h2⟩:=Dh.mp e1;obtain⟨i',B,ag⟩:=Dh.mp e2;obtain⟨j,h3,h4⟩:=Dh.mp s1;obtain⟨j',I,an⟩:=Dh.mp s2;rw[h1] at h3;cases h3;rw[B] at I;cases I;obtain⟨m,m1,m2⟩:=Fq.mp hk;rw[h1] at m1;cases m1;obtain⟨m',J,as⟩:=Fq.mp ab;rw[B] at J;cases J;show E.dis _ _ w u ad m2 as (λz=>?_) h2 ag h4 an;subst z
  have key:∀ (l:List '0') (a b:Nat) (x:Nat),(l.filterMap id).Nodup->l[a]?=some (some x)->l[b]?=some (some x)->a=b:=by
   intro l
   induction l with
   | nil=>intro a b x _ h;simp at h
   | cons o l ih=>
    intro a b x hn O U;have Y:∀ (l:List '0') (a:Nat),l[a]?=some (some x)->x∈l.filterMap id:=λl a h=>dw.mpr #[some x,az h,A5]
    cases o with
    | none=>
     have a0:(l.filterMap id).Nodup:=by simpa using hn
     cases a with
     | zero=>simp at O
     | succ a=>
      cases b with
      | zero=>simp at U
      | succ b=>rw[ih a b x a0 (by simpa using O) (by simpa using U)]
    | some y=>
     have F:y∉l.filterMap id/\(l.filterMap id).Nodup:=by right
     cases a with
     | zero=>
      have a1:y=x:=by simpa using O
      subst a1
      cases b with
      | zero=>rfl
      | succ b=>show absurd (Y l b (by simpa using U)) F.1
     | succ a=>
      cases b with
      | zero=>
       have a2:y=x:=by simpa using U
       subst a2;show absurd (Y l a (by simpa using O)) F.1
      | succ b=>rw[ih a b x F.2 (by simpa using O) (by simpa using U)]
  show ac (key A8 k k' _ hn h1 B)
 al:=E.al
def EnvR.more{A:AL}(E:EnvR A M G H D){p:Addr}{o:HO}(s:zq H H')(n:Fr H p)(g:H' p=some o)(np:NP o)(F:Mt o):EnvR (λb=>A b\/b=p) M G H' D where
 len:=E.len
 val:=λi w e=>by obtain⟨v,h1,h2,B⟩:=E.val i w e;show#[v,h1,λz=>WAt.up (yy s n) (yy s n) (h2 z),λz=>?_];obtain⟨a,e,I,J,O⟩:=B z;show#[a,e,.inl I,WAt.up s (yy s n) J,O]
 dis:=E.dis
 al:=λa h=>by
  rcases h with h | h;obtain⟨o,h1,h2,B⟩:=E.al a h;show#[o,s _ _ h1 h2,h2,B];subst h;show#[o,g,np,F]
def EnvR.upd{A:AL}(E:EnvR A M G H D){p:Addr}(hp:A p)(hn:∀i w,i∈M->D[i]?=some (some w)->G[i]?≠some (some (.ref p)))(np:NP o)(nt:Mt o):EnvR A M G (L2.upd H p o) D where
 len:=E.len
 val:=λi w e=>by
  obtain⟨v,h1,h2,h3⟩:=E.val i w e;show#[v,h1,λz=>?_,λz=>?_];change WAt _ _ _ _;rw[zH hp];show h2 z;obtain⟨a,F,h4,J,O⟩:=h3 z;have I:a≠p:=λq=>hn i w z e (by rw[h1,F,q]);show#[a,F,h4,?_,O];change WAt _ _ _ _;rw[zH hp]
  cases w with
  | d x=>
   cases x with
   | lst l=>obtain⟨U,xs,B,g1,g2⟩:=J;rw[F] at B;cases B;show#[a,xs,F,by unfold Rd;rw[zc I];show g1,g2]
   | dct=>obtain⟨U,xs,B,g1,g2⟩:=J;rw[F] at B;cases B;show#[a,xs,F,by rw[zc I];show g1,g2]
   | _=>cases O
  | pen p=>cases O
  | dk k=>obtain⟨U,xs,B,g1,g2⟩:=J;rw[F] at B;cases B;show#[a,xs,F,by rw[zc I];show g1,g2]
  | dt k=>obtain⟨U,xs,B,g1,g2⟩:=J;rw[F] at B;cases B;show#[a,xs,F,by rw[zc I];show g1,g2]
  | dn fz k=>obtain⟨U,xs,B,g1,g2⟩:=J;rw[F] at B;cases B;show#[a,xs,F,g1.imp λo _ e=>by rw[zc I];show e,g2]
  | wd d fs kn=>cases O
  | lf ls=>cases O
  | cu k=>cases O
  | ss P w k=>obtain⟨U,xs,B,g1,g2⟩:=J;rw[F] at B;cases B;show#[a,xs,F,by rw[zc I];show g1,g2]
  | df k=>obtain⟨U,ob,xs,B,g1,g2⟩:=J;rw[F] at B;cases B;show#[a,ob,xs,F,by right,g2]
  | kf k=>obtain⟨U,ob,xs,B,g1,g2⟩:=J;rw[F] at B;cases B;show#[a,ob,xs,F,by right,g2]
  | ad a x=>cases O
  | tz A7 x=>cases O
  | fl k=>obtain⟨U,ob,xs,B,g1,g2⟩:=J;rw[F] at B;cases B;show#[a,ob,xs,F,by right,g2]
 dis:=E.dis
 al:=λa h=>by
  by_cases Y:a=p;subst Y;show#[o,zg,np,nt];rw[zc Y];show E.al a h
def y8.upd{A:AL}{p:Addr}(h:y8 Pn A n H)(hp:A p):y8 Pn A n (L2.upd H p o):=by
 show#[?_,Pn.J.upd h.2 hp];have h:=h.1;split at h;trivial
 ·show#[?_,h.2];rename_i q c ns _;obtain⟨h1,h2,B⟩:=h;have F:c≠p:=λz=>h2 (z ▸ hp);have I:q≠p:=λz=>B (z ▸ hp);obtain⟨a,l,g1,g2,g3,O⟩:=h1.ob;show#[#[a,l,by rw[zc I];show g1,g2,g3,O],let ⟨ob,e⟩:=h1.ls;#[ob,by rw[zc F];show e],h1.len]
end
structure JS (X:Cx)(Pn:PN)(S M:AR)(fr:Bool)(st:Stmt)(fs:Ms):Prop where
 ex:∃ts,QS X st ts/\RS Pn S M fr ts fs
structure JSs (X:Cx)(Pn:PN)(S M:AR)(fr:Bool)(st:List Stmt)(fs:Ms):Prop where
 ex:∃ts,QSs X st ts/\RS Pn S M fr ts fs
section
variable{a b:Expr}{pos:Pos}
def y8.grow'(h:y8 Pn A n H)(h':y8 Pn A m H')(B:Fr H q)(g:H' q=some o)(np:NP o)(F:Mt o):y8 Pn (λb=>A b\/b=q) m H':=by
 show#[?_,Pn.J.grow h'.2 λa z=>z.imp_right λe=>#[o,by rw[e];show g,np,F]];have h:=h.1;have h':=h'.1;revert h h'
 cases Pn.pn with
 | none=>show λ_ _=>trivial
 | some x=>
  obtain⟨p,c,ns⟩:=x;intro h h';show#[h'.1,λz=>z.elim h'.2.1 λz=>?_,λz=>z.elim h'.2.2 λz=>?_];subst z;obtain⟨ob,e⟩:=h.1.ls;show B _ e (λ_ z=>by cases z);subst z;obtain⟨a,l,e,_⟩:=h'.1.ob;rw[e] at g;cases g;have:=np _ A5;rw[GM] at this;cases this
def D_(h:∀C s H ex,JE ')' Pn M fr e f):∃te,(∀C s H ex,QE ')' e te)/\RE Pn M fr te f:=
 #[λG H Q=>∀C s H0 ex,(h C s H0 ex).ex.choose G H Q,λC s H0 ex=>#[λA6 s' G H Q I z=>(h C s H0 ex).ex.choose_spec.1.run A6 s' G H Q I (z C s H0 ex)],
  #[λA G H D n Q R E P hf k C s H0 ex=>(h C s H0 ex).ex.choose_spec.2.run A G H D n Q R E P hf k]]
def CP(h:∀C s H ex,JTs ')' Pn M es ft):∃te,(∀C s H ex,QTs ')' es te)/\RT Pn M te ft:=
 #[λG H Q=>∀C s H0 ex,(h C s H0 ex).ex.choose G H Q,λC s H0 ex=>#[λA6 s' G H Q I z=>(h C s H0 ex).ex.choose_spec.1.run A6 s' G H Q I (z C s H0 ex)],
  #[λA G H D n Q R E P hf k C s H0 ex=>(h C s H0 ex).ex.choose_spec.2.run A G H D n Q R E P hf k]]
def CQ(h:∀C s H ex,JG ')' S M e mg):∃g,(∀C s H ex,QG ')' e g)/\RG S M g mg:=
 #[λv G H Q=>∀C s H0 ex,(h C s H0 ex).ex.choose v G H Q,λC s H0 ex=>#[λA6 s' G H v u Q I B z=>(h C s H0 ex).ex.choose_spec.1.run A6 s' G H v u Q I B (z C s H0 ex)],
  #[λA G H D v w Q R E F hf k C s H0 ex=>(h C s H0 ex).ex.choose_spec.2.run A G H D v w Q R E F hf k]]
def Ea (mg:iJ)(ft:Ev->Mo Bool)(U:AD)(O:Ev)(Q:AV):AU->Nat->Prop:=λl n1=>l.length<=lim/\∃I:Nat->Ev->Nat->AS->Prop,I 0 O n1 []/\
 (∀i w B J acc,l[i]?=some w->I i B J acc->mg w B λF=>ft F J λb n2=>if b=true then U F n2 λx n3=>∃d,x = .d d/\I (i+1) F n3 (acc++[d]) else I (i+1) F n2 acc)/\
 ∀ B J acc,I l.length B J acc->Q (.d (.lst acc)) J
abbrev Mz (B:AC)(mg:iJ)(ft:Ev->Mo Bool)(F:AD)(A8:List '0'):AD:=λD n Q=>B D n (Ea mg ft F (uy D A8) Q)
def Vx(hn:(A8.filterMap id).Nodup)(hi:RI Pn M ow wi fi)(hg:RG '(' '(' g mg)(ht:RT Pn '(' ti ft)(he:RE Pn '(' fr' te fe):RE Pn M true (GS wi g ti te A8) (Mz fi mg ft fe A8):=#[λA G H D n Q R E P hf k=>by
 show hi.run A G H D n _ _ E P hf λl m J H1 ⟨hz,I,i0,it,ie⟩ iv g1=>λacc F=>?_;have E1:=E.stay g1.st;have E2:=(E1.cap hn).more (zq.upd (o:=.lst []) F) (Fr.of F) zg NP.lst A5;have P2:y8 Pn '-' m (L2.upd H1 acc (.lst [])):=g1.pn.grow' (g1.pn.same (yL.upd F)) (Fr.of F) zg NP.lst A5;have a5:∀k w,k∈zQ M A8->(uy D A8)[k]?=some (some w)->(xw G A8)[k]?≠some (some (.ref acc)):=λk w hk hw z=>by obtain⟨v,s1,_,s3⟩:=(E1.cap hn).val k w hw;obtain⟨a,e,hA,_⟩:=s3 hk;rw[z] at s1;cases s1;cases e;show E1.new F hA
 have key:∀ U O H',EnvR '-' '(' U H' O->(∀k∈zQ M A8,U[k]?=(xw G A8)[k]?/\O[k]?=(uy D A8)[k]?)->∀k w,k∈zQ M A8->O[k]?=some (some w)->U[k]?≠some (some (.ref acc)):=λU O H' E' a0 k w hk hw z=>by right
 show#[λi mm U H'=>mm=l.length-i/\i<=l.length/\∃ O n' B xs,EnvR '-' '(' U H' O/\y8 Pn '-' n' H'/\I i O n' B/\H' acc=some '+'/\IsL (zF '-' H') B xs/\B.length<=i/\zq (zF A H1) (zF '-' H')/\zq H1 H'/\(∀k∈zQ M A8,U[k]?=(xw G A8)[k]?/\O[k]?=(uy D A8)[k]?),
  #[l.length,by simp,aQ _,_,m,[],[],E2,P2,i0,zg,A5,ak _,yy (zq.upd F) (Fr.of F),zq.upd F,λk hk=>#[A5,A5]],?_]
 rintro i mm U H' ⟨rfl,a7,O,n',B,xs,E',P',hI,ab,ac,bb,st,s1,a0⟩;by_cases a2:i<l.length
 show Or.inr ?_;have as:l[i]?=some l[i]:=am a2;obtain⟨go,yl⟩:=iv.one i l[i] _ H' as st (λ_=>s1) λp hp=>E'.new hp
 show#[go,λa1 H2=>∃ O n' B xs,EnvR '-' '(' a1 H2 O/\y8 Pn '-' n' H2/\I (i+1) O n' B/\H2 acc=some '+'/\IsL (zF '-' H2) B xs/\B.length<=i+1/\zq (zF A H1) (zF '-' H2)/\zq H1 H2/\(∀k∈zQ M A8,a1[k]?=(xw G A8)[k]?/\O[k]?=(uy D A8)[k]?),
  λa1 H2 h=>#[l.length-(i+1),by lia,A5,a2,h],λx H2 hy=>?_]
 obtain⟨S2,V2⟩:=yl x H2 hy;show hg.run _ U H2 O x l[i] _ _ (E'.stay (zq.same S2)) V2 (it i l[i] O n' B as hI) λal Y r3 E3 f3=>?_;have ad:∀k∈zQ M A8,al[k]?=(xw G A8)[k]?/\Y[k]?=(uy D A8)[k]?:=λk hk=>#[(f3 k hk).1.trans (a0 k hk).1,(f3 k hk).2.trans (a0 k hk).2];show ht.run _ al H2 Y n' _ _ E3 (P'.same S2) r3 λb m3 H4 r4 g4=>?_;have ag:=(zq.same S2).trans g4.st
 cases b with
 | false=>
  rw[if_neg '#'] at r4 ⊢;show#[Y,m3,B,xs,E3.stay g4.st,g4.pn,r4,ag.lst ab,ac.stay (zr ag),by lia,st.trans (zr ag),s1.trans ag,ad]
 | true=>
  rw[if_pos rfl] at r4 ⊢;show he.run _ al H4 Y m3 _ _ (E3.stay g4.st) g4.pn r4 ?_;rintro w5 m5 v5 H5 ⟨d,e5,r5⟩ V5 g5 _;subst e5;have an:=ag.trans g5.st;have E5:=(E3.stay g4.st).stay g5.st;have a3:=an.lst ab;show#[xs,a3,CM (by rw[ac.length];lia),Y,m5,B++[d],xs++[v5],E5.upd (.inr A5) (key al Y H5 E5 ad) NP.lst A5,g5.pn.upd (.inr A5),r5,zg,?_,by right,?_,?_,ad];rw[zH (.inr A5)];show (ac.stay (zr an)).append (IsL.one V5.is);rw[zH (.inr A5)];show st.trans (zr an);show λb o e nn=>by rw[zc (ze e F)];show s1.trans an b o e nn
 show Or.inl ?_;have a4:i=l.length:=by lia
 subst a4;show#[iv.stop _ H' st (λ_=>s1),k _ n' _ H' (ie O n' B hI) (Val.of #[acc,xs,A5,.inl (zv (E1.new F) ab),ac.stay (zq.same (yx λb z=>.inl z))]) (g1.trans #[s1,P'.less λa z=>.inl z]) λ_=>#[acc,A5,(Fr.of F).back g1.st,#[_,ab,A5],acc,xs,A5,.inl ab,ac]]]
abbrev Ft:Ev->Mo Bool:=λ_ n Q=>Q true n
def xZ:JTs X Pn M [] Ft:=#[_,GH,#[λA G H D n Q R E P hf k=>k true n H hf (Go.refl P)]]
def Di(h:JT X Pn M c ft):JTs X Pn M [c] ft:=let ⟨t,h1,h2⟩:=h.ex;#[t,Rz h1,h2]
def Cf(I:X.calm=true)(cc:CompOk X scope N A8)(hi:JI X Pn M ow tg iter B)(J:∀C s H ex,JG ')' '(' '(' tg mg)(O:∀C s H ex,JTs ')' Pn '(' ifs ft)(U:∀C s H ex,JE ')' Pn '(' fr' elt F)(Y:(A8.filterMap id).Nodup:=by ext)(hs:gM iter X:=by intro _;rfl):JE X Pn M true (.ListComp elt [#[tg,iter,ifs,0]] scope pos) (Mz B mg ft F A8):=by
 obtain⟨ti,qi,ri⟩:=hi.ex;obtain⟨g,qg,rg⟩:=CQ J;obtain⟨tt,qt,rt⟩:=CP O;obtain⟨te,qe,re⟩:=D_ U;show#[_,KW I cc qi qg qt qe hs,Vx Y ri rg rt re]
def At3.step(h:At3 Pn B S M A G H D n)(g:Go Pn A H m H'):At3 Pn B S M A G H' D m where
 env:=h.env.stay g.st
 frm:=#[h.frm.sub,h.frm.new,λb o e n c=>g.st b o (h.frm.st b o e n c) n,h.frm.al,h.frm.cn,λa z=>let ⟨o,e,n⟩:=h.frm.cs a z;#[o,g.st a o e n,n]]
 pn:=g.pn
 prot:=h.prot.trans (zr g.st)
 fix:=h.fix
 mine:=h.mine
abbrev mRet (f:AD):Ms:=λD n k=>f D n k.rt
def Vy(h:RE Pn M fr te f):RS Pn S M fr (Es te) (mRet f):=#[λB A G H D n k BB a kk hf=>by
 show h.run A G H D n _ _ a.env a.pn hf λw m v H' r F g I=>?_;have J:=a.step g;show kk.rt w m v H' (WAt.up (zq.same (yx a.frm.sub)) (zq.same (yx a.frm.sub)) F) J.frm.st (g.pn.less a.frm.sub) (λz=>by obtain⟨b,e,f1,f2⟩:=I z;show FrV.less #[b,e,a.frm.back f1 (a.env.newF f1),f2] a.frm.sub) r]
def zC (h:JE X Pn M fr e f):JS X Pn S M fr (.Return (some e) pos) (mRet f):=let ⟨te,q,r⟩:=h.ex;#[_,u7 q,Vy r]
def Im (i:Nat):Ms:=λD n k=>∃w,D[i]?=some (some w)/\k.rt w n
def Vz(hi:i∈M):RS Pn S M fr (Es (BX i)) (Im i):=#[by
 rintro B A G H D n k BB a kk ⟨w,e,r⟩;obtain⟨v,s1,_,s3⟩:=a.env.val i w e;obtain⟨ad,rfl,hA,J,Y⟩:=s3 hi;have hF:=a.mine i w ad hi e s1
 have O:¬ B.A0 ad:=λz=>by
  rcases hF with hF | hF;obtain⟨o,o1,o2,_⟩:=a.frm.al ad z;show hF o o1 o2;show a.frm.cn ad hF z
 have F:yL (zF A H) (zF B.A0 H):=yx a.frm.sub;have ab:yL (zF A H) (zF (λb=>B.A0 b\/b=ad) H):=yx λb z=>z.elim (a.frm.sub b) λz=>z ▸ hA;show#[.ref ad,s1,kk.rt w n (.ref ad) H ?_ a.frm.st (a.pn.less a.frm.sub) (λz=>#[ad,A5,hF.resolve_right (kk.fc ad),(let ⟨o,o1,_,o3⟩:=a.env.al ad hA;#[o,o1,o3]),WAt.up (zq.refl _) (zq.same ab) J]) r]
 cases w with
 | d x=>
  cases x with
  | lst l=>obtain⟨U,xs,I,g1,g2⟩:=J;cases I;show#[ad,xs,A5,g1.hid O,g2.stay (zq.same F)]
  | dct=>obtain⟨U,xs,I,g1,g2⟩:=J;cases I;show#[ad,xs,A5,zv O g1,g2]
  | _=>cases Y
 | pen p=>cases Y
 | dk A7=>obtain⟨U,xs,I,g1,g2,g3⟩:=J;cases I;show#[ad,xs,A5,zv O g1,g2.stay (zq.same F),g3]
 | dt A7=>obtain⟨U,xs,I,g1,g2⟩:=J;cases I;show#[ad,xs,A5,zv O g1,g2.stay (zq.same F)]
 | dn fz A7=>obtain⟨U,xs,I,g1,g2,g3⟩:=J;cases I;show#[ad,xs,A5,g1.imp λo _ e=>zv O e,g2.stay (zq.same F),g3.stay (zq.same F)]
 | wd d fs kn=>cases Y
 | lf ls=>cases Y
 | cu k=>cases Y
 | ss P w A7=>obtain⟨U,xs,I,g1,g2⟩:=J;cases I;show#[ad,xs,A5,zv O g1,g2.stay (zq.same F)]
 | kf A7=>obtain⟨U,ob,xs,I,g1,g2⟩:=J;cases I;show#[ad,ob,xs,A5,zv O g1,g2.stay (zq.same F)]
 | ad a x=>cases Y
 | tz A7 x=>cases Y
 | fl A7=>obtain⟨U,ob,xs,I,g1,g2⟩:=J;cases I;show#[ad,ob,xs,A5,zv O g1,g2.stay (zq.same F)]
 | df A7=>obtain⟨U,ob,xs,I,g1,g2⟩:=J;cases I;show#[ad,ob,xs,A5,zv O g1,g2.stay (zq.same F)]]
def VA (i:Nat){x:Str}(hi:i∈M:=by ext)(F:X.N[i]?=some x:=by rfl)(I:Vis X.env.scope x:=by fail"v")(J:Ah x:=by ext)(B:h_ x:=by ext):JS X Pn S M fr (.Return (some (.Name x pos)) pos') (Im i):=#[_,u7 (qv i F I J B),Vz hi]
abbrev CT (f:AD)(mg:iJ):Ms:=λD n k=>f D n λw m=>mg w D λB=>k.nx B m
def EnvR.mineG(a:At3 Pn B S M A G H D n)(E:EnvR A M F H I)(f:∀i∈S++M,F[i]?=G[i]?/\I[i]?=D[i]?):At3 Pn B S M A F H I n where
 env:=E
 frm:=a.frm
 pn:=a.pn
 prot:=a.prot
 fix:=#[λi hi=>(f i (aA.mpr (.inl hi))).1.trans (a.fix.1 i hi),a.fix.2]
 mine:=λi w J hi e s=>by obtain⟨f1,f2⟩:=f i (aA.mpr (.inr hi));rw[f1] at s;rw[f2] at e;show a.mine i w J hi e s
def Io(h:RE Pn M fr' te f)(O:RG (S++M) M g mg):RS Pn S M fr (BK te g) (CT f mg):=#[λB A G H D n k BB a kk hf=>by show h.run A G H D n _ _ a.env a.pn hf λw m v H' r U g' _=>?_;have J:=a.step g';show O.run A G H' D v w _ _ J.env U r λF I Y E2 f2=>kk.nx A F H' I m (EnvR.mineG J E2 f2) Y]
def zO{i:Nat}{x:Str}(I:X.N.Nodup)(J:JE X Pn M fr' e f)(hi:X.N[i]?=some x:=by rfl)(O:Loc X.env.scope x:=by first | show Or.inl A5 | show Or.inr A5)(B:i∉M:=by ext)(F:i∉S++M:=by ext)(hs:swapsWith e (some (.Name x pos')) pos.line X.env=pure false:=by rfl)(hf:g_ x X:=by fail"l"):
  JS X Pn S M fr (.Assign [.Name x pos'] e pos) (CT f (gN i)):=let ⟨te,q,r⟩:=J.ex;#[_,xF I hi O q hs hf,Io r (Ie B F)]
def VB{st:Stmt}(h:∃te,QS X st (BK te (BJ i))/\RE Pn M true te f)(B:i∉M:=by ext)(F:i∉S++M:=by ext):JS X Pn S M fr st (CT f (gN i)):=let ⟨te,q,r⟩:=h;#[_,q,Io r (Ie B F)]
def Ip(B:JE X Pn M fr' e f)(F:JG X (S++M) M tg mg)(hs:swapsWithSole [tg] e pos.line X.env=pure false:=by rfl)(I:swappedStores [tg] e X.env=pure none:=by rfl)(h1:(assignEach [tg] X.env).map (·.2)=[assign tg X.env]:=by rfl):JS X Pn S M fr (.Assign [tg] e pos) (CT f mg):=let ⟨te,q,r⟩:=B.ex;let ⟨g,q2,r2⟩:=F.ex;#[_,RD q q2 hs I h1,Io r r2]
def Fv (i:Nat)(f:AD):Ms:=λD n k=>f D n λw m=>w.mut=true/\k.nx (D.set i (some w)) m
def VC{w:_}(h:WAt T BA w v)(hm:w.mut=true)(hk:∀a o,v = .ref a->T a=some o->Mt o):∃a o,v = .ref a/\T a=some o/\NP o/\Mt o:=by
 cases w with
 | d x=>
  cases x with
  | lst l=>
   obtain⟨a,xs,e,g1,_⟩:=h;rcases g1 with g1 | ⟨o,g1⟩;show#[a,_,e,g1,NP.lst,A5];cases hk a _ e g1
  | dct=>obtain⟨a,xs,e,g1,g2⟩:=h;show#[a,_,e,g1,λk z=>by cases z;subst g2;rfl,A5]
  | _=>cases hm
 | pen p=>cases hm
 | dk A7=>obtain⟨a,xs,e,g1,_,g3⟩:=h;show#[a,_,e,g1,λk z=>by cases z;show g3,A5]
 | dt A7=>obtain⟨a,xs,e,g1,_⟩:=h;show#[a,_,e,g1,(λk z=>by cases z),A5]
 | ss P w A7=>obtain⟨a,xs,e,g1,_⟩:=h;show#[a,_,e,g1,Fa,A5]
 | dn fz A7=>
  obtain⟨a,ks,e,g1,_⟩:=h;rcases g1.rd with g1 | ⟨o,g1⟩;show#[a,_,e,g1,Fe,A5];cases hk a _ e g1
 | wd d fs kn=>cases hm
 | lf ls=>cases hm
 | cu k=>cases hm
 | df A7=>cases hm
 | kf A7=>cases hm
 | ad a x=>cases hm
 | tz A7 x=>cases hm
 | fl A7=>cases hm
def VD(h:RE Pn M true te f)(hi:i∈M)(hs:i∉S):RS Pn S M fr (BK te (BJ i)) (Fv i f):=#[λB A G H D n k BB a kk hf=>by
 show h.run A G H D n _ _ a.env a.pn hf ?_;rintro w m v H' ⟨hm,r⟩ hv g' ac;obtain⟨ad,rfl,U,⟨o',ag,an⟩,hb⟩:=ac A5;obtain⟨a2,o,Y,ho,np,nt⟩:=VC hb hm λb u e z=>by cases e;rw[ag] at z;cases z;show an
 cases Y;have E1:=a.env.more g'.st U ho np nt;have ab:¬ A ad:=a.env.newF U;show kk.nx (λb=>A b\/b=ad) _ H' _ m #[#[?_,?_,?_,E1.al],#[λb z=>.inl (a.frm.sub b z),λb z=>?_,λb o e n c=>g'.st b o (a.frm.st b o e n c) n,a.frm.al,a.frm.cn,λb z=>let ⟨o,e,n⟩:=a.frm.cs b z;#[o,g'.st b o e n,n]],a.pn.grow' g'.pn U ho np nt,a.prot.trans (yy g'.st U),#[λj I=>?_,a.fix.2],λj u b I e s=>?_] r;rw[cg,cg];show a.env.len;intro j u e;by_cases I:j=i;subst I
 have J:j<D.length:=by
  have:=(ai.mp e).1;right
 rw[ba J] at e;cases e;show#[.ref ad,ba (by rw[a.env.len];show J),λz=>absurd hi z,λ_=>#[ad,A5,.inr A5,hb,hm]];rw[aG (Ne.symm I)] at e ⊢;show E1.val j u e;intro j l u u' b I J O e1 Y s1 s2
 have as:∀q u,q∈M->q≠i->D[q]?=some (some u)->G[q]?≠some (some (.ref ad)):=λq u hq a3 eq sq=>by
  obtain⟨v,s,_,s3⟩:=a.env.val q u eq;obtain⟨c,ec,hc,_⟩:=s3 hq;right
 have a0:∀q (u:W),(D.set i (some w))[q]?=some (some u)->q<G.length:=λq u e=>by have:=(ai.mp e).1;rw[cg] at this;rw[a.env.len];show this
 by_cases F:j=i;subst F;rw[ba (a0 _ _ e1)] at s1;cases s1;rw[aG O] at Y s2;show as l u' J (Ne.symm O) Y s2;rw[aG (Ne.symm F)] at e1 s1;by_cases a1:l=i;right;rw[aG (Ne.symm a1)] at Y s2;show a.env.dis j l u u' b I J O e1 Y s1 s2;rcases z with z | z;show a.frm.new b z;subst z;show .inr (.inl (a.frm.back U ab));rw[aG λz=>hs (by rw[z];show I)];show a.fix.1 j I;by_cases F:j=i;subst F
 have J:j<G.length:=by
  have:=(ai.mp s).1;right
 rw[ba J] at s;cases s;show .inl (a.frm.back U ab);rw[aG (Ne.symm F)] at e s;show a.mine j u b I e s]
def Dj{i:Nat}{x:Str}(I:X.N.Nodup)(J:JE X Pn M true e f)(hi:X.N[i]?=some x:=by rfl)(O:Loc X.env.scope x:=by first | show Or.inl A5 | show Or.inr A5)(B:i∈M:=by ext)(F:i∉S:=by ext)(hs:swapsWith e (some (.Name x pos')) pos.line X.env=pure false:=by rfl)(hf:g_ x X:=by fail"l"):
  JS X Pn S M fr (.Assign [.Name x pos'] e pos) (Fv i f):=let ⟨te,q,r⟩:=J.ex;#[_,xF I hi O q hs hf,VD r B F]
variable{st:Stmt}{A9:List Stmt}{fs gs:Ms}
abbrev mNx:Ms:=λD n k=>k.nx D n
structure blk (g:Ms)(D:Ev)(n:Nat)(k:Kt):Prop where
 go:g D n k
def ZX(h:g D n k):blk g D n k:=#[h]
abbrev mSeq (f g:Ms):Ms:=λD n k=>f D n { k with nx:=λB F=>blk g B F k }
def Iq (t:Ev->Mo Bool)(f g:Ms):Ms:=λD n k=>t D n λc m=>if c=true then blk f D m k else blk g D m k
def zS:JSs X Pn S M fr [] mNx:=#[_,DH,#[λB A G H D n k BB a kk hf=>kk.nx A G H D n a hf]]
def VF(h1:RS Pn S M fr t fs)(h2:RS Pn S M fr u gs):RS Pn S M fr (F4 t u) (mSeq fs gs):=#[λB A G H D n k BB a kk hf=>
 h1.run B A G H D n { k with nx:=λF I=>blk gs F I k } _ a #[λA' J H' F I O r=>h2.run B A' J H' F I k BB O kk r.go,kk.bk,kk.ct,kk.fc,kk.rt] hf]
def zf (h1:JS X Pn S M fr st fs)(h2:JSs X Pn S M fr A9 gs):JSs X Pn S M fr (st::A9) (mSeq fs gs):=let ⟨t,q,r⟩:=h1.ex;let ⟨u,q2,r2⟩:=h2.ex;#[_,zD q q2,VF r r2]
def zh (h1:JS X Pn S M fr st fs):JSs X Pn S M fr [st] fs:=let ⟨t,q,r⟩:=h1.ex;#[_,yP q,r]
def xx(I:JT X Pn M c t)(J:JSs X Pn S M fr body fs)(O:JSs X Pn S M fr F gs):JS X Pn S M fr (.If c body F pos) (Iq t fs gs):=by
 obtain⟨tc,U,Y⟩:=I.ex;obtain⟨ta,qa,ra⟩:=J.ex;obtain⟨tb,qb,rb⟩:=O.ex;show#[_,C9 U qa qb,#[λB A G H D n k BB a kk hf=>?_]];show Y.run A G H D n _ _ a.env a.pn hf λc m H1 r g=>?_
 cases c with
 | true=>rw[if_pos rfl] at r ⊢;show ra.run B A G H1 D m k BB (a.step g) kk r.go
 | false=>rw[if_neg '#'] at r ⊢;show rb.run B A G H1 D m k BB (a.step g) kk r.go
abbrev VG (f:AD):Ms:=λD n k=>f D n λ_ m=>k.nx D m
def VH (F:JE X Pn M fr' e f)(hs:swapsWith e none pos.line X.env=pure false:=by rfl):JS X Pn S M fr (.Expr e pos) (VG f):=by obtain⟨te,q,r⟩:=F.ex;show#[_,EK q hs,#[λB A G H D n k BB a kk hf=>r.run A G H D n _ _ a.env a.pn hf λw m v H' I _ g _=>kk.nx A G H' D m (a.step g) I]]
def At3.wr{w:_}(h:At3 Pn B S M A G H D n)(hi:i∈M)(e:D[i]?=some (some w))(s:G[i]?=some (some (.ref ad)))(hl:IsL (zF A H) l xs):At3 Pn B S M A G (L2.upd H ad '+') (D.set i (some (.d (.lst l)))) n:=by
 obtain⟨v,s1,_,s3⟩:=h.env.val i w e;rw[s] at s1;cases s1;obtain⟨U,F,hA,_,_⟩:=s3 hi;cases F;have ab:i<D.length:=(ai.mp e).1
 have hE:EnvR A M G (L2.upd H ad '+') (D.set i (some (.d (.lst l)))):=by
  show#[by rw[cg];show h.env.len,λj u Y=>?_,λj q u u' b hj hq I e1 F=>?_,λb hb=>?_];by_cases hj:j=i;subst hj;rw[ba ab] at Y;cases Y;show#[.ref ad,s,λz=>absurd hi z,λ_=>#[ad,A5,hA,#[ad,xs,A5,.inl zg,by rw[zH hA];show hl],A5]];rw[aG (Ne.symm hj)] at Y;obtain⟨v,t1,t2,t3⟩:=h.env.val j u Y;show#[v,t1,λz=>?_,λz=>?_];change WAt _ _ _ _;rw[zH hA];show t2 z;obtain⟨b,rfl,hb,J,hm⟩:=t3 z;have I:b≠ad:=λq=>h.env.dis i j w u ad hi z (Ne.symm hj) e Y s (by rw[t1,q]);show#[b,A5,hb,?_,hm];change WAt _ _ _ _;rw[zH hA]
  cases u with
  | d x=>
   cases x with
   | lst l=>obtain⟨U,xs,F,g1,g2⟩:=J;cases F;show#[b,xs,A5,by unfold Rd;rw[zc I];show g1,g2]
   | dct=>obtain⟨U,xs,F,g1,g2⟩:=J;cases F;show#[b,xs,A5,by rw[zc I];show g1,g2]
   | _=>cases hm
  | pen p=>cases hm
  | dk k=>obtain⟨U,xs,F,g1,g2⟩:=J;cases F;show#[b,xs,A5,by rw[zc I];show g1,g2]
  | dt k=>obtain⟨U,xs,F,g1,g2⟩:=J;cases F;show#[b,xs,A5,by rw[zc I];show g1,g2]
  | dn fz k=>obtain⟨U,xs,F,g1,g2⟩:=J;cases F;show#[b,xs,A5,g1.imp λo _ e=>by rw[zc I];show e,g2]
  | wd d fs kn=>cases hm
  | lf ls=>cases hm
  | cu k=>cases hm
  | ss P w k=>obtain⟨U,xs,F,g1,g2⟩:=J;cases F;show#[b,xs,A5,by rw[zc I];show g1,g2]
  | df k=>obtain⟨U,ob,xs,F,g1,g2⟩:=J;cases F;show#[b,ob,xs,A5,by right,g2]
  | kf k=>obtain⟨U,ob,xs,F,g1,g2⟩:=J;cases F;show#[b,ob,xs,A5,by right,g2]
  | ad a x=>cases hm
  | tz A7 x=>cases hm
  | fl k=>obtain⟨U,ob,xs,F,g1,g2⟩:=J;cases F;show#[b,ob,xs,A5,by right,g2]
  have ac:∀q (u:W),(D.set i (some (.d (.lst l))))[q]?=some (some u)->∃u',D[q]?=some (some u'):=λq u z=>by
   by_cases hq:q=i;subst hq;show#[w,e];rw[aG (Ne.symm hq)] at z;show#[u,z]
  obtain⟨v1,f1⟩:=ac j u e1;obtain⟨v2,f2⟩:=ac q u' F;show h.env.dis j q v1 v2 b hj hq I f1 f2;by_cases O:b=ad;subst O;show#[_,zg,NP.lst,A5];rw[zc O];show h.env.al b hb
 show#[hE,#[h.frm.sub,h.frm.new,λb o eb nn nc=>?_,h.frm.al,h.frm.cn,λb z=>(by
  by_cases O:b=ad;subst O;show#[_,zg,NP.lst];rw[zc O];show h.frm.cs b z)],h.pn.upd hA,by rw[zH hA];show h.prot,h.fix,λj u b hj Y sj=>?_]
 have I:b≠ad:=λq=>by
  subst q;rcases h.mine i w b hi e s with z | z;show z o eb nn;show nc z
 rw[zc I];show h.frm.st b o eb nn nc;by_cases ag:j=i;subst ag;show h.mine j w b hj e sj;rw[aG (Ne.symm ag)] at Y;show h.mine j u b hj Y sj
def Fw (i:Nat)(f:AD):Ms:=λD n k=>(∃l,D[i]?=some (some (.d (.lst l))))/\f D n λw m=>∃l d,D[i]?=some (some (.d (.lst l)))/\w = .d d/\l.length<lim/\k.nx (D.set i (some (.d (.lst (l++[d]))))) m
def VI(h:RE Pn M fr' te f)(hi:i∈M):RS Pn S M fr (F5 (tBM K "list" Gq (BX i) (Cm te Cy))) (Fw i f):=#[by
 rintro B A G H D n k BB a kk ⟨⟨l0,U⟩,hf⟩;obtain⟨v,s1,_,Y⟩:=a.env.val i _ U;obtain⟨J,rfl,hA,hb,_⟩:=Y hi;obtain⟨a2,ab,e2,g0,_⟩:=hb;cases e2;show#[.ref J,s1,.inl #[A5,_,.inl g0],?_];show h.run A G H D n _ _ a.env a.pn hf ?_;rintro w m v H' ⟨l,d,e,ed,hz,r⟩ hv g _;subst ed;have F:=a.step g;obtain⟨v2,t1,_,t3⟩:=F.env.val i _ e;rw[s1] at t1;cases t1;obtain⟨a3,e3,ac,I,_⟩:=t3 hi;cases e3;obtain⟨a4,xs,e4,g4,O⟩:=I;cases e4;show#[J,xs,v,A5,A5,g4.own F.env.al hA,CM (by rw[O.length];show cS hz),kk.nx A G _ _ m (F.wr hi e s1 (O.append (IsL.one hv.is))) r]]
def Ir (i:Nat){x:Str}{sp:Pos}(Y:JE X Pn M fr' e f)(hi:i∈M:=by ext)(hN:X.N[i]?=some x:=by rfl)(hv:Vis X.env.scope x:=by fail"v")(hd:Ah x:=by ext)(U:h_ x:=by ext)(J:starEach (e::[]) X.env=(false,eval e X.env)::starEach [] X.env:=by rfl)(hs:swapsWith (.Call (.Attribute (.Name x np) "append" ap) [e] [] cp) none sp.line X.env=pure false:=by rfl)(F:attributeBase (.Name x np) "append" X.env (eval (.Name x np) X.env)=eval (.Name x np) X.env:=by rfl)(I:(ap.endLine==cp.line)=true:=by rfl)(O:((backTo cp (starEach [e] X.env)).all (λx=>!x.1)&&(backToKw cp (keywordEach [] X.env)).all (λx=>x.1.isSome)&&decide (([e]:AO).length+([]:List Keyword).length+(if ([]:List Keyword).isEmpty then 0 else 1)<30))=true:=by rfl)(B:(backTo cp (starEach [] X.env)).any (·.1)=false:=by rfl):
  JS X Pn S M fr (.Expr (.Call (.Attribute (.Name x np) "append" ap) [e] [] cp) sp) (Fw i f):=by
 obtain⟨te,q,r⟩:=Y.ex;show#[_,EK (R0 (qv i hN hv hd U) (zB q yu J) F O I J B) hs,VI r hi]
def CU (mg:iJ)(fb:Ms)(D:Ev)(k:Kt):AU->Nat->Prop:=λl n1=>∃I:Nat->Ev->Nat->Prop,I 0 D n1/\
 (∀i w B F,l[i]?=some w->I i B F->mg w B λJ=>fb J F { k with nx:=I (i+1),ct:=I (i+1),bk:=k.nx })/\∀ B F,I l.length B F->k.nx B F
abbrev mFor (B:AC)(mg:iJ)(fb:Ms):Ms:=λD n k=>B D n (CU mg fb D k)
def VJ{B:Bs}{A:AL}{k:Kt}{BB:Ends}{J:It}{l:AU}{g:TG}{tb:TS}{mg:iJ}{fb:Ms}(hg:RG (S++M) M g mg)(hb:RS Pn S M fr tb fb)(hS:9999∉S)(a1:At3 Pn B S M A G H1 D m)(kk:KOk Pn B S M fr k BB)(iv:ItV false A H1 J l)(hf:CU mg fb D k l m):
  ∃W:Nat->Nat->St->Hp->Prop,(∃m,W 0 m G H1)/\∀i m G H,W i m G H->(J.stop i H/\BB.nx G H)\/(J.go i H/\∃N:St->Hp->Prop,(∀ O H',N O H'->∃m',m'<m/\W (i+1) m' O H')/\∀x H',J.yld i H x H'->g x G H' λab H2=>tb { BB with nx:=N,ct:=N,bk:=BB.nx } ab H2):=by
 obtain⟨I,i0,it,ie⟩:=hf;have out:∀ {A':AL} {O:St} {H':Hp} {F:Ev} {U:Nat},At3 Pn { B with G0:=zF A H1 } S M A' O H' F U->At3 Pn B S M A' O H' F U:=λ{A' O H' F U} q=>#[q.env,q.frm,q.pn,a1.prot.trans q.prot,#[q.fix.1,a1.fix.2],q.mine];show#[λi mm O H'=>mm=l.length-i/\i<=l.length/\∃A' F U,At3 Pn { B with G0:=zF A H1 } S M A' O H' F U/\I i F U,#[l.length,by simp,aQ _,A,D,m,#[a1.env,a1.frm,a1.pn,zq.refl _,#[a1.fix.1,λz=>absurd z hS],a1.mine],i0],?_];rintro i mm O H' ⟨rfl,a0,A',F,U,a',hI⟩;by_cases ag:i<l.length
 show Or.inr ?_;have ac:l[i]?=some l[i]:=am ag;obtain⟨go,yl⟩:=iv.one i l[i] A' H' ac a'.prot (λz=>by cases z) λp hp=>a'.env.new hp;show#[go,λab H2=>∃A' F U,At3 Pn { B with G0:=zF A H1 } S M A' ab H2 F U/\I (i+1) F U,λab H2 h=>#[l.length-(i+1),by lia,A5,ag,h],λx H2 hy=>?_];obtain⟨S2,V2⟩:=yl x H2 hy;have a2:=a'.step (Go.same a'.pn S2);show hg.run A' O H2 F x l[i] _ _ a2.env V2 (it i l[i] F U ac hI) λal an r3 E3 f3=>?_;show hb.run { B with G0:=zF A H1 } A' al H2 an U _ _ (EnvR.mineG a2 E3 f3) #[?_,?_,?_,kk.fc,?_] r3
 show λA4 ad H4 Y n4 a4 r4=>#[A4,Y,n4,a4,r4];show λA4 ad H4 Y n4 a4 r4=>kk.nx A4 ad H4 Y n4 (out a4) r4;show λA4 ad H4 Y n4 a4 r4=>#[A4,Y,n4,a4,r4];show kk.rt;show Or.inl ?_;have as:i=l.length:=by lia
 subst as;show#[iv.stop A' H' a'.prot (λz=>by cases z),kk.nx A' O H' F U (out a') (ie F U hI)]
def VL{g:TG}{tb:TS}{F:AC}{mg:iJ}{fb:Ms}(hi:RI Pn M false wi F)(I:RG (S++M) M g mg)(O:RS Pn S M fr tb fb)(U:9999∉S):RS Pn S M fr (F9 wi g tb) (mFor F mg fb):=#[λB A G H D n k BB a kk hf=>hi.run A G H D n _ _ a.env a.pn hf λl m J H1 Y iv g1=>VJ I O U (a.step g1) kk iv Y]
def xf{body:List Stmt}{B:AC}{mg:iJ}{fb:Ms}(hp:PassesOwn '5' X.A X.env X.xe)(F:X.calm=true)(hi:JI X Pn M false tg iter B)(I:JG X (S++M) M tg mg)(J:JSs X Pn S M fr body fb)(hs:gM iter X:=by intro _;rfl)(O:9999∉S:=by ext):
  JS X Pn S M fr (.For tg iter body [] pos) (mFor B mg fb):=by
 obtain⟨ti,U,Y⟩:=hi.ex;obtain⟨ab,qg,rg⟩:=I.ex;obtain⟨tb,qb,rb⟩:=J.ex;show#[_,GJ hp F U qg qb hs,VL Y rg rb O]
def uN (N:AM)(B:AU):Ev:=B.map some++List.replicate (N.length-B.length) none
theorem Bd.get:∀ {B:AU} {vs:AT} {i:Nat} {w:W},Bd A H B vs->B[i]?=some w->∃v,vs[i]?=some v/\Val A H w v
 | [],_,_,_,_,e=>by simp at e
 | x::B,vs,0,w,⟨v,r,F,h1,_⟩,e=>by right
 | x::B,vs,i+1,w,⟨v,r,F,_,h2⟩,e=>by
  subst F;obtain⟨u,I,J⟩:=Bd.get (i:=i) h2 (by simpa using e);right
def MA{A:AL}{ws:AU}{vs:AT}(al:Al A H)(h:Bd A H ws vs)(hM:∀i∈M,ws.length<=i):EnvR A M (L2.yS N vs) H (uN N ws) where
 len:=by unfold L2.yS uN;rw[ay,ay,af,af,List.length_replicate,List.length_replicate,h.len]
 val:=λi w e=>by
  unfold uN at e
  have hi:i<ws.length:=by
   apply cL;intro z;rw[bp (by right)] at e;obtain⟨_,q⟩:=ai.mp e;right
  rw[bE (by right),aF] at e;obtain⟨w',e1,e2⟩:=aI.mp e;cases e2;obtain⟨v,h1,h2⟩:=h.get e1;show#[v,?_,λ_=>h2,λz=>absurd (hM i z) '!'];unfold L2.yS;have hi':i<vs.length:=by rw[h.len];show hi
  rw[bE (by right),aF,h1];rfl
 dis:=λi j w u ad hi hj hne e1=>by
  unfold uN at e1;have:=hM i hi;rw[bp (by right)] at e1;obtain⟨_,q⟩:=ai.mp e1;right
 al:=al
def VM{P:Aa}{mg:AI}{f:Addr}{F:PN->AU->Mo W}(M:AR)(Y:(∀vs H Q E,spV m fr F vs H Q E->vs.length=ps.length)->(∀ (B:Value) (A:Ae) (outer:List Env) (s:AZ) (H:Hp) (vs:AT) (Q:VK) (E:XK),Room k (A.deeper (PyProof.Rows.envOfC qual (zb st) s.heap.objs.size f B))->spV m fr F vs H Q E->
   ∃t,QSs '='.nox (zE st) t/\t { nx:=λ_ H'=>Q .non H',rt:=Q } (L2.yS N vs) H)->FnOk P w K mg base CX0 (k+1) f fd ps (spV m fr F))(hm:m=ps.length)(hM:∀i∈M,m<=i)(I:∀ (B:Value) (A:Ae) (outer:List Env) (s:AZ) (H:Hp) (E:XK) (Pn:PN),Room k (A.deeper (PyProof.Rows.envOfC qual (zb st) s.heap.objs.size f B))->
   ∃fs,JSs '='.nox Pn [] M fr (zE st) fs/\∀J n R,J.length=m->F Pn J n R->fs (uN N J) n { nx:=λ_ U=>fr=false/\R (.d .non) U,rt:=R }):FnOk P w K mg base CX0 (k+1) f fd ps (spV m fr F):=by
 show Y (λvs H Q E h=>?_) (λB A outer s H vs Q E hr h=>?_);obtain⟨Pn,A,J,n,R,_,hv,hl,_⟩:=h;rw[hv.len,hl,hm];obtain⟨Pn,A3,J,n,R,al,hv,hl,hp,hF,q⟩:=h;obtain⟨fs,⟨t,qs,rs⟩,ab⟩:=I B A outer s H E Pn hr;show#[t,qs,rs.run { A0:=A3,H0:=H,G0:=zF A3 H,σ0:=L2.yS N vs } A3 (L2.yS N vs) H (uN N J) n _ _ #[MA al hv (λi hi=>by right),#[λ_ z=>z,λ_ z=>.inl z,.of (zq.refl _),al,λ_ z=>z.elim,λ_ z=>z.elim],hp,zq.refl _,#[λi hi=>rfl,λz=>by cases z],λi w a hi e=>?_] #[?_,?_,?_,λ_ z=>z,?_] (ab J n R hl hF)];show absurd e (by unfold uN;have:=hM i hi;rw[bp (by right)];intro z;obtain⟨_,q⟩:=ai.mp z;rw[List.getElem_replicate] at q;cases q);intro A' ad H' ag U a' ⟨O,r⟩;show q _ U .non H' r (Val.of (show Is _ .non .non from rfl)) #[a'.frm.st.stay,a'.pn.less a'.frm.sub] λz=>by rw[O] at z;cases z
 right;right;intro w U v H' ac st pn O r;show q w U v H' r ac #[st.stay,pn] O
end
section
variable{a b:Expr}{pos:Pos}
def Cg (B:Dt->Bool)(f:AD):AD:=λD n Q=>f D n λw m=>∃d,w = .d d/\Q (.d (.bl (B d))) m
def VN(F:∀d:Dt,PySem.W.kitOne K (.type d.ty) (.type T)=some (B d))(h:RB Pn M te f):RE Pn M false (tCB (λxs H Q=>∃x T t b,xs=[x,.ty T]/\TyOf K H x t/\PySem.W.kitOne K t (.type T)=some b/\Q (.bl b) H) (Cm te (Cm (tC (.ty T)) Cy))) (Cg B f):=#[λA G H D n Q R E P hf k=>by show h.run A G H D n _ _ E P hf ?_;rintro w m v H' ⟨d,e,r⟩ I g;subst e;show#[v,T,_,_,A5,I.is.ty,F d,k _ m _ H' r (Val.of A5) g λz=>by cases z]]
abbrev Fx:Dt->Bool
 | .str _=>true
 | _=>false
abbrev isDct:Dt->Bool
 | .dct=>true
 | _=>false
def VO (K:AH)(d:Dt):PySem.W.kitOne K (.type d.ty) (.type "str")=some (Fx d):=by cases d <;> rfl
def Fy(Y:∀d:Dt,PySem.W.kitOne X.K (.type d.ty) (.type T)=some (B d))(hv:bootBuiltins x=some (.type T))(I:Gl X x)(hn:x ≠ "__name__")(hd:(x==("__debug__" : Str))=false)(hg:Gl X "isinstance")(hm:X.mg "isinstance" = none)(J:X.mg x=none)(h:JB X Pn M e f)(F:starEach (e::[.Name x p2]) X.env=(false,eval e X.env)::starEach [.Name x p2] X.env)(O:starEach (.Name x p2::[]) X.env=(false,eval (.Name x p2) X.env)::starEach [] X.env)(U:(backTo pos (starEach [.Name x p2] X.env)).any (·.1)=false):JE X Pn M false (.Call (.Name "isinstance" p) [e,.Name x p2] [] pos) (Cg B f):=by
 obtain⟨te,q,r⟩:=h.ex;show#[_,yr Rt hg hm cr (zB q (zB (EH (v:=.ty T) I J hv A5 hn hd) yu O) F) '#' '#' F U,VN Y r]
def yz (U:Gl X "isinstance")(Y:X.mg "isinstance" = none)(B:X.mg "tuple" = none)(h:JB X Pn M e f)(F:Gl X "tuple" := by rfl)(I:starEach (e::[.Name "tuple" p2]) X.env=(false,eval e X.env)::starEach [.Name "tuple" p2] X.env:=by rfl)(J:starEach (.Name "tuple" p2::[]) X.env=(false,eval (.Name "tuple" p2) X.env)::starEach [] X.env:=by rfl)(O:(backTo pos (starEach [.Name "tuple" p2] X.env)).any (·.1)=false:=by rfl):
  JE X Pn M false (.Call (.Name "isinstance" p) [e,.Name "tuple" p2] [] pos) (Cg Dt.isTup f):=Fy (QZ _) bD F '#' '#' U Y B h I J O
def VP (U:Gl X "isinstance")(Y:X.mg "isinstance" = none)(B:X.mg "int" = none)(h:JB X Pn M e f)(F:Gl X "int" := by rfl)(I:starEach (e::[.Name "int" p2]) X.env=(false,eval e X.env)::starEach [.Name "int" p2] X.env:=by rfl)(J:starEach (.Name "int" p2::[]) X.env=(false,eval (.Name "int" p2) X.env)::starEach [] X.env:=by rfl)(O:(backTo pos (starEach [.Name "int" p2] X.env)).any (·.1)=false:=by rfl):
  JE X Pn M false (.Call (.Name "isinstance" p) [e,.Name "int" p2] [] pos) (Cg Dt.isInt f):=Fy (Q0 _) PyProof.Rows.boot_int F '#' '#' U Y B h I J O
def yI (U:Gl X "isinstance")(Y:X.mg "isinstance" = none)(B:X.mg "bool" = none)(h:JB X Pn M e f)(F:Gl X "bool" := by rfl)(I:starEach (e::[.Name "bool" p2]) X.env=(false,eval e X.env)::starEach [.Name "bool" p2] X.env:=by rfl)(J:starEach (.Name "bool" p2::[]) X.env=(false,eval (.Name "bool" p2) X.env)::starEach [] X.env:=by rfl)(O:(backTo pos (starEach [.Name "bool" p2] X.env)).any (·.1)=false:=by rfl):
  JE X Pn M false (.Call (.Name "isinstance" p) [e,.Name "bool" p2] [] pos) (Cg Dt.isBl f):=Fy (Q1 _) PyProof.Rows.boot_bool F '#' '#' U Y B h I J O
def MB (U:Gl X "isinstance")(Y:X.mg "isinstance" = none)(B:X.mg "str" = none)(h:JB X Pn M e f)(F:Gl X "str" := by rfl)(I:starEach (e::[.Name "str" p2]) X.env=(false,eval e X.env)::starEach [.Name "str" p2] X.env:=by rfl)(J:starEach (.Name "str" p2::[]) X.env=(false,eval (.Name "str" p2) X.env)::starEach [] X.env:=by rfl)(O:(backTo pos (starEach [.Name "str" p2] X.env)).any (·.1)=false:=by rfl):
  JE X Pn M false (.Call (.Name "isinstance" p) [e,.Name "str" p2] [] pos) (Cg Fx f):=Fy (VO _) PyProof.Rows.boot_str F '#' '#' U Y B h I J O
def Ch (n:Nat):AS:=(List.range n).map λi:Nat=>Dt.int i
def MC(n:Nat):IsL BA (Ch n) ((List.range n).map λi:Nat=>V.int i):=by
 have B:Ch n=(((List.range n).map λi:Nat=>(i:Int))).map Dt.int:=by unfold Ch;rw[aK];rfl
 have F:((List.range n).map λi:Nat=>V.int i)=(((List.range n).map λi:Nat=>(i:Int))).map V.int:=by rw[aK];rfl
 rw[B,F];show IsL.ints
def Iu (fa:AC):AD:=λD n Q=>fa D n λB m=>∃j:Nat,B=[.d (.int (j:Int))]/\j<=1000/\Q (.d (.lst (Ch j))) m
def VQ{q:Pos}{J:Pos}(hm:X.mg "list" = none)(O:X.mg "range" = none)(ha:JAB X Pn M [a] fs)(hc:X.calm=true:=by rfl)(hg:Gl X "list" := by rfl)(U:Gl X "range" := by rfl)(hs:starEach (a::[]) X.env=(false,eval a X.env)::starEach [] X.env:=by rfl)(F:starEach (.Call (.Name "range" J) [a] [] q::[]) X.env=(false,eval (.Call (.Name "range" J) [a] [] q) X.env)::starEach [] X.env:=by rfl)(Y:(backTo q (starEach [] X.env)).any (·.1)=false:=by rfl)(ab:(backTo pos (starEach [] X.env)).any (·.1)=false:=by rfl):JE X Pn M true (.Call (.Name "list" p) [.Call (.Name "range" J) [a] [] q] [] pos) (Iu fs):=by
 obtain⟨ta,qa,ra⟩:=ha.ex;show#[_,GF (SD hc) hg hm PyProof.Rows.boot_list (zB (GF SC U O PyProof.Rows.boot_range qa '#' '#' hs Y) yu F) '#' '#' F ab,'7'];show ra.run A G H D n _ _ E P hf ?_;rintro ws m vs H1 ⟨j,e,hj,r⟩ bb g;subst e;obtain⟨v,rfl,b1⟩:=CO bb;obtain rfl:=xm b1;show#[_,A5,λp1 H2 np g2 S2=>#[p1,j,A5,g2,hj,λp3 H3 I g3 S3=>?_]];have B:=g.trans (Go.same g.pn S2);show k _ m _ H3 r (HP (H:=H2) (MC j) (zq.same S3) ((E.stay B.st).new I) g3) (B.trans (Go.same B.pn S3)) λ_=>(HQ (H:=H2) (MC j) S3 I g3).back B.st
abbrev truD:W->Option Bool
 | .d (.lst l)=>some (!l.isEmpty)
 | .d (.tup l)=>some (!l.isEmpty)
 | .d (.bl b)=>some b
 | .d (.int i)=>some (i != 0)
 | .d .non=>some false
 | _=>none
def Fz (F BA:W->W->Mo W)(fa fb fc:AD):AD:=λD n Q=>fa D n λx n1=>fb D n1 λy n2=>F x y n2 λz n3=>∃k,z = .d (.bl k)/\if k=true then fc D n3 λu B=>BA y u B Q else Q (.d (.bl false)) n3
def VR(hr:F2 Pn false r F)(I:F2 Pn false J BA)(ha:RB Pn M ta fa)(hb:RB Pn M tb fb)(hc:RB Pn M tc fc):RE Pn M false (Gd r J ta tb tc) (Fz F BA fa fb fc):=#[λA G H D n Q R E P hf k=>by
 show ha.run A G H D n _ _ E P hf λx n1 v1 H1 r1 b1 g1=>?_;show hb.run A G H1 D n1 _ _ (E.stay g1.st) g1.pn r1 λy n2 O H2 r2 U g2=>?_;have g:=g1.trans g2;show hr.run A H2 v1 O x y n2 _ _ (E.stay g.st).al (b1.stay g2.st) U g2.pn r2 ?_;rintro w m v H' ⟨c,e,h1⟩ h2 Y h4;subst e;have hv:v = .bl c:=h2;show#[c,hv,?_];have g3:=g.trans Y
 cases c with
 | false=>rw[if_neg '#'] at h1 ⊢;show k _ m _ H' h1 (Val.of A5) g3 λz=>by cases z
 | true=>
  rw[if_pos rfl] at h1 ⊢;show hc.run A G H' D m _ _ (E.stay g3.st) g3.pn h1 λu n4 v4 H4 r4 b4 B=>?_;show I.run A H4 O v4 y u n4 _ _ (E.stay (g3.trans B).st).al (U.stay (Y.trans B).st) b4 B.pn r4 λw5 m5 v5 H5 a1 a2 a3 a4=>k w5 m5 v5 H5 a1 a2 ((g3.trans B).trans a3) λz=>by cases z]
def VS(U:OpQ X (compareOp op) r)(I:OpQ X (compareOp B) O)(Y:F2 Pn false r F)(J:F2 Pn false O BA)(ha:JB X Pn M a fa)(hb:JB X Pn M b fb)(hc:JB X Pn M c fc)(hm:lastMarks [op,B] [b,c]=false:=by with_unfolding_all rfl):JE X Pn M false (.Compare a [op,B] [b,c] pos) (Fz F BA fa fb fc):=by obtain⟨ta,qa,ra⟩:=ha.ex;obtain⟨tb,qb,rb⟩:=hb.ex;obtain⟨tc,qc,rc⟩:=hc.ex;show#[_,Rj U I qa qb qc hm,VR Y J ra rb rc]
def At3.own(h:At3 Pn B S M A G H D n)(hi:i∈M)(e:D[i]?=some (some (.d (.lst l)))):∃F xs,G[i]?=some (some (.ref F))/\A F/\H F=some '+'/\IsL (zF A H) l xs:=by obtain⟨v,s1,_,J⟩:=h.env.val i _ e;obtain⟨F,rfl,I,O,_⟩:=J hi;obtain⟨a2,xs,U,Y,hl⟩:=O;cases U;show#[F,xs,s1,I,Y.own h.env.al I,hl]
end
section
variable{A:AL}
def Iv{w:_}(h:Bd A H [w] vs):∃v,vs=[v]/\Val A H w v:=by obtain⟨v,r,e,h1,h2⟩:=h;cases h2;show#[v,e,h1]
def VT{w:_}(h:Bd A H [w,u] vs):∃v y,vs=[v,y]/\Val A H w v/\Val A H u y:=by obtain⟨v,r,e,h1,h2⟩:=h;obtain⟨y,rfl,B⟩:=Iv h2;show#[v,y,e,h1,B]
def MD{st:AG}(h:Val A H (.d (stD st)) v):∃a,v = .ref a/\H a=some (.tup (st.map V.int)):=by obtain⟨a,xs,e,h1,h2⟩:=h;obtain rfl:=h2.of_ints;show#[a,e,zw _ _ h1]
end
structure RoomOk (rm:AG):Prop where
 ne:rm≠[]
 few:rm.length<=8
 box:∀r∈rm,2<=r/\r<=4
def RoomOk.pos (h:RoomOk rm):1<=rm.length:=by
 cases rm with
 | nil=>show absurd A5 h.ne
 | cons _ _=>simp
abbrev FV:=PN->AU->Mo W
def FA (k:Nat)(fr:Bool)(F:FV)(sp:Sp):Prop:=∀vs H Q E,spV k fr F vs H Q E->sp vs H Q E
def FnOk.lift{f:_}(h:FnOk P w K mg base CX j f fd ps sp)(l:FA k fr F sp):FnOk P w K mg base CX j f fd ps (spV k fr F):=h.imp l
def VU:FV:=λPn B n R=>∃p c ns zy,Pn=#[some (p,c,ns),J0]/\B=[.pen p,.d (.int zy)]/\n<=1000000/\1<=zy/\zy<1073741824/\∀r,0<=r->r<zy->R (.d (.int r)) (n+1)
abbrev ZY:FV:=λPn F n R=>∃p c ns B,Pn=#[some (p,c,ns),J0]/\F=[.pen p,.d (.int B)]/\n+20<=1000000/\4<=B/\B<=256/\∀rm,RoomOk rm->yK rm<=B->R (.d (stD rm)) (n+10)
abbrev ZZ:FV:=λPn B n R=>∃p c ns rm,Pn=#[some (p,c,ns),J0]/\B=[.pen p,.d (stD rm)]/\n+20<=1000000/\RoomOk rm/\∀st,st.length=rm.length->(∀b:Int,0<=b->b<rm.length->0<=zy st b/\zy st b<zy rm b)->R (.d (stD st)) (n+10)
abbrev Bi (g:List (Int×Int)):Dt:=.tup (g.map yp)
abbrev Z0:FV:=λPn F n R=>∃p c ns rm B,Pn=#[some (p,c,ns),J0]/\F=[.pen p,.d (stD rm),.d (.int B)]/\n+40<=1000000/\RoomOk rm/\∀g,Giv rm g->(∀q∈g,q.1≠B)->g.length<=8->R (.d (Bi g)) (n+30)
abbrev Z1:FV:=λ_ B n R=>∃d,B=[.d d]/\R (.d (.bl d.isWhole)) n
abbrev Z2:FV:=λ_ B n R=>∃a b,B=[.d (.bl a),.d (.bl b)]/\R (.d (.bl (a==b))) n
abbrev ME:FV:=λ_ B n R=>∃ns:AG,B=[.d (stD ns)]/\(∀n∈ns,2<=n/\n<=4)/\R (.d (.int (yK ns))) n
def VW:FA 1 false ME KM:=by rintro vs H Q E ⟨Pn,A,O,n,R,U,B,Y,hp,⟨ns,rfl,h1,F⟩,q⟩;obtain⟨v,rfl,I⟩:=Iv B;obtain⟨a,rfl,J⟩:=MD I;show#[a,ns,A5,J,h1,q _ n _ H F (Val.of A5) (Go.refl hp) λz=>by cases z]
abbrev Z3:FV:=λ_ B n R=>∃st g,B=[.d (stD st),.d (Bi g)]/\(∀q∈g,0<=q.1/\q.1<st.length)/\R (.d (.bl (xp st g))) n
abbrev Bh (A9:AF):Dt:=.lst (A9.map stD)
def VX{A9:AF}(I:Al A H)(s:yL H H')(n:H a=none)(h:H' a=some (.lst ys))(J:IsL H' (A9.map stD) ys):Val A H' (.d (Bh A9)) (.ref a)/\FrV A H H' (.d (Bh A9)) (.ref a):=by
 have B:=I.stay (zq.same s);have F:=CI B.noT (uQ A9) J;show#[Val.of #[a,ys,A5,.inl (zv (I.new n) h),F],a,A5,.of n,#[_,h,A5],a,ys,A5,.inl h,CI (λb xs z e=>?_) (uQ A9) J];rcases z with z | z;show B.noT b xs z e;grind
abbrev F_all:FV:=λ_ B n R=>∃rm,B=[.d (stD rm)]/\RoomOk rm/\yK rm<=256/\R (.d (Bh (yg (rm.map zl)))) n
abbrev lsD (c:AG):Dt:=.lst (c.map .int)
abbrev MF:FV:=λ_ B n R=>∃cs:AF,B=[.d (.lst (cs.map lsD))]/\cs.length<=8/\(∀c∈cs,c.length<=4)/\R (.d (Bh (yg cs))) n
def VY(s:yL BA H):∀ {cs:AF} {xs:AT},IsL BA (cs.map lsD) xs->K_ H xs cs:=λ{cs xs} h=>by show#[by rw[h.length,af],λi c I=>?_];obtain⟨v,h1,h2⟩:=h.getD (i:=i) (d:=lsD c) (by right);obtain⟨a,ys,rfl,B,F⟩:=h2;obtain rfl:=F.of_ints;show#[a,h1,B.same s]
def VZ:FA 1 true MF (La K):=by rintro vs H Q E ⟨Pn,A,ws,n,R,I,J,hl,hp,⟨cs,rfl,h1,h2,O⟩,q⟩;obtain⟨v,rfl,U⟩:=Iv J;obtain⟨a,xs,rfl,Y,hx⟩:=U;show#[a,xs,cs,A5,Y.sub,VY zw hx,h1,h2,λa ys H' na B F S=>?_];obtain⟨z1,z2⟩:=VX I S na B F;show q _ n _ H' O z1 (Go.same hp S) λ_=>z2
def V0{l:AU}{I:Ev}{mg:iJ}{ft:Ev->Mo Bool}{Q:AV}(xs:List α)(O:α->W)(hl:l=xs.map O)(J:Ev->Prop)(P:α->Bool)(E:α->Dt)(ab:xs.length<=lim)(j0:J I)(h:∀a∈xs,∀ F,J F->∀C:Ev->Nat->Option Dt->Prop,(∀ B,J B->C B n (if P a then some (E a) else none))->mg (O a) F λB=>ft B n λb n2=>if b=true then fe B n2 λx n3=>∃d,x = .d d/\C B n3 (some d) else C B n2 none)(fin:Q (.d (.lst ((xs.filter P).map E))) n):Ea mg ft fe I Q l n:=by
 subst hl;show#[by right,λi F U acc=>J F/\U=n/\acc=((xs.take i).filter P).map E,#[j0,A5,by simp],?_,?_];rintro i w F U acc hw ⟨hj,rfl,rfl⟩;rw[aF] at hw;obtain⟨a,ha,rfl⟩:=aI.mp hw
 have:=h a (az ha) F hj (λB n3 o=>match o with
  | some d=>J B/\n3=U/\((xs.take i).filter P).map E++[d]=((xs.take (i+1)).filter P).map E
  | none=>J B/\n3=U/\((xs.take i).filter P).map E=((xs.take (i+1)).filter P).map E) (λB Y=>by
   rw[zj ha,dE,aP];by_cases hp:P a=true;right;rw[if_neg hp];show#[Y,A5,by simp[hp]])
 show this;grind
def V1{l:AU}{I:Ev}{mg:iJ}{Q:AV}(xs:List α)(O:α->W)(hl:l=xs.map O)(J:Ev->Prop)(E:α->Dt)(ab:xs.length<=lim)(j0:J I)(h:∀a∈xs,∀ F,J F->∀C:Ev->Nat->Dt->Prop,(∀ B,J B->C B n (E a))->mg (O a) F λB=>fe B n λx n3=>∃d,x = .d d/\C B n3 d)(fin:Q (.d (.lst (xs.map E))) n):Ea mg Ft fe I Q l n:=by
 subst hl;show#[by right,λi F U acc=>J F/\U=n/\acc=(xs.take i).map E,#[j0,A5,by simp],?_,?_];rintro i w F U acc hw ⟨hj,rfl,rfl⟩;rw[aF] at hw;obtain⟨a,ha,rfl⟩:=aI.mp hw;show h a (az ha) F hj (λB n3 d=>J B/\n3=U/\(xs.take i).map E++[d]=(xs.take (i+1)).map E) λB Y=>#[Y,A5,by rw[zj ha,aP];rfl];grind
def V3{fb:_}(I:Nat->Ev->Nat->Prop)(Y:I 0 D n)(h:∀i B F,i<r->I i B F->mg (.d (.int (i:Int))) B λJ=>fb J F { k with nx:=I (i+1),ct:=I (i+1),bk:=k.nx })(hd:∀ B F,I r B F->k.nx B F):CU mg fb D k (BG 0 r) n:=by
 show#[I,Y,λi w B F O U=>?_,λB F U=>hd B F ?_];unfold BG at O;rw[aF] at O;obtain⟨j,h1,rfl⟩:=aI.mp O;obtain⟨hi,h2⟩:=ai.mp h1;rw[fq] at h2;right;unfold BG at U;right
def V4{fb:_}(xs:List α)(J:α->W)(hl:l=xs.map J)(I:Nat->Ev->Nat->Prop)(h0:I 0 D n)(h:∀i a B F,xs[i]?=some a->I i B F->mg (J a) B λO=>fb O F { k with nx:=I (i+1),ct:=I (i+1),bk:=k.nx })(hd:∀ B F,I xs.length B F->k.nx B F):CU mg fb D k l n:=by
 subst hl;show#[I,h0,λi w B F U Y=>?_,λB F Y=>hd B F (by right)];rw[aF] at U;obtain⟨a,ha,rfl⟩:=aI.mp U;show h i a B F ha Y
def CV{fb:_}(I:Nat->Ev->Nat->Prop)(U:I 0 D n)(h:∀i F J,i<r->I i F J->∀C B E,(∀ {D m},I (i+1) D m->C D m)->(∀ {D m},k.nx D m->B D m)->(∀ {w m},k.rt w m->E w m)->mg (.d (.int (i:Int))) F λO=>fb O J { rt:=E,nx:=C,ct:=C,bk:=B })(Y:∀ F J,I r F J->k.nx F J):CU mg fb D k (BG 0 r) n:=
 V3 I U (λi F J hi hI=>h i F J hi hI (I (i+1)) k.nx k.rt (λz=>z) (λz=>z) λz=>z) Y
def xh{fb:_}(xs:List α)(J:α->W)(Y:l=xs.map J)(I:Nat->Ev->Nat->Prop)(h0:I 0 D n)(h:∀i a F O,xs[i]?=some a->I i F O->∀C B E,(∀ {D m},I (i+1) D m->C D m)->(∀ {D m},k.nx D m->B D m)->(∀ {w m},k.rt w m->E w m)->mg (J a) F λU=>fb U O { rt:=E,nx:=C,ct:=C,bk:=B })(hd:∀ F O,I xs.length F O->k.nx F O):CU mg fb D k l n:=
 V4 xs J Y I h0 (λi a F O ha hI=>h i a F O ha hI (I (i+1)) k.nx k.rt (λz=>z) (λz=>z) λz=>z) hd
def Iw{l:List α}{i:Nat}{x:α}(h:l[i]?=some x):atI l (i:Int)=some x:=by
 have:=(ai.mp h).1;unfold atI ixN;right
def V8{l:List α}{i:Int}(F:0<=i)(h1:i<l.length):∃d,atI l i=some d/\d∈l:=by
 obtain⟨j,rfl⟩:∃j:Nat,i=j:=#[i.toNat,by lia];have B:j<l.length:=by lia
 show#[l[j],Iw (am B),bj B]
def V9{st:AG}{b:Int}(F:0<=b)(h1:b<st.length):atI (st.map Dt.int) b=some (.int (zy st b)):=by
 obtain⟨j,rfl⟩:∃j:Nat,b=j:=#[b.toNat,by lia];have B:j<st.length:=by lia
 show Iw ?_;rw[aF,am B,x5];simp[B]
def gw (g:List (Int×Int))(i:Nat):AQ:=(g.find? λq=>decide (q.1=(i:Int))).map (·.2)
def MG (rm:AG):enW 0 (rm.map Dt.int)=(List.range rm.length).map λi:Nat=>W.d (.tup [.int (i:Int),.int (rm.getD i 0)]):=by
 apply em;intro i;rw[Ij,aF,aF];by_cases h:i<rm.length
 all_goals right
def cho (rm:AG)(g:List (Int×Int))(i:Nat):AG:=match gw g i with
 | some w=>[w]
 | none=>zl (rm.getD i 0)
def chs (rm:AG)(g:List (Int×Int)):AF:=(List.range rm.length).map (cho rm g)
def V_ (rm:AG)(g:List (Int×Int)):AF:=yg (chs rm g)
section
variable{a b:Expr}
theorem MH:∀ (l k:AS) (i:Nat),(Bm l k)[i]?=(l[i]?).bind λx=>(k[i]?).map λy=>W.d (.tup [x,y])
 | [],_,_=>by simp[Bm]
 | _::_,[],_=>by simp[Bm]
 | x::r,y::s,0=>by simp[Bm]
 | x::r,y::s,i+1=>by have:=MH r s i;simp only[Bm,cR,this]
def Ix (i:Nat)(f:AD):Ms:=λD n k=>(∃l,D[i]?=some (some (.d (.lst l))))/\f D n λw m=>∃l B,D[i]?=some (some (.d (.lst l)))/\w = .d (.lst B)/\l.length+B.length<=lim/\k.nx (D.set i (some (.d (.lst (l++B))))) m
def MI (i:Nat){x:Str}{sp:Pos}(he:JE X Pn M fr' e f)(hi:i∈M:=by ext)(hN:X.N[i]?=some x:=by rfl)(hv:Vis X.env.scope x:=by fail"v")(hd:Ah x:=by ext)(ac:h_ x:=by ext)(U:starEach (e::[]) X.env=(false,eval e X.env)::starEach [] X.env:=by rfl)(hs:swapsWith (.Call (.Attribute (.Name x np) "extend" ap) [e] [] cp) none sp.line X.env=pure false:=by rfl)(J:attributeBase (.Name x np) "extend" X.env (eval (.Name x np) X.env)=eval (.Name x np) X.env:=by rfl)(O:(ap.endLine==cp.line)=true:=by rfl)(Y:((backTo cp (starEach [e] X.env)).all (λx=>!x.1)&&(backToKw cp (keywordEach [] X.env)).all (λx=>x.1.isSome)&&decide (([e]:AO).length+([]:List Keyword).length+(if ([]:List Keyword).isEmpty then 0 else 1)<30))=true:=by rfl)(I:(backTo cp (starEach [] X.env)).any (·.1)=false:=by rfl):
  JS X Pn S M fr (.Expr (.Call (.Attribute (.Name x np) "extend" ap) [e] [] cp) sp) (Ix i f):=by
 obtain⟨te,q,r⟩:=he.ex;show#[_,EK (L7 eU PySem.F.slot_list_extend PySem.F.type_list_extend QN (qv i hN hv hd ac) (zB q yu U) J Y O U I) hs,#[ ?_]];rintro B A G H D n k BB a kk ⟨⟨l0,e0⟩,hf⟩;obtain⟨ad,al,s1,hA,g0,_⟩:=a.own hi e0;show#[.ref ad,s1,.inl #[A5,_,SqL.of g0],?_];show r.run A G H D n _ _ a.env a.pn hf ?_;rintro w m v H' ⟨l,l2,e,ed,hz,r⟩ hv g _;subst ed;have a':=a.step g;obtain⟨an,xs,s2,_,g4,hl⟩:=a'.own hi e;rw[s1] at s2;cases s2;obtain⟨b2,ys,rfl,ag,ab⟩:=hv;show#[ad,b2,xs,ys,A5,A5,g4,ag.sub,Fl (by rw[hl.length,ab.length];show hz),kk.nx A G _ _ m (a'.wr hi e s1 (hl.append ab)) r]
def B6 (l:List α)(k:Nat)(x:α):List α:=l.take k++x::l.drop k
def Iy (i:Nat)(fk f:AD):Ms:=λD n k=>(∃l,D[i]?=some (some (.d (.lst l))))/\fk D n λy m=>f D m λw B=>∃l d j,D[i]?=some (some (.d (.lst l)))/\w = .d d/\y = .d (.int j)/\0<=j/\j<=l.length/\l.length<lim/\k.nx (D.set i (some (.d (.lst (B6 l j.toNat d))))) B
def Wa(i:Nat){x:Str}{sp:Pos}(hc:JE X Pn M ab c fc)(he:JE X Pn M fr' e f)(hi:i∈M:=by ext)(hN:X.N[i]?=some x:=by rfl)(hv:Vis X.env.scope x:=by fail"v")(hd:Ah x:=by ext)(ac:h_ x:=by ext)(U:starEach (c::[e]) X.env=(false,eval c X.env)::starEach [e] X.env:=by rfl)(ag:starEach (e::[]) X.env=(false,eval e X.env)::starEach [] X.env:=by rfl)(hs:swapsWith (.Call (.Attribute (.Name x np) "insert" ap) [c,e] [] cp) none sp.line X.env=pure false:=by rfl)(J:attributeBase (.Name x np) "insert" X.env (eval (.Name x np) X.env)=eval (.Name x np) X.env:=by rfl)(O:(ap.endLine==cp.line)=true:=by rfl)(Y:((backTo cp (starEach [c,e] X.env)).all (λx=>!x.1)&&(backToKw cp (keywordEach [] X.env)).all (λx=>x.1.isSome)&&decide (([c,e]:AO).length+([]:List Keyword).length+(if ([]:List Keyword).isEmpty then 0 else 1)<30))=true:=by rfl)(I:(backTo cp (starEach [e] X.env)).any (·.1)=false:=by rfl):
  JS X Pn S M fr (.Expr (.Call (.Attribute (.Name x np) "insert" ap) [c,e] [] cp) sp) (Iy i fc f):=by
 obtain⟨te,q,r⟩:=he.ex;obtain⟨tc,qc,rc⟩:=hc.ex;show#[_,EK (L7 eU PySem.F.slot_list_insert PySem.F.type_list_insert UI (qv i hN hv hd ac) (zB qc (zB q yu ag) U) J Y O U I) hs,#[ ?_]];rintro B A G H D n k BB a kk ⟨⟨l0,e0⟩,hf⟩;obtain⟨ad,an,s1,hA,g0,_⟩:=a.own hi e0;show#[.ref ad,s1,.inl #[A5,_,SqL.of g0],?_];show rc.run A G H D n _ _ a.env a.pn hf λw1 m1 v1 H1 r1 al g1 _=>?_;have a1:=a.step g1;show r.run A G H1 D m1 _ _ a1.env a1.pn r1 ?_;rintro w m v H' ⟨l,d,j,e,ed,ey,j0,j1,hz,r⟩ hv g _;subst ed ey;have e1:v1 = .int j:=al;subst e1;have a':=a1.step g;obtain⟨as,xs,s2,_,g4,hl⟩:=a'.own hi e;rw[s1] at s2;cases s2;show#[ad,xs,j,v,A5,A5,g4,j0,by rw[hl.length];show j1,CM (by rw[hl.length];show cS hz),kk.nx A G _ _ m (a'.wr hi e s1 ?_) r];show (hl.take _).append #[v,_,A5,hv.is,hl.drop _]
def Bp [DecidableEq κ](A7:List (κ×Dt))(k:κ)(d:Dt):List (κ×Dt):=
 if (A7.any λkv=>decide (kv.1=k))=true then A7.map (λkv=>if kv.1=k then (kv.1,d) else kv) else A7++[(k,d)]
theorem xN.any [DecidableEq κ]{BA:Hp}{k:κ}:∀ {A7:List (κ×Dt)} {ks:List (κ×V)},xN BA A7 ks->(ks.any λkv=>decide (kv.1=k))=A7.any λkv=>decide (kv.1=k)
 | [],_,h=>by cases h;rfl
 | q::r,ks,⟨v,s,e,h1,h2⟩=>by subst e;rw[dB,dB,xN.any h2]
theorem xN.map1 [DecidableEq κ]{BA:Hp}{k:κ}{d:Dt}{x:V}(F:Is BA d x):∀ {A7:List (κ×Dt)} {ks:List (κ×V)},xN BA A7 ks->xN BA (A7.map λkv=>if kv.1=k then (kv.1,d) else kv) (ks.map λkv=>if kv.1=k then (kv.1,x) else kv)
 | [],_,h=>by cases h;rfl
 | q::r,ks,⟨v,s,e,h1,h2⟩=>by
  subst e;rw[ax,ax];by_cases B:q.1=k;rw[if_pos B,if_pos B];show#[x,_,A5,F,xN.map1 F h2];rw[if_neg B,if_neg B];show#[v,_,A5,h1,xN.map1 F h2]
theorem xN.snoc{BA:Hp}{k:κ}{d:Dt}{x:V}(B:Is BA d x):∀ {A7:List (κ×Dt)} {ks:List (κ×V)},xN BA A7 ks->xN BA (A7++[(k,d)]) (ks++[(k,x)])
 | [],_,h=>by cases h;show#[x,[],A5,B,A5]
 | q::r,ks,⟨v,s,e,h1,h2⟩=>by subst e;show#[v,_,A5,h1,xN.snoc B h2]
def xN.put[DecidableEq κ]{k:κ}{A7:List (κ×Dt)}{ks:List (κ×V)}(h:xN BA A7 ks)(B:Is BA d x):xN BA (Bp A7 k d) (u6 ks k x):=by
 unfold Bp u6;rw[h.any];split;show h.map1 B;show h.snoc B
theorem xN.len{BA:Hp}:∀ {A7:List (κ×Dt)} {ks:List (κ×V)},xN BA A7 ks->ks.length=A7.length
 | [],_,h=>by cases h;rfl
 | q::r,ks,⟨v,s,e,h1,h2⟩=>by subst e;rw[aS,aS,xN.len h2]
def At3.wrX{w:_}(h:At3 Pn B S M A G H D n)(hi:i∈M)(e:D[i]?=some (some w))(s:G[i]?=some (some (.ref ad)))(hw:WAt (L2.upd H ad o) (zF A H) w' (.ref ad))(hm':w'.mut=true)(np:NP o)(nt:Mt o):At3 Pn B S M A G (L2.upd H ad o) (D.set i (some w')) n:=by
 obtain⟨v,s1,_,s3⟩:=h.env.val i w e;rw[s] at s1;cases s1;obtain⟨a2,e2,hA,_,_⟩:=s3 hi;cases e2;have hlen:i<D.length:=(ai.mp e).1
 have hE:EnvR A M G (L2.upd H ad o) (D.set i (some w')):=by
  show#[by rw[cg];show h.env.len,λj u ej=>?_,λj q u u' b hj hq hne e1 e2=>?_,λb hb=>?_];by_cases hj:j=i;subst hj;rw[ba hlen] at ej;cases ej;show#[.ref ad,s,λz=>absurd hi z,λ_=>#[ad,A5,hA,by change WAt _ _ _ _;rw[zH hA];show hw,hm']];rw[aG (Ne.symm hj)] at ej;obtain⟨v,t1,t2,t3⟩:=h.env.val j u ej;show#[v,t1,λz=>?_,λz=>?_];change WAt _ _ _ _;rw[zH hA];show t2 z;obtain⟨b,rfl,hb,hbb,hm⟩:=t3 z;have hne:b≠ad:=λq=>h.env.dis i j w u ad hi z (Ne.symm hj) e ej s (by rw[t1,q]);show#[b,A5,hb,?_,hm];change WAt _ _ _ _;rw[zH hA]
  cases u with
  | d x=>
   cases x with
   | lst l=>obtain⟨a2,xs,e2,g1,g2⟩:=hbb;cases e2;show#[b,xs,A5,by unfold Rd;rw[zc hne];show g1,g2]
   | dct=>obtain⟨a2,xs,e2,g1,g2⟩:=hbb;cases e2;show#[b,xs,A5,by rw[zc hne];show g1,g2]
   | _=>cases hm
  | pen p=>cases hm
  | dk k=>obtain⟨a2,xs,e2,g1,g2⟩:=hbb;cases e2;show#[b,xs,A5,by rw[zc hne];show g1,g2]
  | dt k=>obtain⟨a2,xs,e2,g1,g2⟩:=hbb;cases e2;show#[b,xs,A5,by rw[zc hne];show g1,g2]
  | dn fz k=>obtain⟨a2,xs,e2,g1,g2⟩:=hbb;cases e2;show#[b,xs,A5,g1.imp λo _ e=>by rw[zc hne];show e,g2]
  | wd d fs kn=>cases hm
  | lf ls=>cases hm
  | cu k=>cases hm
  | ss P w k=>obtain⟨a2,xs,e2,g1,g2⟩:=hbb;cases e2;show#[b,xs,A5,by rw[zc hne];show g1,g2]
  | df k=>obtain⟨a2,ob,xs,e2,g1,g2⟩:=hbb;cases e2;show#[b,ob,xs,A5,by right,g2]
  | kf k=>obtain⟨a2,ob,xs,e2,g1,g2⟩:=hbb;cases e2;show#[b,ob,xs,A5,by right,g2]
  | ad a x=>cases hm
  | tz A7 x=>cases hm
  | fl k=>obtain⟨a2,ob,xs,e2,g1,g2⟩:=hbb;cases e2;show#[b,ob,xs,A5,by right,g2]
  have get:∀q (u:W),(D.set i (some w'))[q]?=some (some u)->∃u',D[q]?=some (some u'):=λq u z=>by
   by_cases hq:q=i;subst hq;show#[w,e];rw[aG (Ne.symm hq)] at z;show#[u,z]
  obtain⟨v1,f1⟩:=get j u e1;obtain⟨v2,f2⟩:=get q u' e2;show h.env.dis j q v1 v2 b hj hq hne f1 f2;by_cases hb':b=ad;subst hb';show#[_,zg,np,nt];rw[zc hb'];show h.env.al b hb
 show#[hE,#[h.frm.sub,h.frm.new,λb o eb nn nc=>?_,h.frm.al,h.frm.cn,λb z=>(by
  by_cases hb':b=ad;subst hb';show#[_,zg,np];rw[zc hb'];show h.frm.cs b z)],h.pn.upd hA,by rw[zH hA];show h.prot,h.fix,λj u b hj ej sj=>?_]
 have hne:b≠ad:=λq=>by
  subst q;rcases h.mine i w b hi e s with z | z;show z o eb nn;show nc z
 rw[zc hne];show h.frm.st b o eb nn nc;by_cases hj':j=i;subst hj';show h.mine j w b hj e sj;rw[aG (Ne.symm hj')] at ej;show h.mine j u b hj ej sj
end
def Wb:FV:=λPn B n R=>∃p c ns l,Pn=#[some (p,c,ns),J0]/\B=[.pen p,.d (.lst l)]/\n+l.length<=1000000/\l.length<=100000/\∀l':AS,l'.Perm l->R (.d (.lst l')) (n+l.length)
section
variable{a b:Expr}
def WAt.mv{w:_}(t:∀o,T ad=some o->T' ad=some o)(g:yL BA G')(m:w.mut=true)(h:WAt T BA w (.ref ad)):WAt T' G' w (.ref ad):=by
 cases w with
 | d x=>
  cases x with
  | lst l=>obtain⟨a2,xs,e2,g1,g2⟩:=h;cases e2;show#[ad,xs,A5,g1.imp (t _) λ⟨o,g1⟩=>#[o,t _ g1],g2.stay (zq.same g)]
  | dct=>obtain⟨a2,xs,e2,g1,g2⟩:=h;cases e2;show#[ad,xs,A5,t _ g1,g2]
  | _=>cases m
 | pen p=>cases m
 | dk k=>obtain⟨a2,xs,e2,g1,g2,g3⟩:=h;cases e2;show#[ad,xs,A5,t _ g1,g2.stay (zq.same g),g3]
 | dt k=>obtain⟨a2,xs,e2,g1,g2⟩:=h;cases e2;show#[ad,xs,A5,t _ g1,g2.stay (zq.same g)]
 | dn fz k=>obtain⟨a2,xs,e2,g1,g2,g3⟩:=h;cases e2;show#[ad,xs,A5,g1.imp λo _ e=>t _ e,g2.stay (zq.same g),g3.stay (zq.same g)]
 | wd d fs kn=>cases m
 | lf ls=>cases m
 | cu k=>cases m
 | ss P w k=>obtain⟨a2,xs,e2,g1,g2⟩:=h;cases e2;show#[ad,xs,A5,t _ g1,g2.stay (zq.same g)]
 | df k=>obtain⟨a2,ob,xs,e2,g1,g2⟩:=h;cases e2;show#[ad,ob,xs,A5,t _ g1,g2.stay (zq.same g)]
 | kf k=>obtain⟨a2,ob,xs,e2,g1,g2⟩:=h;cases e2;show#[ad,ob,xs,A5,t _ g1,g2.stay (zq.same g)]
 | ad a x=>cases m
 | tz A7 x=>cases m
 | fl k=>obtain⟨a2,ob,xs,e2,g1,g2⟩:=h;cases e2;show#[ad,ob,xs,A5,t _ g1,g2.stay (zq.same g)]
def At3.move{w:_}(h:At3 Pn B S M A G H D n)(hj:j∈M)(hi:i∉M)(a1:i∉S)(e:D[j]?=some (some w))(s:G[j]?=some (some (.ref I))):At3 Pn B S M (λb=>A b/\b≠I) (G.set i (some (.ref I))) H ((D.set j none).set i (some w)) n:=by
 obtain⟨v,s1,_,s3⟩:=h.env.val j w e;rw[s] at s1;cases s1;obtain⟨a2,e2,hA,an,as⟩:=s3 hj;cases e2;have J:∀b,(A b/\b≠I)->A b:=λb z=>z.1;have O:yL (zF A H) (zF (λb=>A b/\b≠I) H):=yx J
 have ab:∀q (u:W),((D.set j none).set i (some w))[q]?=some (some u)->q≠i->q≠j/\D[q]?=some (some u):=λq u z hq=>by
  rw[aG (Ne.symm hq)] at z;by_cases U:q=j;subst U;rw[List.getElem?_set] at z;right;rw[aG (Ne.symm U)] at z;show#[U,z]
 have ac:¬ B.A0 I:=λz=>by
  rcases h.mine j w I hj e s with q | q;obtain⟨o,o1,o2,_⟩:=h.frm.al I z;show q o o1 o2;show h.frm.cn I q z
 have ag:Val (λb=>A b/\b≠I) H w (.ref I):=by show WAt.mv (λo ho=>zv (λz=>z.2 A5) ho) O as an
 show#[#[?_,?_,?_,?_],#[λb z=>#[h.frm.sub b z,λq=>ac (q ▸ z)],λb z=>h.frm.new b z.1,h.frm.st,h.frm.al,h.frm.cn,h.frm.cs],h.pn.less J,h.prot.trans (zq.same O),#[λk hk=>?_,h.fix.2],λk u b hk ek sk=>?_];rw[cg,cg,cg];show h.env.len;intro q u eq;by_cases hq:q=i;subst hq
 have Y:q<(D.set j none).length:=by
  have:=(ai.mp eq).1;right
 rw[ba Y] at eq;cases eq;rw[cg] at Y;show#[.ref I,ba (by rw[h.env.len];show Y),λ_=>ag,λz=>absurd z hi];obtain⟨U,z⟩:=ab q u eq hq;obtain⟨v,t1,t2,t3⟩:=h.env.val q u z;show#[v,by rw[aG (Ne.symm hq)];show t1,λy=>WAt.up (zq.same O) (zq.same O) (t2 y),λy=>?_];obtain⟨b,rfl,hb,a3,hm⟩:=t3 y;show#[b,A5,#[hb,λq'=>?_],WAt.up (zq.refl _) (zq.same O) a3,hm];subst q';show h.env.dis j q w u b hj y (Ne.symm U) e z s t1;intro q k u u' b hq hk a4 e1 e2;have a0:q≠i:=λz=>hi (z ▸ hq);have F:k≠i:=λz=>hi (z ▸ hk);rw[aG (Ne.symm a0),aG (Ne.symm F)];show h.env.dis q k u u' b hq hk a4 (ab q u e1 a0).2 (ab k u' e2 F).2;show λb z=>h.env.al b z.1;have F:k≠i:=λz=>a1 (z ▸ hk);rw[aG (Ne.symm F)];show h.fix.1 k hk;have F:k≠i:=λz=>hi (z ▸ hk);rw[aG (Ne.symm F)] at sk;show h.mine k u b hk (ab k u ek F).2 sk
def Iz (i j:Nat):Ms:=λD n k=>∃w,D[j]?=some (some w)/\k.nx ((D.set j none).set i (some w)) n
def Wc(j:Nat){x y:Str}{U sp:Pos}(hN:X.N.Nodup)(hi:X.N[i]?=some x)(hx:Loc X.env.scope x)(Y:j∈M:=by ext)(F:i∉M:=by ext)(I:i∉S:=by ext)(J:X.N[j]?=some y:=by rfl)(hv:Vis X.env.scope y:=by fail"v")(hd:Ah y:=by ext)(O:h_ y:=by ext)(hs:swapsWith (.Name y U) (some (.Name x px)) sp.line X.env=pure false:=by rfl)(hf:g_ x X:=by fail"l"):JS X Pn S M fr (.Assign [.Name x px] (.Name y U) sp) (Iz i j):=by
 show#[_,xF (i:=i) hN hi hx (qv j J hv hd O) hs hf,#[ ?_]];rintro B A G H D n k BB a kk ⟨w,e,r⟩;obtain⟨v,s1,_,s3⟩:=a.env.val j w e;obtain⟨ad,rfl,hA,_,_⟩:=s3 Y;show#[.ref ad,s1,kk.nx _ _ H _ n (a.move Y F I e s1) r]
end
end L3
variable{f fa fb fc fe fk fv fo:L3.AD}{Pn:L3.PN}{D ρc:L3.Ev}{fi:L3.AC}
namespace L3
open L2
structure StOk (rm st:AG):Prop where
 len:st.length=rm.length
 box:∀b:Int,0<=b->b<rm.length->0<=zy st b/\zy st b<zy rm b
def xV:∀ (ns:AG),(∀n∈ns,1<=n)->((yg (ns.map zl)).length:Int)=yK ns:=by
 have:∀ (k:Nat) (ns:AG),ns.length=k->(∀n∈ns,1<=n)->((yg (ns.map zl)).length:Int)=yK ns:=by
  intro k
  induction k with
  | zero=>intro ns e _;rw[a9 e];rfl
  | succ k F=>
   intro ns e h
   obtain⟨m,x,rfl⟩:∃m x,ns=m++[x]:=by
    have B:ns≠[]:=by intro z;rw[z] at e;cases e
    show#[ns.dropLast,ns.getLast B,(bG B).symm]
   rw[ay] at e;rw[aP,ax,dU,yF,uP,xR,xS];have h1:=F m (by simpa using e) λn I=>h n (cC _ I);have h2:=h x (a8 _ '$');rw[Int.natCast_mul,h1,bF '!']
 right
def Wd:∀ {ns:AG},(∀n∈ns,1<=n)->1<=yK ns:=λ{ns} h=>by
 have:∀ (ns:AG) (a:Int),1<=a->(∀n∈ns,1<=n)->1<=ns.foldl (· * ·) a:=by
  intro ns
  induction ns with
  | nil=>intro a B _;show B
  | cons n ns I=>
   intro a B F;show I (a*n) ?_ λm J=>F m (aj _ J);have:=F n aq;show Int.le_trans '#' (Int.mul_le_mul B this '#' '!')
 show this ns 1 '#' h
def Br (a b:AG)(k:Nat):Wi:=#[((List.range a.length).filter λi=>!decide (i=k)).map λi:Nat=>((i:Int),a.getD i 0),(k:Int),b.getD k 0,a.getD k 0]
def We (rm:AG)(bk:AW)(g:List (Int×Int)):AF:=(V_ rm g).filter λst=>decide (CG bk st (g.map (·.1))=[])
abbrev y9 (bk:AW):Dt:=.tup (bk.map z5)
def uX (rm:AG)(bk:AW):Prop:=∀x∈bk,WishOk rm x
abbrev F_bett:FV:=λ_ B n R=>∃rm bk st hs,B=[.d (stD rm),.d (y9 bk),.d (stD st),.d (stD hs)]/\RoomOk rm/\uX rm bk/\st.length=rm.length/\R (.d (Bh (ux bk st hs))) n
abbrev Z4:FV:=λ_ B n R=>∃rm bk g,B=[.d (stD rm),.d (y9 bk),.d (Bi g)]/\RoomOk rm/\uX rm bk/\Giv rm g/\R (.d (Bh (We rm bk g))) n
def Eb (r:Nat):BG 0 r=(List.range r).map λk:Nat=>W.d (.int (k:Int)):=by
 unfold BG;right
def MJ (J:ns.length<=8)(B:∀m∈ns,2<=m/\m<=4)(k:Nat):(yg ((ns.take k).map zl)).length<=65536:=by
 have:=Lb (cs:=ns.map zl) (by right) (λc F=>by obtain⟨m,I,rfl⟩:=aH.mp F;have:=B m I;rw[xS];lia) k;right
def Wf{L:AS}{a:Int}{BA:Dt->Prop}(B:0<=a)(h1:a<L.length)(h:∀x∈L,BA x):∃x,atI L a=some x/\BA x:=by obtain⟨d,h2,F⟩:=V8 B h1;show#[d,h2,h d F]
def MK:∀ {rm:AG},(∀r∈rm,2<=r/\r<=4)->yK rm<=256->rm.length<=8:=λ{rm} F hp=>by
 have:∀k rm,rm.length=k->(∀r∈rm,2<=r/\r<=4)->(2:Int) ^ k<=yK rm:=by
  intro k
  induction k with
  | zero=>intro rm e _;rw[a9 e];decide
  | succ k J=>
   intro rm e F
   obtain⟨m,x,rfl⟩:∃m x,rm=m++[x]:=by
    have B:rm≠[]:=by intro z;rw[z] at e;cases e
    show#[rm.dropLast,rm.getLast B,(bG B).symm]
   rw[ay] at e;have h1:=J m (by simpa using e) λn I=>F n (cC _ I);have h2:=F x (a8 _ '$');rw[xR,Int.pow_succ];show Int.mul_le_mul h1 h2.1 '#' '!'
 apply cL;intro I
 have h2:(2:Int) ^ 9<=2 ^ rm.length:=by
  have:(2:Nat) ^ 9<=2 ^ rm.length:=fY '#' '!'
  exact_mod_cast this
 grind
def StOk.snoc{st:AG}{w v:Int}(h:StOk rm st)(J:0<=v)(O:v<w):StOk (rm++[w]) (st++[v]):=by
 have U:=h.len;show#[by right,λb B F=>?_];rw[ay] at F;by_cases I:b<(rm.length:Int);rw[K1 B '!',K1 B I];show h.box b B I
 have e:b=(rm.length:Int):=by
  have:b<(rm.length:Int)+1:=by simpa using F
  lia
 subst e;rw[K4,<- U,K4];show#[J,O]
def Dk{B:Type}(f:α->B)(l:List α)(lo hi:AQ):uv (l.map f) lo hi=(uv l lo hi).map f:=by
 unfold uv;right
def Ec (l:List α)(lo hi:AQ):(uv l lo hi).length<=l.length:=by unfold uv;rw[bi,eI];lia
def Wg{st:AG}{b w:Int}(B:0<=b):uv st none (some b)++[w]++uv st (some (b+1)) none=chg st b w:=by
 have h:=Sq st (w:=w) B;have F:Bj (st.map V.int) none (some b)=(uv st none (some b)).map V.int:=by rw[<- Dk];rfl
 have I:Bj (st.map V.int) (some (b+1)) none=(uv st (some (b+1)) none).map V.int:=by rw[<- Dk];rfl
 rw[F,I] at h;have J:(uv st none (some b)).map V.int++[V.int w]++(uv st (some (b+1)) none).map V.int=(uv st none (some b)++[w]++uv st (some (b+1)) none).map V.int:=by rw[aP,aP];rfl
 rw[J] at h;show dD (by grind) |>.mp h
def Wh{B:Type}(f:α->B)(l:List α)(i:Nat)(x:α):B6 (l.map f) i (f x)=(B6 l i x).map f:=by
 unfold B6;right
def Wj (l:List α)(i:Nat)(x:α):(B6 l i x).length=l.length+1:=by
 unfold B6;grind
def unI:Dt->Int
 | .int i=>i
 | _=>0
def ML (l:List α)(k:Nat):uv l none (some (k:Int))=l.take k:=by
 unfold uv;rw[HT.sIx_none,HT.sIx_nat,eE,iD];grind
def yG:∀ (ns st:AG),st∈yg (ns.map zl)->StOk ns st:=by
 have:∀ (k:Nat) (ns:AG),ns.length=k->∀st,st∈yg (ns.map zl)->StOk ns st:=by
  intro k
  induction k with
  | zero=>
   intro ns e st B;rw[a9 e] at B ⊢;rw[ao.mp B];show#[A5,λb b0 I=>absurd I (by simp;lia)]
  | succ k J=>
   intro ns e st B
   obtain⟨m,x,rfl⟩:∃m x,ns=m++[x]:=by
    have F:ns≠[]:=by intro z;rw[z] at e;cases e
    show#[ns.dropLast,ns.getLast F,(bG F).symm]
   rw[ay] at e;rw[aP,ax,dU,yF] at B;obtain⟨r,O,B⟩:=fW.mp B;obtain⟨v,U,rfl⟩:=aH.mp B;obtain⟨j,Y,rfl⟩:=aH.mp U;have:=aL.mp Y;show (J m (by simpa using e) r O).snoc '!' '!'
 right
def Wk [DecidableEq κ](A7:List (κ×Dt))(k:κ)(d:Dt):(Bp A7 k d).length<=A7.length+1:=by
 unfold Bp;split
 all_goals right
def Wl:(Dt.lst (ns.map .int)).eqOk:=xn (ns:=ns)
def Wm{st:AG}{b x:Int}(B:0<=b)(F:st.length<=1000)(h:Q (.d (stD (chg st b x))) n):CN (.d (.tup (uv (st.map Dt.int) none (some b)))) (.d (.tup [.int x])) n λw m=>CN w (.d (.tup (uv (st.map Dt.int) (some (b+1)) none))) m Q:=by
 have I:=Ec st none (some b);have J:=Ec st (some (b+1)) none;rw[Dk,Dk];show#[_,_,A5,A5,by rw[af];show av (by simp;lia:_<=1001) '#',_,_,A5,A5,by rw[ay,af,af];show av (by simp;lia:_<=2001) '#',?_];have e:(uv st none (some b)).map Dt.int++[Dt.int x]++(uv st (some (b+1)) none).map Dt.int=(chg st b x).map Dt.int:=by rw[<- Wg B,aP,aP];rfl
 rw[e];show h
end L3
namespace L2
open PyProof.Rows
def Wn(ke ve gens scope pos):eval (.DictComp ke ve gens scope pos) env=comprehension (.DictComp ke ve gens scope pos) scope env (firstIterPos gens pos) newDict (firstAsync gens) (firstIter gens env):=rfl
def Wo (ke ve target iter:Expr)(ifs:AO)(scope:Scope)(pos:Pos)(it:Value)(d:Addr)(env:Env):
  compTurn (.DictComp ke ve ['9'] scope pos) 0 it (.ref d) env=(do
   standAt iter.pos
   match <- pyNext it with
   | none=>pure (.done .next)
   | some v=>
    letOwnedTupleGo target it v
    assign target env v
    let mut ok:=true
    for c in ifs do
     if ok then ok <- isTrue c env (eval c env)
    if ok then
     (do
      let kv <- eval ke env
      let vv <- holding [kv] (eval ve env)
      standAt { ke.pos with endLine:=ve.pos.endLine,endCol:=ve.pos.endCol }
      holding [kv,vv] (dictSet d kv vv))
    again (.compLoop (.DictComp ke ve ['9'] scope pos) 0 it (.ref d) env)):=by rfl
section
variable{A:Ae}{R:Result->AZ->Prop}
def ut{ke ve target iter ifs zu scope pos it acc env}(h0:codeAny '/' A (.compLoop (.DictComp ke ve ('9'::zu) scope pos) 0 it acc env) R s)(h:Ag prog w A (pyIter it) (λit' s'=>codeAny '/' A (.compLoop (.DictComp ke ve ('9'::zu) scope pos) 0 it' acc env) R s')
   (notedBy '/' A env λx s'=>R (.error x) s') s):
  codeAny '/' A (.compStart (.DictComp ke ve ('9'::zu) scope pos) 0 it acc env) R s:=by
 show eY ?_;show wpAny_notedAt ?_;unfold compStart;show aa (bB (wpAny_ite ?_));split
 first
  | show aa (by grind)
  | show ae (And.intro A5 h0)
 first
  | show aa (by grind)
  | (show aa (cD ?_);show aa (bw (aa (aE h (λit' s' h'=>ae (And.intro A5 h')) λ_ _ x=>x))))
def Wp(I:Nat->AZ->Prop)(turn:∀n s,I n s->Ag prog w A (pyNext it) (λr s₁=>match r with
   | none=>R (.ok .next) s₁
   | some v=>Ag prog w A (letOwnedTupleGo target it v) (λ_ s₂=>Ag prog w A (assign target env v) (λ_ s₃=>
     Ag prog w A 'A' (λok s₄=>
      if ok=true then Ag prog w A (eval ke env) (λx s₅=>Ag prog w A (eval ve env) (λy s₆=>
       Ag prog w A (dictSet d x y) (λ_ s₇=>∃m,m<n/\I m s₇) '%' s₆) '%' s₅) '%' s₄
      else ∃m,m<n/\I m s₄) '%' s₃) '%' s₂) '%' s₁) '%' s)(n:Nat)(h:I n s):
  codeAny '/' A (.compLoop (.DictComp ke ve ['9'] scope pos) 0 it (.ref d) env) R s:=by
 show dX A5 I (λn s hI=>?_) n h;show eJ ?_;rw[Wo];show aa '?'
 cases r with
 | none=>show ae h₁
 | some v=>
  show aa (aE h₁ (λ_ s₂ h₂=>?_) λ_ _ h'=>h'.elim);show aa '>'
  cases ok with
  | false=>show ae #[A5,h₄]
  | true=>
   show aa (aa (aE h₄ (λx s₅ h₅=>?_) λ_ _ h'=>h'.elim));show aa (bQ (aE h₅ (λy s₆ h₆=>?_) λ_ _ h'=>h'.elim));show aa (bw (bQ (aE h₆ (λ_ s₇ h₇=>?_) λ_ _ h'=>h'.elim)));show ae #[A5,h₇]
def Wq(h:Q (.ref s.heap.objs.size) { s with heap:=s.heap.push { cls:=.type "dict",data:=.dict #v[] } }):Ag prog w A (newDict) Q E s:=by simp only[newDict,newObj];show aa (wpAny_alloc (ae h))
variable{a:Addr}{y v:V}{u r:Value}
def Wr(hu:A.units+1<cLine)(I:'&')(g:Bn H a y v H')(ry:ye y u)(rv:ye v r)(h:∀s',Inv X A6 G H' s'->Q () s'):
  wpAny '5' A (dictSet a u r) Q E s:=by
 rcases g with ⟨A7,k,e,ey,l,eH⟩ | ⟨A7,k,b,e,ey,eb,l,eH⟩;subst ey eH;obtain⟨z,O,vs,B,dd⟩:=Gh I.hok e;have U:vs.length<=sizeLine:=by rw[<- B.length];show z
 have Y:(u6 A7 k v).length<=sizeLine:=by have:=xq A7 k v;lia
 show wpAny_dictSet_pairs (hsz:=U) (DC ry) dd λh' F hs=>h _ ?_;have he:∃q,h'.get? a=some q:=let ⟨q,_,_,J,_⟩:=F;#[q,J];show C5 I (by rw[e];show True.intro) hs he (Gj Y O (B.put k rv) F);subst ey eH;cases (show u=Value.ref b from ry);obtain⟨z,O,xs,B,dd⟩:=J8 I.hok e;have U:xs.length<=sizeLine:=by rw[<- ge B];show z
 have Y:(u6 A7 k v).length<=sizeLine:=by have:=xq A7 k v;lia
 show wpAny_dictSet_heap (hsz:=U) (Nat.lt_of_succ_lt hu) (EA I.hok eb) dd λh' F hs=>h _ ?_;obtain⟨q,es,ep,J,h2,h3,h4,_,h5⟩:=F;show C5 I (by rw[e];show True.intro) hs #[q,J] #[Y,O,_,(B.put k eb rv).keeps λc ys ec=>?_,q,es,ep,J,h2,h3,h4,h5];rw[zc (by grind)];show ec
end
def Ws (g:TG)(ti:TT)(tk tv:TE)(acc:Addr)(N:St->Hp->Prop)(x:V)(G:St)(H:Hp):Prop:=
 g x G H λB H3=>ti B H3 λF H4=>if F=true then tk B H4 λy H5=>tv B H5 λv H6=>∃H7,Bn H6 acc y v H7/\N B H7 else N B H4
def Wt (J:It)(g:TG)(ti:TT)(tk tv:TE)(acc:Addr)(Q:VK)(G:St)(H:Hp):Prop:=∃W:Nat->Nat->St->Hp->Prop,(∃m,W 0 m G H)/\
 ∀i m B H',W i m B H'->(J.stop i H'/\Q (.ref acc) H')\/(J.go i H'/\∃N:St->Hp->Prop,(∀ F H2,N F H2->∃I,I<m/\W (i+1) I F H2)/\∀x H2,J.yld i H' x H2->Ws g ti tk tv acc N x B H2)
def IA (o0:HO)(wi:TI)(g:TG)(ti:TT)(tk tv:TE)(A8:List '0'):TE:=λG H Q=>wi G H λJ H1=>∀acc,H1 acc=none->Wt J g ti tk tv acc Q (xw G A8) (upd H1 acc o0)
section
variable{pos:Pos}{g:TG}{tk:TE}{Q:VK}
def Wu (ab:o0 = .dK []\/o0 = .dT [])(hu:X.A.units+1<cLine)(O:Opn X scope A8 Fam)(hc:X.calm=true)(hi:PI X tg iter wi)(hg:∀X',Fam X'->PG X' tg g)(ht:∀X',Fam X'->PTs X' ifs ti)(hk:∀X',Fam X'->PE X' ke tk)(hv:∀X',Fam X'->PE X' ve tv)(hs:gM iter X)(I:'&')(h:IA o0 wi g ti tk tv A8 G H Q)(F:EG X A6 G use Qp Q):
  Af X (comprehension (.DictComp ke ve [#[tg,iter,ifs,0]] scope pos) scope X.env ipos newDict false (eval iter X.env) use) Qp X.xe s:=
 uB (ob:={ cls:=.type "dict",data:=.dict #v[] }) (o0:=λ_=>o0) (Fin:=λacc H=>Q (.ref acc) H) (B:=λX' acc P s=>wpAny '8' X'.A (eval ke X'.env) (λx s5=>wpAny '8' X'.A (eval ve X'.env) (λy s6=>wpAny '8' X'.A (dictSet acc x y) (λ_ s7=>P s7) '%' s6) '%' s5) '%' s) (tb:=λacc Nx G H=>tk G H λy H5=>tv G H5 λv H6=>∃H7,Bn H6 acc y v H7/\Nx G H7) O hc A5 hs (λ_ _ _ _ _ h0 h1=>ut h0 h1) (λ_ _ _ _ _ _ I U n h=>Wp I U n h) (λs Q h=>Wq h) (λ{_ _ _ s} I _=>by
  rcases ab with rfl | rfl;show Ka s.heap I.big
  show Qe s.heap I.big) hi hg ht (λX' hF pX wX AX _ xX acc pl s G H Nx P I q k=>by
  have e9:=hk X' hF pl s G H _ I q;rw[xX] at e9;show thn e9 ?_;rintro u2 ac ⟨y,H10,I10,ad,ag⟩;have Y:=hv X' hF pl ac G H10 _ I10 ag;rw[xX] at Y;show thn Y ?_;rintro u3 an ⟨v,H11,I11,al,H12,dp,nx⟩;show Wr (by rw[AX];show hu) I11 dp ad al λs' I'=>k _ _ _ I' nx) I h (λJ H1 acc q hn=>q acc hn) F
end
def Wv{tk:TE}{g:TG}(B:o0 = .dK []\/o0 = .dT [])(F:X.A.units+1<cLine)(J:X.calm=true)(c:CompOk X scope N A8)(hi:QI X tg iter wi)(O:∀C s H ex,QG ')' tg g)(U:∀C s H ex,QTs ')' ifs ti)(Y:∀C s H ex,QE ')' ke tk)(hv:∀C s H ex,QE ')' ve tv)(hs:gM iter X:=by intro _;rfl):QE X (.DictComp ke ve [#[tg,iter,ifs,0]] scope pos) (IA o0 wi g ti tk tv A8):=#[λA6 s G H Q I h=>by
 rw[Wn];show Wu B F (uJ c) J hi.run (A_ λC s H ex=>(O C s H ex).run) (A_ λC s H ex=>(U C s H ex).run) (A_ λC s H ex=>(Y C s H ex).run) (A_ λC s H ex=>(hv C s H ex).run) hs I h λ_ _ _ _ _ hm hb q=>Gv hm hb q]
end L2
namespace L3
open L2
section
variable{a b:Expr}{pos:Pos}
def Dl (ks:List (AG×V)):NP (dtO ks):=λ_ e=>by cases e
def MM (mg:iJ)(ft:Ev->Mo Bool)(fk fv:AD)(O:Ev)(Q:AV):AU->Nat->Prop:=λl n1=>l.length<=lim/\∃I:Nat->Ev->Nat->List (AG×Dt)->Prop,I 0 O n1 []/\
 (∀i w F J acc,l[i]?=some w->I i F J acc->mg w F λB=>ft B J λb n2=>if b=true then fk B n2 λy n3=>fv B n3 λx U=>∃st d,y = .d (stD st)/\x = .d d/\I (i+1) B U (Bp acc st d) else I (i+1) B n2 acc)/\
 ∀ F J acc,I l.length F J acc->Q (.dt acc) J
abbrev MN (B:AC)(mg:iJ)(ft:Ev->Mo Bool)(fk fv:AD)(A8:List '0'):AD:=λD n Q=>B D n (MM mg ft fk fv (uy D A8) Q)
def Ww (mg:iJ)(ft:Ev->Mo Bool)(fk fv:AD)(O:Ev)(Q:AV):AU->Nat->Prop:=λl n1=>l.length<=lim/\∃I:Nat->Ev->Nat->List (Key×Dt)->Prop,I 0 O n1 []/\
 (∀i w F J acc,l[i]?=some w->I i F J acc->mg w F λB=>ft B J λb n2=>if b=true then fk B n2 λy n3=>fv B n3 λx U=>∃j d,y = .d (.int j)/\x = .d d/\I (i+1) B U (Bp acc (Sum.inl j) d) else I (i+1) B n2 acc)/\
 ∀ F J acc,I l.length F J acc->Q (.dk acc) J
abbrev Z5 (B:AC)(mg:iJ)(ft:Ev->Mo Bool)(fk fv:AD)(A8:List '0'):AD:=λD n Q=>B D n (Ww mg ft fk fv (uy D A8) Q)
def Wx{g:TG}{tk:TE}{mg:iJ}{ft:Ev->Mo Bool}(hn:(A8.filterMap id).Nodup)(hi:RI Pn M ow wi fi)(hg:RG '(' '(' g mg)(ht:RT Pn '(' ti ft)(hk:RB Pn '(' tk fk)(he:RE Pn '(' fr' tv fv):RE Pn M true (IA (.dT []) wi g ti tk tv A8) (MN fi mg ft fk fv A8):=#[λA G H D n Q R E P hf k=>by
 show hi.run A G H D n _ _ E P hf λl m J H1 ⟨hz,I,i0,it,ie⟩ iv g1=>λacc F=>?_;have E1:=E.stay g1.st;have E2:=(E1.cap hn).more (zq.upd (o:=.dT []) F) (Fr.of F) zg (Dl []) A5;have P2:y8 Pn '-' m (L2.upd H1 acc (.dT [])):=g1.pn.grow' (g1.pn.same (yL.upd F)) (Fr.of F) zg (Dl []) A5;have a7:∀k w,k∈zQ M A8->(uy D A8)[k]?=some (some w)->(xw G A8)[k]?≠some (some (.ref acc)):=λk w hk hw z=>by obtain⟨v,s1,_,s3⟩:=(E1.cap hn).val k w hw;obtain⟨a,e,hA,_⟩:=s3 hk;rw[z] at s1;cases s1;cases e;show E1.new F hA
 have key:∀ U O H',EnvR '-' '(' U H' O->(∀k∈zQ M A8,U[k]?=(xw G A8)[k]?/\O[k]?=(uy D A8)[k]?)->∀k w,k∈zQ M A8->O[k]?=some (some w)->U[k]?≠some (some (.ref acc)):=λU O H' E' a0 k w hk hw z=>by right
 show#[λi mm U H'=>mm=l.length-i/\i<=l.length/\∃ O n' B xs,EnvR '-' '(' U H' O/\y8 Pn '-' n' H'/\I i O n' B/\H' acc=some (dtO xs)/\xN (zF '-' H') B xs/\B.length<=i/\zq (zF A H1) (zF '-' H')/\zq H1 H'/\(∀k∈zQ M A8,U[k]?=(xw G A8)[k]?/\O[k]?=(uy D A8)[k]?),
  #[l.length,by simp,aQ _,_,m,[],[],E2,P2,i0,zg,A5,ak _,yy (zq.upd F) (Fr.of F),zq.upd F,λk hk=>#[A5,A5]],?_]
 rintro i mm U H' ⟨rfl,bb,O,n',B,xs,E',P',hI,ab,ac,bc,st,s1,a0⟩;by_cases a2:i<l.length
 show Or.inr ?_;have as:l[i]?=some l[i]:=am a2;obtain⟨go,yl⟩:=iv.one i l[i] _ H' as st (λ_=>s1) λp hp=>E'.new hp
 show#[go,λa1 H2=>∃ O n' B xs,EnvR '-' '(' a1 H2 O/\y8 Pn '-' n' H2/\I (i+1) O n' B/\H2 acc=some (dtO xs)/\xN (zF '-' H2) B xs/\B.length<=i+1/\zq (zF A H1) (zF '-' H2)/\zq H1 H2/\(∀k∈zQ M A8,a1[k]?=(xw G A8)[k]?/\O[k]?=(uy D A8)[k]?),
  λa1 H2 h=>#[l.length-(i+1),by lia,A5,a2,h],λx H2 hy=>?_]
 obtain⟨S2,V2⟩:=yl x H2 hy;show hg.run _ U H2 O x l[i] _ _ (E'.stay (zq.same S2)) V2 (it i l[i] O n' B as hI) λad Y r3 E3 f3=>?_;have ag:∀k∈zQ M A8,ad[k]?=(xw G A8)[k]?/\Y[k]?=(uy D A8)[k]?:=λk hk=>#[(f3 k hk).1.trans (a0 k hk).1,(f3 k hk).2.trans (a0 k hk).2];show ht.run _ ad H2 Y n' _ _ E3 (P'.same S2) r3 λb m3 H4 r4 g4=>?_;have al:=(zq.same S2).trans g4.st
 cases b with
 | false=>
  rw[if_neg '#'] at r4 ⊢;show#[Y,m3,B,xs,E3.stay g4.st,g4.pn,r4,al _ _ ab (Dl _),ac.stay (zr al),by lia,st.trans (zr al),s1.trans al,ag]
 | true=>
  rw[if_pos rfl] at r4 ⊢;show hk.run _ ad H4 Y m3 _ _ (E3.stay g4.st) g4.pn r4 λy5 m5 u5 H5 r5 B5 g5=>?_;show he.run _ ad H5 Y m5 _ _ ((E3.stay g4.st).stay g5.st) g5.pn r5 ?_;rintro w6 m6 v6 H6 ⟨ky,d,ey,e6,r6⟩ V6 g6 _;subst ey e6;have an:=(al.trans g5.st).trans g6.st;have E6:=((E3.stay g4.st).stay g5.st).stay g6.st;have a3:H6 acc=some (dtO xs):=an _ _ ab (Dl _);obtain⟨bd,zs,rfl,a4,hx⟩:=xH (B5.stay g6.st);obtain rfl:=hx.of_ints;have bk:=Wk B ky d;show#[_,Bn.i a3 a4 (CM (by rw[ac.len];lia)),Y,m6,Bp B ky d,u6 xs ky v6,E6.upd (.inr A5) (key ad Y H6 E6 ag) (Dl _) A5,g6.pn.upd (.inr A5),r6,zg,?_,by lia,?_,?_,ag];rw[zH (.inr A5)];show (ac.stay (zr an)).put V6.is;rw[zH (.inr A5)];show st.trans (zr an);show λb o e nn=>by rw[zc (ze e F)];show s1.trans an b o e nn
 show Or.inl ?_;have a5:i=l.length:=by lia
 subst a5;show#[iv.stop _ H' st (λ_=>s1),k _ n' _ H' (ie O n' B hI) #[acc,xs,A5,zv (E1.new F) ab,ac.stay (zq.same (yx λb z=>.inl z))] (g1.trans #[s1,P'.less λa z=>.inl z]) λ_=>#[acc,A5,(Fr.of F).back g1.st,#[_,ab,A5],acc,xs,A5,ab,ac]]]
def Wy(h:∀C s H ex,JB ')' Pn M e f):∃te,(∀C s H ex,QE ')' e te)/\RB Pn M te f:=
 #[λG H Q=>∀C s H0 ex,(h C s H0 ex).ex.choose G H Q,λC s H0 ex=>#[λA6 s' G H Q I z=>(h C s H0 ex).ex.choose_spec.1.run A6 s' G H Q I (z C s H0 ex)],
  #[λA G H D n Q R E P hf k C s H0 ex=>(h C s H0 ex).ex.choose_spec.2.run A G H D n Q R E P hf k]]
def Wz(F:X.A.units+1<cLine)(I:X.calm=true)(cc:CompOk X scope N A8)(hi:JI X Pn M ow tg iter B)(J:∀C s H ex,JG ')' '(' '(' tg mg)(O:∀C s H ex,JTs ')' Pn '(' ifs ft)(U:∀C s H ex,JB ')' Pn '(' ke fk)(Y:∀C s H ex,JE ')' Pn '(' fr' ve fv)(hn:(A8.filterMap id).Nodup:=by ext)(hs:gM iter X:=by intro _;rfl):JE X Pn M true (.DictComp ke ve [#[tg,iter,ifs,0]] scope pos) (MN B mg ft fk fv A8):=by
 obtain⟨ti,qi,ri⟩:=hi.ex;obtain⟨g,qg,rg⟩:=CQ J;obtain⟨tt,qt,rt⟩:=CP O;obtain⟨tk,qk,rk⟩:=Wy U;obtain⟨te,qe,re⟩:=D_ Y;show#[_,Wv (o0:=.dT []) '$' F I cc qi qg qt qk qe hs,Wx hn ri rg rt rk re]
end
abbrev onI (w:W)(P:Int->Prop):Prop:=match w with | .d (.int i)=>P i | _=>False
abbrev onB (w:W)(P:Bool->Prop):Prop:=match w with | .d (.bl i)=>P i | _=>False
abbrev onT (w:W)(P:AS->Prop):Prop:=match w with | .d (.tup i)=>P i | _=>False
abbrev onL (w:W)(P:AS->Prop):Prop:=match w with | .d (.lst i)=>P i | _=>False
abbrev onS (w:W)(P:AS->Prop):Prop:=match w with | .d (.lst i)=>P i | .d (.tup i)=>P i | _=>False
abbrev onD (w:W)(P:Dt->Prop):Prop:=match w with | .d i=>P i | _=>False
abbrev onK (w:W)(P:List (Key×Dt)->Prop):Prop:=match w with | .dk i=>P i | _=>False
abbrev onE (w:W)(P:List (AG×Dt)->Prop):Prop:=match w with | .dt i=>P i | _=>False
abbrev onO (o:Option α)(P:α->Prop):Prop:=match o with | some i=>P i | none=>False
abbrev onC (c:Bool)(A B:Prop):Prop:=match c with | true=>A | false=>B
abbrev on1 (l:AU)(P:W->Prop):Prop:=match l with | [a]=>P a | _=>False
abbrev on2 (l:AU)(P:W->W->Prop):Prop:=match l with | [a,b]=>P a b | _=>False
abbrev onV:Ev->Nat->(W->Prop)->Prop
 | [],_,_=>False
 | a::_,0,P=>onO a P
 | _::r,i+1,P=>onV r i P
abbrev onP:Ev->Nat->W->(Ev->Prop)->Prop
 | [],_,_,Q=>Q []
 | _::r,0,w,Q=>Q (some w::r)
 | a::r,i+1,w,Q=>onP r i w λB=>Q (a::B)
abbrev onN:Ev->Nat->(Ev->Prop)->Prop
 | [],_,Q=>Q []
 | _::r,0,Q=>Q (none::r)
 | a::r,i+1,Q=>onN r i λB=>Q (a::B)
abbrev BU:Nat->List α->Prop->Prop
 | 0,[],P=>P
 | k+1,_::r,P=>BU k r P
 | _,_,_=>False
def u4{w:_}{P:Int->Prop}:onI w P = ∃i,w = .d (.int i)/\P i:=propext #[λh=>by rcases w with (x|x|x|x|_|_) <;> first | show False.elim h | (cases x <;> first | show False.elim h | show#[_,A5,h]),by right]
def FB{w:_}:onB w P = ∃i,w = .d (.bl i)/\P i:=propext #[λh=>by rcases w with (x|x|x|x|_|_) <;> first | show False.elim h | (cases x <;> first | show False.elim h | show#[_,A5,h]),by rintro⟨i,e,h⟩;subst e;show h]
def Cr{w:_}:onT w P = ∃i,w = .d (.tup i)/\P i:=propext #[λh=>by rcases w with (x|x|x|x|_|_) <;> first | show False.elim h | (cases x <;> first | show False.elim h | show#[_,A5,h]),by right]
def Ed{w:_}:onL w P = ∃i,w = .d (.lst i)/\P i:=propext #[λh=>by rcases w with (x|x|x|x|_|_) <;> first | show False.elim h | (cases x <;> first | show False.elim h | show#[_,A5,h]),by right]
def FC{w:_}:onS w P = ∃i,(w = .d (.lst i)\/w = .d (.tup i))/\P i:=propext #[λh=>by rcases w with (x|x|x|x|_|_) <;> first | show False.elim h | (cases x <;> first | show False.elim h | show#[_,.inl A5,h] | show#[_,.inr A5,h]),by rintro⟨i,e,h⟩;rcases e with e | e <;> subst e <;> show h]
def xD{w:_}:onD w P = ∃i,w = .d i/\P i:=propext #[λh=>by cases w <;> first | show False.elim h | show#[_,A5,h],by right]
def WA{w:_}{P:List (AG×Dt)->Prop}:onE w P = ∃i,w = .dt i/\P i:=propext #[λh=>by cases w <;> first | show False.elim h | show#[_,A5,h],by right]
def Dn{w:Option α}{P:α->Prop}:onO w P = ∃i,w=some i/\P i:=propext #[λh=>by cases w <;> first | show False.elim h | show#[_,A5,h],by right]
def Ci{c:_}{A B:Prop}:onC c A B=if c=true then A else B:=by cases c <;> simp[onC]
def CW:on1 l P = ∃a,l=[a]/\P a:=propext #[λh=>by rcases l with (_|⟨a,_|⟨b,l⟩⟩) <;> first | show False.elim h | show#[_,A5,h],by right]
def WB:on2 l P = ∃a b,l=[a,b]/\P a b:=propext #[λh=>by rcases l with (_|⟨a,_|⟨b,_|⟨c,l⟩⟩⟩) <;> first | show False.elim h | show#[_,_,A5,h],by right]
theorem Cs:∀ {D:Ev} {i:Nat} {P:W->Prop},onV D i P = ∃w,D[i]?=some (some w)/\P w
 | [],i,P=>by simp[onV]
 | some w::r,0,P=>by simp[onV]
 | none::r,0,P=>by simp[onV]
 | some w::r,i+1,P=>by simpa [onV] using Cs (D:=r) (i:=i) (P:=P)
 | none::r,i+1,P=>by simpa [onV] using Cs (D:=r) (i:=i) (P:=P)
theorem Ct:∀ {D:Ev} {i:Nat} {w:W} {Q:Ev->Prop},onP D i w Q=Q (D.set i (some w))
 | [],i,w,Q=>rfl
 | a::r,0,w,Q=>rfl
 | a::r,i+1,w,Q=>by rw[onP,Ct];rfl
theorem MO:∀ {D:Ev} {i:Nat} {Q:Ev->Prop},onN D i Q=Q (D.set i none)
 | [],i,Q=>rfl
 | a::r,0,Q=>rfl
 | a::r,i+1,Q=>by rw[onN,MO];rfl
theorem FD:∀ {k:Nat} {l:List α} {P:Prop},BU k l P=(l.length=k/\P)
 | 0,[],P=>by simp[BU]
 | 0,a::r,P=>by simp[BU]
 | k+1,[],P=>by simp[BU]
 | k+1,a::r,P=>by simp[BU,FD (l:=r)]
def Cj{P:Prop}[Decidable P]{A B:Prop}(h1:P->A)(h2:¬ P->B):onC (decide P) A B:=by
 by_cases h:P
 all_goals right
def Do{P:Prop}[Decidable P]{A B:Prop}(h1:¬ P->A)(h2:P->B):onC (!decide P) A B:=by
 by_cases h:P
 all_goals right
def IB{c:_}{A B:Prop}(h1:c=true->A)(h2:c=false->B):onC c A B:=by
 cases c;show h2 A5;show h1 A5
def WC{c:_}{A B:Prop}(h1:c=false->A)(h2:c=true->B):onC (!c) A B:=by
 cases c;show h1 A5;show h2 A5
def WD{c:_}{A B:Prop}(h:c=true)(h1:A):onC c A B:=by subst h;show h1
def WE{c:_}{A B:Prop}(h:c=false)(h1:B):onC c A B:=by subst h;show h1
def CY{o:Option α}{a:α}{P:α->Prop}(e:o=some a)(h:P a):onO o P:=by subst e;show h
def onA{st:AG}{b:Int}(B:0<=b)(h1:b<st.length)(h:P (.int (zy st b))):onO (atI (st.map Dt.int) b) P:=CY (V9 B h1) h
def IC{L:AS}{a:Int}{P:Dt->Prop}(B:0<=a)(h1:a<L.length)(h:∀x∈L,P x):onO (atI L a) P:=by obtain⟨x,e,F⟩:=Wf B h1 h;show CY e F
def onG{L:List α}{f:α->Dt}{i:Nat}{x:α}{P:Dt->Prop}(e:L[i]?=some x)(h:P (f x)):onO (atI (L.map f) (i:Int)) P:=CY (Iw (by right)) h
section
variable{a b:Expr}{g:AD}{pos:Pos}{t u:Ev->Mo Bool}{fs gs:AC}
def wE (h:f=g)(j:JE X Pn M fr e f):JE X Pn M fr e g:=h ▸ j
def wB (h:f=g)(j:JB X Pn M e f):JB X Pn M e g:=h ▸ j
def wT (h:t=u)(j:JT X Pn M e t):JT X Pn M e u:=h ▸ j
def wW (h:t=u)(j:JW X Pn M e t):JW X Pn M e u:=h ▸ j
def wO{f g:Ev->Mo AQ}{e:Option Expr}(h:f=g)(j:JO X Pn M e f):JO X Pn M e g:=h ▸ j
def wG{f g:iJ}(h:f=g)(j:JG X S M e f):JG X S M e g:=h ▸ j
def wH{f g:AS->Ev->(Ev->Prop)->Prop}(h:f=g)(j:JGs X S M es f):JGs X S M es g:=h ▸ j
def wI(h:fs=gs)(j:JI X Pn M ow tg e fs):JI X Pn M ow tg e gs:=h ▸ j
def wS{s:Stmt}{f g:Ms}(h:f=g)(j:JS X Pn S M fr s f):JS X Pn S M fr s g:=h ▸ j
abbrev BH (i:Nat):AD:=λD n Q=>onV D i λw=>Q w n
def MP:DT i=BH i:=by funext D n Q;show Cs.symm
def kv (i:Nat){x:Str}(hi:i∉M:=by ext)(F:X.N[i]?=some x:=by rfl)(I:Vis X.env.scope x:=by fail"v")(J:Ah x:=by ext)(B:h_ x:=by ext):JE X Pn M false (.Name x pos) (BH i):=wE MP (DU i hi F I J B)
def kb(i:Nat)(F:X.N[i]?=some x:=by rfl)(I:Vis X.env.scope x:=by fail"v")(J:Ah x:=by ext)(B:h_ x:=by ext):JB X Pn M (.Name x pos) (BH i):=wB MP (UW i F I J B)
abbrev Ee (fa:AD):Ev->Mo Bool:=λD n Q=>fa D n λx m=>onB x λc=>Q c m
def zp:CJ fa=Ee fa:=by funext D n Q;simp only[CJ,Ee,FB]
abbrev FE (t u:Ev->Mo Bool):Ev->Mo Bool:=λD n Q=>t D n λc m=>onC c (u D m Q) (Q false m)
def Ef:Fh t u=FE t u:=by funext D n Q;simp only[Fh,FE,Ci]
abbrev dOr (t u:Ev->Mo Bool):Ev->Mo Bool:=λD n Q=>t D n λc m=>onC c (Q true m) (u D m Q)
def uI:mOr t u=dOr t u:=by funext D n Q;simp only[mOr,dOr,Ci]
abbrev dNot (t:Ev->Mo Bool):Ev->Mo Bool:=λD n Q=>t D n λc m=>onC c (Q false m) (Q true m)
def yM:HK t=dNot t:=by funext D n Q;simp only[HK,dNot];congr 1;funext c m;cases c <;> rfl
abbrev MQ (fa fb:AD):AD:=λD n Q=>fa D n λx m=>onB x λc=>onC c (fb D m Q) (Q (.d (.bl false)) m)
def x4:HL fa fb=MQ fa fb:=by funext D n Q;simp only[HL,MQ,Ci,FB]
abbrev dOrV (fa fb:AD):AD:=λD n Q=>fa D n λx m=>onB x λc=>onC c (Q (.d (.bl true)) m) (fb D m Q)
abbrev MR (fa:AD):AD:=λD n Q=>fa D n λx m=>onB x λc=>Q (.d (.bl (!c))) m
def WF:HN fa=MR fa:=by funext D n Q;simp only[HN,MR,FB]
abbrev dIf (t:Ev->Mo Bool)(fa fb:AD):AD:=λD n Q=>t D n λc m=>onC c (fa D m Q) (fb D m Q)
def WG:mIf t fa fb=dIf t fa fb:=by funext D n Q;simp only[mIf,dIf,Ci]
abbrev dI (C:Int->Int->Prop)(g:Int->Int->Dt):W->W->Mo W:=λx y n Q=>onI x λi=>onI y λj=>C i j/\Q (.d (g i j)) n
def MS{C:Int->Int->Prop}{g:Int->Int->Dt}:fI C g=dI C g:=by funext x y n Q;simp only[dI,u4];show propext #[by rintro⟨i,j,B,F,h⟩;show#[i,B,j,F,h],by rintro⟨i,B,j,F,h⟩;show#[i,j,B,F,h]]
abbrev dI0 (g:Int->Int->Dt):W->W->Mo W:=λx y n Q=>onI x λi=>onI y λj=>Q (.d (g i j)) n
def Eg{g:Int->Int->Dt}:fI0 g=dI0 g:=by funext x y n Q;simp only[dI0,u4];show propext #[by rintro⟨i,j,B,F,h⟩;show#[i,B,j,F,h],by rintro⟨i,B,j,F,h⟩;show#[i,j,B,F,h]]
def BV:F2 Pn false (rI0 λi j=>.int (i+j)) (dI0 λi j=>.int (i+j)):=Eg ▸ U9
def WH:F2 Pn false (rI0 λi j=>.int (i-j)) (dI0 λi j=>.int (i-j)):=Eg ▸ U_
def MT:F2 Pn false (rI Cl λi j=>.int (i*j)) (dI Cl λi j=>.int (i*j)):=MS ▸ Va
def MU:F2 Pn false (rI (λ_ j=>0<j) λi j=>.int (i % j)) (dI (λ_ j=>0<j) λi j=>.int (i % j)):=MS ▸ Vb
def u_lt:F2 Pn false (rI0 λi j=>.bl (decide (i<j))) (dI0 λi j=>.bl (decide (i<j))):=Eg ▸ v_lt
def FF:F2 Pn false (rI0 λi j=>.bl (decide (i<=j))) (dI0 λi j=>.bl (decide (i<=j))):=Eg ▸ v_le
def u_gt:F2 Pn false (rI0 λi j=>.bl (decide (i > j))) (dI0 λi j=>.bl (decide (j<i))):=Eg ▸ v_gt
abbrev ID:W->Mo W:=λx n Q=>onI x λi=>Q (.d (.int (-i))) n
def WI:F1 Pn false (rU λi=>.int (-i)) ID:=(show HS=ID by funext x n Q;simp only[HS,ID,u4]) ▸ Vc
abbrev dEq:W->W->Mo W:=λx y n Q=>onD x λa=>onD y λb=>onO (sEq a b) λr=>Q (.d (.bl r)) n
def WJ:fEq=dEq:=by
 funext x y n Q;simp only[fEq,dEq,xD,Dn];right
abbrev dNe:W->W->Mo W:=λx y n Q=>onD x λa=>onD y λb=>onO (sEq a b) λr=>Q (.d (.bl (!r))) n
def WK:fNe=dNe:=by
 funext x y n Q;simp only[fNe,dNe,xD,Dn];right
def B7:F2 Pn false rEq dEq:=WJ ▸ v_eq
def B8:F2 Pn false rNe dNe:=WK ▸ v_ne
abbrev IE:W->W->Mo W:=λx y n Q=>onD x λa=>onD y λb=>a.eqOk/\b.eqOk/\∀r:Bool,(r=true↔a=b)->Q (.d (.bl r)) n
abbrev IF:W->W->Mo W:=λx y n Q=>onD x λa=>onD y λb=>a.eqOk/\b.eqOk/\∀r:Bool,(r=true↔a=b)->Q (.d (.bl (!r))) n
def WL:HU=IE:=by
 funext x y n Q;simp only[HU,IE,xD];right
def WM:HV=IF:=by
 funext x y n Q;simp only[HV,IF,xD];right
def FG:F2 Pn false EO IE:=WL ▸ Vd
def WN:F2 Pn false EQ IF:=WM ▸ Ve
abbrev dIsB:W->W->Mo W:=λx y n Q=>onB x λa=>onB y λb=>Q (.d (.bl (a==b))) n
abbrev Z6:W->W->Mo W:=λx y n Q=>onB x λa=>onB y λb=>Q (.d (.bl (a != b))) n
abbrev dInI:W->W->Mo W:=λx y n Q=>onI x λb=>onS y λl=>∃ns:AG,l=ns.map .int/\Q (.d (.bl (ns.contains b))) n
abbrev FH:W->W->Mo W:=λx y n Q=>onI x λb=>onS y λl=>∃ns:AG,l=ns.map .int/\Q (.d (.bl (!ns.contains b))) n
def WO:HW=FH:=by funext x y n Q;simp only[HW,FH,u4,FC];show propext #[by rintro⟨a,b,B,F,h⟩;show#[a,B,_,F,b,A5,h],by rintro⟨a,B,l,F,b,e,h⟩;subst e;show#[a,b,B,F,h]]
def WP:F2 Pn false (rIn K true) FH:=WO ▸ Vf
abbrev xr:Bool->Bool->Bool
 | false,b=>b
 | true,b=>!b
abbrev IG (B:Bool):W->W->Mo W:=λx y n Q=>onD x λd=>onS y λds=>d.eqOk/\(Dt.lst ds).eqOk/\∀b:Bool,(b=true↔d∈ds)->Q (.d (.bl (xr B b))) n
def WQ{B b:Bool}:(if B then !b else b)=xr B b:=by cases B <;> rfl
def WR:HX B=IG B:=by
 funext x y n Q;simp only[HX,IG,xD,FC,WQ];right
def IH:F2 Pn false (HA B) (IG B):=WR ▸ Vg
abbrev FI:W->W->Mo W:=λx y n Q=>onT x λl=>onI y λi=>onO (atI l i) λd=>Q (.d d) n
abbrev II:W->W->Mo W:=λx y n Q=>onL x λl=>onI y λi=>onO (atI l i) λd=>Q (.d d) n
def WS:HY=FI:=by
 funext x y n Q;simp only[HY,FI,Cr,u4,Dn];right
def WT:HZ=II:=by
 funext x y n Q;simp only[HZ,II,Ed,u4,Dn];right
def z0:F2 Pn false (ED K) FI:=WS ▸ Vh
def Eh:F2 Pn false (EC K) II:=WT ▸ Vi
abbrev IJ:W->W->Mo W:=λx y n Q=>onT x λl=>onT y λm=>l.length+m.length<=lim/\Q (.d (.tup (l++m))) n
abbrev dCatL:W->W->Mo W:=λx y n Q=>onL x λl=>onL y λm=>l.length+m.length<=lim/\Q (.d (.lst (l++m))) n
def WU:CN=IJ:=by
 funext x y n Q;simp only[CN,IJ,Cr];right
def uq:F2 Pn false (DD K) IJ:=WU ▸ Vj
abbrev dRepT:W->W->Mo W:=λx y n Q=>onT x λl=>onI y λj=>(1<=j/\j<=1000000/\l.length*j.toNat<=lim)/\Q (.d (.tup (List.replicate j.toNat l).flatten)) n
abbrev dRepL:W->W->Mo W:=λx y n Q=>onL x λl=>onI y λj=>(0<=j/\j<=1000000/\l.length*j.toNat<=lim)/\Q (.d (.lst (List.replicate j.toNat l).flatten)) n
abbrev IK:AU->Mo W:=λB n Q=>on1 B λx=>onO (lenD x) λk=>Q (.d (.int (k:Int))) n
def WV:H_=IK:=by
 funext ws n Q;simp only[H_,IK,CW,Dn];right
def BD:FL Pn false (λxs H Q=>∃x n,xs=[x]/\Ex K x H n/\Q (.int n) H) IK:=WV ▸ Vk
abbrev dAbs:AU->Mo W:=λB n Q=>on1 B λx=>onI x λi=>Q (.d (.int (if i<0 then -i else i))) n
abbrev dMin:AU->Mo W:=λB n Q=>on2 B λx y=>onI x λi=>onI y λj=>Q (.d (.int (if j<i then j else i))) n
abbrev dMax:AU->Mo W:=λB n Q=>on2 B λx y=>onI x λi=>onI y λj=>Q (.d (.int (if j > i then j else i))) n
abbrev IL:AU->Mo W:=λB n Q=>on1 B λx=>onL x λl=>∃bs:List Bool,l=bs.map .bl/\Q (.d (.bl (bs.all id))) n
def WW:Ia=IL:=by funext ws n Q;simp only[Ia,IL,CW,Ed];show propext #[by rintro⟨x,e,h⟩;show#[_,e,_,A5,x,A5,h],by right]
def IM:FL Pn false (λxs H Q=>∃ (p:Addr) (bs:List Bool),xs=[.ref p]/\Rd H p (.lst (bs.map V.bl))/\Q (.bl (bs.all id)) H) IL:=WW ▸ Vl
abbrev dList:AU->Mo W:=λB n Q=>on1 B λx=>onS x λl=>Q (.d (.lst l)) n
abbrev MV:AU->Mo W:=λB n Q=>on1 B λx=>onS x λl=>Q (.d (.tup l)) n
def WX:(∃l,(B=[.d (.lst l)]\/B=[.d (.tup l)])/\P l)=on1 B λx=>onS x P:=by
 simp only[CW,FC];grind
def CZ:FL Pn false (GR K) MV:=(show Mq=MV by funext ws n Q;show WX) ▸ Vm
abbrev dDictT:AU->Mo W:=λB n Q=>on1 B λx=>onT x λl=>∃ps:List (Int×Dt),l=ps.map prD/\(ps.map (·.1)).Nodup/\ps.length<=1000/\Q (.dk (ps.map kvD)) n
abbrev dInt1:AU->Mo W:=λB n Q=>on1 B λx=>match x with
 | .d (.int i)=>Q (.d (.int i)) n
 | .d (.bl b)=>Q (.d (.int (if b then 1 else 0))) n
 | _=>False
abbrev dSortI:AU->Mo W:=λF n Q=>on1 F λx=>onL x λl=>∃ns:AG,l=ns.map .int/\ns.length<64/\∀B:AG,B.Perm ns->B.Pairwise (·<=·)->Q (.d (.lst (B.map .int))) n
abbrev dSortT:AU->Mo W:=λF n Q=>on1 F λx=>onL x λl=>∃A9 m,l=A9.map stD/\A9.length<64/\1<=m/\(∀st∈A9,st.length=m)/\A9.Nodup/\∀B:AF,B.Perm A9->(B.Pairwise λa b=>HT.lexLt a b=true)->Q (.d (Bh B)) n
abbrev dListD:AU->Mo W:=λB n Q=>on1 B λx=>onE x λA7=>((A7.map (·.1)).Nodup->Q (.d (.lst ((A7.map (·.1)).map stD))) n)
end
section
variable{fd:AD}{t u:Ev->Mo Bool}{fs:AC}
abbrev MW (fa:AD):Ev->Mo AQ:=λD n Q=>fa D n λx m=>onI x λi=>Q (some i) m
def yU:Ib fa=MW fa:=by funext D n Q;simp only[Ib,MW,u4]
abbrev dSlT (fa:AD)(fl B:Ev->Mo AQ):AD:=λD n Q=>fa D n λx n1=>fl D n1 λlo n2=>B D n2 λhi n3=>onT x λl=>Q (.d (.tup (uv l lo hi))) n3
def xM{fl B:Ev->Mo AQ}:Ic fa fl B=dSlT fa fl B:=by funext D n Q;simp only[Ic,dSlT,Cr]
abbrev dSlL (fa:AD)(fl B:Ev->Mo AQ):AD:=λD n Q=>fa D n λx n1=>fl D n1 λlo n2=>B D n2 λhi n3=>onL x λl=>Q (.d (.lst (uv l lo hi))) n3
abbrev MX (fa:AD):AD:=λD n Q=>fa D n λx m=>onT x λl=>Q (.d (.tup l.reverse)) m
abbrev dRevL (fa:AD):AD:=λD n Q=>fa D n λx m=>onL x λl=>Q (.d (.lst l.reverse)) m
def WY:Id fa=MX fa:=by funext D n Q;simp only[Id,MX,Cr]
abbrev dDGet (fd fk:AD):AD:=λD n Q=>fd D n λx n1=>fk D n1 λy n2=>onK x λA7=>onO (Fo y) λk=>onO (yE A7 k) λd=>Q (.d d) n2
abbrev dDIn (B:Bool)(fk fd:AD):AD:=λD n Q=>fk D n λy n1=>fd D n1 λx n2=>onK x λA7=>onO (Fo y) λk=>Q (.d (.bl (xr B (yE A7 k).isSome))) n2
abbrev dFn (k:Nat)(F:AU->Mo W)(fs:AC):AD:=λD n Q=>fs D n λB m=>BU k B (F B m Q)
def zo:mFn k F fs=dFn k F fs:=by funext D n Q;simp only[mFn,dFn,FD]
abbrev dFnB (k:Nat)(fr:Bool)(F:AU->Mo W)(fs:AC):AD:=λD n Q=>fs D n λB m=>BU k B (F B m λw I=>W.flat fr w=true/\Q w I)
abbrev eN (i:Nat):iJ:=λw D Q=>onP D i w Q
def zK:gN i=eN i:=by funext w D Q;show Ct.symm
abbrev eNl:AS->Ev->(Ev->Prop)->Prop:=λds D Q=>match ds with | []=>Q D | _=>False
def uC:gNl=eNl:=by
 funext ds D Q
 cases ds with
 | nil=>simp[gNl,eNl]
 | cons _ _=>simp[gNl,eNl]
abbrev eCn (g:iJ)(u:AS->Ev->(Ev->Prop)->Prop):AS->Ev->(Ev->Prop)->Prop:=λds D Q=>match ds with | d::r=>g (.d d) D λB=>u r B Q | []=>False
def zZ{g:iJ}{u:AS->Ev->(Ev->Prop)->Prop}:gCn g u=eCn g u:=by
 funext ds D Q
 cases ds with
 | nil=>simp[gCn,eCn]
 | cons d r=>show propext #[by rintro⟨d',B,e,h⟩;cases e;show h,λh=>#[d,r,A5,h]]
abbrev eTp (n:Nat)(u:AS->Ev->(Ev->Prop)->Prop):iJ:=λw D Q=>onT w λds=>BU n ds (u ds D Q)
def uD{u:AS->Ev->(Ev->Prop)->Prop}:gTp n u=eTp n u:=by funext w D Q;simp only[gTp,eTp,Cr,FD]
abbrev dItL (fa:AD):AC:=λD n Q=>fa D n λx m=>onL x λl=>Q (l.map W.d) m
abbrev dItT (fa:AD):AC:=λD n Q=>fa D n λx m=>onT x λl=>Q (l.map W.d) m
def Dq:Ig fa=dItL fa:=by funext D n Q;simp only[Ig,dItL,Ed]
def uH:Ih fa=dItT fa:=by funext D n Q;simp only[Ih,dItT,Cr]
abbrev dItR (fs:AC):AC:=λD n Q=>fs D n λB m=>on1 B λx=>onI x λj=>(j<=1000000/\-1000000<=j)/\Q (BG 0 j.toNat) m
def xa:Ii fs=dItR fs:=by funext D n Q;simp only[Ii,dItR,CW,u4];congr 1;funext ws m;show propext #[by right,by right]
abbrev dItR2 (fs:AC):AC:=λD n Q=>fs D n λB m=>on2 B λx y=>onI x λi=>onI y λj=>(j<=1000000/\-1000000<=j/\i<=1000000/\-1000000<=i)/\Q (BG i (j-i).toNat) m
abbrev dItE (fs:AC):AC:=λD n Q=>fs D n λB m=>on1 B λx=>onT x λl=>Q (enW 0 l) m
abbrev dItEL (fs:AC):AC:=λD n Q=>fs D n λB m=>on1 B λx=>onL x λl=>Q (enW 0 l) m
def MY:Ik fs=dItE fs:=by funext D n Q;simp only[Ik,dItE,CW,Cr];congr 1;funext ws m;show propext #[by right,by right]
abbrev dItZ (fs:AC):AC:=λD n Q=>fs D n λB m=>on2 B λx y=>onT x λl=>onT y λk=>l.length=k.length/\Q (Bm l k) m
abbrev dItZM (fs:AC):AC:=λD n Q=>fs D n λB m=>on2 B λx y=>onL x λl=>onT y λk=>l.length=k.length/\Q (Bm l k) m
abbrev dItZL (fs:AC):AC:=λD n Q=>fs D n λB m=>on2 B λx y=>onL x λl=>onL y λk=>Q (Bm l k) m
def WZ:Il fs=dItZ fs:=by funext D n Q;simp only[Il,dItZ,WB,Cr];congr 1;funext ws m;show propext #[by rintro⟨i,j,e,h⟩;show#[_,_,e,i,A5,j,A5,h],by rintro⟨x,y,e,i,B,j,F,h⟩;subst B F;show#[i,j,e,h]]
abbrev dIfS (t:Ev->Mo Bool)(f g:Ms):Ms:=λD n k=>t D n λc m=>onC c (blk f D m k) (blk g D m k)
def zT{f g:Ms}:Iq t f g=dIfS t f g:=by funext D n k;simp only[Iq,dIfS,Ci]
abbrev W0 (i:Nat):Ms:=λD n k=>onV D i λw=>k.rt w n
def W1:Im i=W0 i:=by funext D n k;show Cs.symm
abbrev dSet (i:Nat)(f:AD):Ms:=λD n k=>f D n λw m=>onP D i w λB=>k.nx B m
def zz:CT f (gN i)=dSet i f:=by change CT f (gN i)=CT f (eN i);rw[zK]
abbrev dOwn (i:Nat)(f:AD):Ms:=λD n k=>f D n λw m=>onC (W.mut w) (onP D i w λρ'=>k.nx ρ' m) False
def Dr:Fv i f=dOwn i f:=by funext D n k;simp only[Fv,dOwn,Ct (Q:=λρ'=>k.nx ρ' _)];congr 1;funext w m;cases h:W.mut w <;> simp
abbrev dApp (i:Nat)(f:AD):Ms:=λD n k=>onV D i λv=>onL v λl=>f D n λw m=>onD w λd=>l.length<lim/\onP D i (.d (.lst (l++[d]))) λB=>k.nx B m
def IN:(onV D i λv=>onL v P) = ∃l,D[i]?=some (some (.d (.lst l)))/\P l:=by simp only[Cs,Ed];show propext #[by right,by right]
def IO:Fw i f=dApp i f:=by
 funext D n k;simp only[Fw,dApp,IN,xD,Ct (Q:=λB=>k.nx B _)];show propext #[λ⟨⟨l,e⟩,h⟩=>#[l,e,?_],λ⟨l,e,h⟩=>#[#[l,e],?_]]
 all_goals
  right
abbrev dExt (i:Nat)(f:AD):Ms:=λD n k=>onV D i λv=>onL v λl=>f D n λw m=>onL w λF=>l.length+F.length<=lim/\onP D i (.d (.lst (l++F))) λB=>k.nx B m
def MZ:Ix i f=dExt i f:=by
 funext D n k;simp only[Ix,dExt,IN];simp only[Ed,Ct (Q:=λB=>k.nx B _)];show propext #[λ⟨⟨l,e⟩,h⟩=>#[l,e,?_],λ⟨l,e,h⟩=>#[#[l,e],?_]]
 all_goals
  right
abbrev dIns (i:Nat)(fk f:AD):Ms:=λD n k=>onV D i λv=>onL v λl=>fk D n λy m=>f D m λw F=>onD w λd=>onI y λj=>(0<=j/\j<=l.length/\l.length<lim)/\onP D i (.d (.lst (B6 l j.toNat d))) λB=>k.nx B F
def W2:Iy i fk f=dIns i fk f:=by
 funext D n k;simp only[Iy,dIns,IN,xD,u4,Ct (Q:=λB=>k.nx B _)];show propext #[λ⟨⟨l,e⟩,h⟩=>#[l,e,?_],λ⟨l,e,h⟩=>#[#[l,e],?_]]
 all_goals
  show (congrArg (fk D n) ?_).mp h;funext y m;show congrArg (f D m) ?_;funext w m2;show propext ?_;simp[e,and_assoc]
abbrev dPopS (i:Nat)(fk:AD):Ms:=λD n k=>onV D i λv=>onL v λl=>fk D n λy m=>onI y λj=>(0<=j/\j<l.length/\l.length<=lim)/\onP D i (.d (.lst (l.eraseIdx j.toNat))) λB=>k.nx B m
abbrev Z7 (i:Nat):Ms:=λD n k=>onV D i λv=>onL v λl=>onP D i (.d (.lst l.reverse)) λB=>k.nx B n
abbrev dPut (i:Nat)(fk f:AD):Ms:=λD n k=>onV D i λv=>onL v λl=>f D n λw m=>fk D m λy F=>onD w λd=>onI y λj=>(0<=j/\j<l.length)/\onP D i (.d (.lst (l.set j.toNat d))) λB=>k.nx B F
abbrev onSt (w:W)(P:AG->Prop):Prop:=∃st,w = .d (stD st)/\P st
abbrev dDGetT (fd fk:AD):AD:=λD n Q=>fd D n λx n1=>fk D n1 λy n2=>onE x λA7=>∃st,y = .d (stD st)/\onO (yE A7 st) λd=>Q (.d d) n2
abbrev dDPutT (i:Nat)(fk f:AD):Ms:=λD n k=>onV D i λv=>onE v λA7=>f D n λw m=>fk D m λy F=>onD w λd=>∃st,y = .d (stD st)/\A7.length<lim/\onP D i (.dt (Bp A7 st d)) λB=>k.nx B F
abbrev M0 (i j:Nat):Ms:=λD n k=>onV D j λw=>onN D j λB=>onP B i w λF=>k.nx F n
def W3:Iz i j=M0 i j:=by funext D n k;simp only[Iz,M0,Cs,Ct (Q:=λB=>k.nx B _),MO (Q:=λF=>k.nx (F.set i (some _)) n)]
abbrev dPar (i j:Nat)(fs:AC):Ms:=λD n k=>fs D n λI m=>on2 I λw u=>onP D i w λB=>onP B j u λF=>k.nx F m
abbrev dIsi (B:Dt->Bool)(f:AD):AD:=λD n Q=>f D n λw m=>onD w λd=>Q (.d (.bl (B d))) m
def yB:Cg B f=dIsi B f:=by funext D n Q;simp only[Cg,dIsi,xD]
abbrev M1 (fs:AC):AD:=λD n Q=>fs D n λB m=>on1 B λx=>onI x λj=>(0<=j/\j<=1000)/\Q (.d (.lst (Ch j.toNat))) m
abbrev Z8 (fs:AC):AD:=λD n Q=>fs D n λB m=>on1 B λx=>onI x λj=>(0<=j/\j<=1000)/\Q (.d (.tup (Ch j.toNat))) m
def W4{B:AU}{P:Nat->Prop}:(∃j:Nat,B=[.d (.int (j:Int))]/\j<=1000/\P j)=on1 B λx=>onI x λj=>(0<=j/\j<=1000)/\P j.toNat:=by simp only[CW,u4];show propext #[by rintro⟨j,e,h1,h⟩;show#[_,e,_,A5,#[by lia,by lia],by simpa using h],by rintro⟨x,e,j,F,⟨h1,h2⟩,h⟩;show#[j.toNat,by grind,by lia,h]]
def W5:Iu fs=M1 fs:=by funext D n Q;simp only[Iu,M1];congr 1;funext ws m;show W4 (P:=λj=>Q (.d (.lst (Ch j))) m)
abbrev dTru (f:AD):Ev->Mo Bool:=λD n Q=>f D n λw m=>onO (truD w) λb=>Q b m
abbrev M2 (F BA:W->W->Mo W)(fa fb fc:AD):AD:=λD n Q=>fa D n λx n1=>fb D n1 λy n2=>F x y n2 λz n3=>onB z λk=>onC k (fc D n3 λu B=>BA y u B Q) (Q (.d (.bl false)) n3)
def W6:Fz F BA fa fb fc=M2 F BA fa fb fc:=by funext D n Q;simp only[Fz,M2,FB,Ci]
def FJ(xs:List α)(I:α->W)(hl:l=xs.map I)(J:Ev->Prop)(P:α->Bool)(E:α->Dt)(U:xs.length<=lim)(j0:J O)(h:∀a∈xs,∀ F,J F->∀C:Ev->Nat->Option Dt->Prop,(∀ {B},P a=true->J B->C B n (some (E a)))->(∀ {B},P a=false->J B->C B n none)->mg (I a) F λB=>ft B n λb n2=>onC b (Y B n2 λx n3=>onD x λd=>C B n3 (some d)) (C B n2 none))(fin:Q (.d (.lst ((xs.filter P).map E))) n):Ea mg ft Y O Q l n:=by
 show V0 xs I hl J P E U j0 (λa ha F hj C hC=>?_) fin;have:=h a ha F hj C (λ{B} e z=>by right) λ{B} e z=>by have:=hC B z;rwa[if_neg (by rw[e];decide)] at this
 simp only[Ci,xD] at this;show this
def Ei(xs:List α)(I:α->W)(hl:l=xs.map I)(J:Ev->Prop)(E:α->Dt)(U:xs.length<=lim)(j0:J O)(h:∀a∈xs,∀ F,J F->∀C:Ev->Nat->Dt->Prop,(∀ {B},J B->C B n (E a))->mg (I a) F λB=>Y B n λx n3=>onD x λd=>C B n3 d)(fin:Q (.d (.lst (xs.map E))) n):Ea mg Ft Y O Q l n:=by
 show V1 xs I hl J E U j0 (λa ha F hj C hC=>?_) fin;have:=h a ha F hj C λ{B} z=>hC B z;simp only[xD] at this;show this
end
abbrev rep:Nat->(Ev->Prop)->Prop
 | 0,Q=>Q []
 | k+1,Q=>rep k λD=>Q (none::D)
abbrev beg:AU->Nat->(Ev->Prop)->Prop
 | [],r,Q=>rep r Q
 | w::B,r,Q=>beg B r λD=>Q (some w::D)
theorem IP:∀ {r:Nat} {Q:Ev->Prop},rep r Q=Q (List.replicate r none)
 | 0,Q=>rfl
 | r+1,Q=>by rw[rep,IP];rfl
theorem M3:∀ {B:AU} {r:Nat} {Q:Ev->Prop},beg B r Q=Q (B.map some++List.replicate r none)
 | [],r,Q=>by rw[beg,IP];rfl
 | w::B,r,Q=>by rw[beg,M3];rfl
def M4{P:Aa}{mg:AI}{st:Stmt}{f:Addr}{k m:Nat}{F:PN->AU->Mo W}(M:AR)(r:Nat)(O:(∀vs H Q E,spV m fr F vs H Q E->vs.length=ps.length)->(∀ (B:Value) (A:Ae) (outer:List Env) (s:AZ) (H:Hp) (vs:AT) (Q:VK) (E:XK),Room k (A.deeper (PyProof.Rows.envOfC qual (zb st) s.heap.objs.size f B))->spV m fr F vs H Q E->
   ∃t,QSs '='.nox (zE st) t/\t { nx:=λ_ H'=>Q .non H',rt:=Q } (L2.yS N vs) H)->FnOk P w K mg base CX0 (k+1) f fd ps (spV m fr F))(U:m=ps.length)(Y:∀i∈M,m<=i)(hN:N.length=m+r)(I:∀ (B:Value) (A:Ae) (outer:List Env) (s:AZ) (H:Hp) (E:XK) (Pn:PN),Room k (A.deeper (PyProof.Rows.envOfC qual (zb st) s.heap.objs.size f B))->
   ∃fs,JSs '='.nox Pn [] M fr (zE st) fs/\∀J n R,F Pn J n R->beg J r λD=>fs D n { nx:=λ_ n'=>onC fr False (R (.d .non) n'),rt:=R }):FnOk P w K mg base CX0 (k+1) f fd ps (spV m fr F):=by
 show VM M O U Y λB A outer s H E Pn hr=>?_;obtain⟨fs,h1,h2⟩:=I B A outer s H E Pn hr;show#[fs,h1,λJ n R hl hF=>?_];have:=h2 J n R hF;rw[M3] at this;have e:uN N J=J.map some++List.replicate r none:=by unfold uN;rw[hN,hl,Nat.add_sub_cancel_left]
 grind
def Fun.okW{f:_}(M:AR)(r:Nat)(Fu:Fun K x qual st f fd)(S:FnScope N ps (zb st))(O:m=ps.length)(U:∀i∈M,m<=i)(Y:N.length=m+r)(B:∀I A outer s H E Pn,Room k (A.deeper (PyProof.Rows.envOfC qual (zb st) s.heap.objs.size f I))->
   ∃fs,JSs (Bf CX0 P w K mg base N qual (zb st) f I A outer s H E).nox Pn [] M fr (zE st) fs/\∀J n R,F Pn J n R->beg J r λD=>fs D n { nx:=λ_ n'=>onC fr False (R (.d .non) n'),rt:=R }):FnOk P w K mg base CX0 (k+1) f fd ps (spV m fr F):=M4 M r (λl b=>Fun.okQ Fu S l b) O U Y B
def FunD.okW{f:_}(M:AR)(r:Nat)(Fu:FunD K x qual st f fd)(S:FnScope N ps (zb st))(O:m=ps.length)(U:∀i∈M,m<=i)(Y:N.length=m+r)(B:∀I A outer s H E Pn,Room k (A.deeper (PyProof.Rows.envOfC qual (zb st) s.heap.objs.size f I))->
   ∃fs,JSs (Bf CX0 P w K mg base N qual (zb st) f I A outer s H E).nox Pn [] M fr (zE st) fs/\∀J n R,F Pn J n R->beg J r λD=>fs D n { nx:=λ_ n'=>onC fr False (R (.d .non) n'),rt:=R }):FnOk P w K mg base CX0 (k+1) f fd ps (spV m fr F):=M4 M r (λl b=>FunD.okQ Fu S l b) O U Y B
abbrev dItS (i:Nat):AC:=λD n Q=>onV D i λx=>onS x λl=>Q (l.map W.d) n
def W7{fs:Ms}(h:rep r λD=>fs (a::b::D) n k):fs (a::b::List.replicate r none) n k:=by rw[IP] at h;show h
def len1{st:AG}{x:Dt}(h:st.length<=1000):(st.map Dt.int).length+[x].length<=lim:=by rw[af];show av (by simp;lia:_<=1001) '#'
def cat1{st:AG}{x:Int}:st.map Dt.int++[Dt.int x]=(st++[x]).map Dt.int:=by right
def M5{st:AG}{b x:Int}(B:0<=b)(F:st.length<=1000):uv (st.map Dt.int) none (some b)++[Dt.int x]++uv (st.map Dt.int) (some (b+1)) none=(chg st b x).map Dt.int:=by
 have key:∀z:W,CN (.d (.tup (uv (st.map Dt.int) none (some b)))) (.d (.tup [.int x])) 0 (λw m=>CN w (.d (.tup (uv (st.map Dt.int) (some (b+1)) none))) m λw' _=>w' = .d (stD (chg st b x))):=λz=>Wm B F A5;obtain⟨l,m,I,J,_,O,U,Y,e4,_,h⟩:=key (.d .non);grind
def M6{st:AG}{b:Int}{x:Dt}(B:st.length<=1000):(uv (st.map Dt.int) none (some b)).length+[x].length<=lim:=by have:=Ec (st.map Dt.int) none (some b);rw[af] at this;show av (by simp;lia:_<=1001) '#'
def M7{st:AG}{b c:Int}(B:st.length<=1000):(uv (st.map Dt.int) none (some b)++[x]).length+(uv (st.map Dt.int) (some c) none).length<=lim:=by have h1:=Ec (st.map Dt.int) none (some b);have h2:=Ec (st.map Dt.int) (some c) none;rw[af] at h1 h2;rw[ay];show av (by simp;lia:_<=2001) '#'
def scR (mg:iJ)(ft:Ev->Mo Bool)(U:AD)(O:Ev)(Q:AF->Nat->Prop):AU->Nat->Prop:=λl n1=>∃I:Nat->Ev->Nat->AF->Prop,I 0 O n1 []/\
 (∀i w B J acc,l[i]?=some w->I i B J acc->mg w B λF=>ft F J λb n2=>if b=true then U F n2 λx n3=>∃st,x = .d (stD st)/\I (i+1) F n3 (acc++[st]) else I (i+1) F n2 acc)/\
 (∀i B J acc ks,I i B J acc->List.Nodup ks->(∀z∈ks,z∈acc)->ks.length<300)/\
 ∀ B J acc ks,I l.length B J acc->List.Nodup ks->(∀z,z∈ks↔z∈acc)->Q ks J
abbrev M8 (B:AC)(mg:iJ)(ft:Ev->Mo Bool)(F:AD)(A8:List '0'):AD:=λD n Q=>B D n (scR mg ft F (uy D A8) λks I=>∃m,ks.length<64/\1<=m/\(∀st∈ks,st.length=m)/\∀l':AF,l'.Perm ks->(l'.Pairwise λa b=>HT.lexLt a b=true)->Q (.d (Bh l')) I)
def IQ:NP (Bv P w a xs):=Fa
def W8{ks:AF}(S:Bw P w (upd H acc o) acc ks):NP o/\Mt o:=by obtain⟨xs,h1,_⟩:=S;rw[zg] at h1;cases h1;show#[IQ,A5]
section
variable{pos:Pos}
def W9{P:Aa}{g:TG}{mg:iJ}{ft:Ev->Mo Bool}(hn:(A8.filterMap id).Nodup)(hi:RI Pn M ow wi fi)(hg:RG '(' '(' g mg)(ht:RT Pn '(' ti ft)(he:RE Pn '(' fr' te fe):RE Pn M true (tCB (LS P w) (Cm (Hx P w wi g ti te A8) Cy)) (M8 fi mg ft fe A8):=#[λA G H D n Q R E Pp hf k=>by
 show hi.run A G H D n _ _ E Pp hf λl m J H1 ⟨I,i0,it,ib,ie⟩ iv g1=>λacc O S0=>?_;have E1:=E.stay g1.st;have E2:=(E1.cap hn).more (zq.upd (o:=Bv P w acc []) O) (Fr.of O) zg IQ A5;have P2:y8 Pn '-' m (L2.upd H1 acc (Bv P w acc [])):=g1.pn.grow' (g1.pn.same (yL.upd O)) (Fr.of O) zg IQ A5;have bx:∀k w,k∈zQ M A8->(uy D A8)[k]?=some (some w)->(xw G A8)[k]?≠some (some (.ref acc)):=λk w hk hw z=>by obtain⟨v,s1,_,s3⟩:=(E1.cap hn).val k w hw;obtain⟨a,e,hA,_⟩:=s3 hk;rw[z] at s1;cases s1;cases e;show E1.new O hA
 have key:∀ U B H',EnvR '-' '(' U H' B->(∀k∈zQ M A8,U[k]?=(xw G A8)[k]?/\B[k]?=(uy D A8)[k]?)->∀k w,k∈zQ M A8->B[k]?=some (some w)->U[k]?≠some (some (.ref acc)):=λU B H' E' as k w hk hw z=>by right
 show#[λi mm U H'=>mm=l.length-i/\i<=l.length/\∃ B n' F ks,EnvR '-' '(' U H' B/\y8 Pn '-' n' H'/\I i B n' F/\Bw P w H' acc ks/\(∀z,z∈ks↔z∈F)/\zq (zF A H1) (zF '-' H')/\zq H1 H'/\(∀k∈zQ M A8,U[k]?=(xw G A8)[k]?/\B[k]?=(uy D A8)[k]?),
  #[l.length,by simp,aQ _,_,m,[],[],E2,P2,i0,S0,λ_=>Iff.rfl,yy (zq.upd O) (Fr.of O),zq.upd O,λk hk=>#[A5,A5]],?_]
 rintro i mm U H' ⟨rfl,b0,B,n',F,ks,E',P',hI,hS,hm,st,s1,as⟩;have a2:ks.Nodup:=hS.choose_spec.2.2.2;by_cases a3:i<l.length
 show Or.inr ?_;have an:l[i]?=some l[i]:=am a3;obtain⟨go,yl⟩:=iv.one i l[i] _ H' an st (λ_=>s1) λp hp=>E'.new hp
 show#[go,λa0 H2=>∃ B n' F ks,EnvR '-' '(' a0 H2 B/\y8 Pn '-' n' H2/\I (i+1) B n' F/\Bw P w H2 acc ks/\(∀z,z∈ks↔z∈F)/\zq (zF A H1) (zF '-' H2)/\zq H1 H2/\(∀k∈zQ M A8,a0[k]?=(xw G A8)[k]?/\B[k]?=(uy D A8)[k]?),
  λa0 H2 h=>#[l.length-(i+1),by lia,A5,a3,h],λx H2 hy=>?_]
 obtain⟨S2,V2⟩:=yl x H2 hy;show hg.run _ U H2 B x l[i] _ _ (E'.stay (zq.same S2)) V2 (it i l[i] B n' F an hI) λad Y r3 E3 f3=>?_;have ab:∀k∈zQ M A8,ad[k]?=(xw G A8)[k]?/\Y[k]?=(uy D A8)[k]?:=λk hk=>#[(f3 k hk).1.trans (as k hk).1,(f3 k hk).2.trans (as k hk).2];show ht.run _ ad H2 Y n' _ _ E3 (P'.same S2) r3 λb m3 H4 r4 g4=>?_;have ag:=(zq.same S2).trans g4.st
 cases b with
 | false=>
  rw[if_neg '#'] at r4 ⊢;show#[Y,m3,F,ks,E3.stay g4.st,g4.pn,r4,hS.stay ag,hm,st.trans (zr ag),s1.trans ag,ab]
 | true=>
  rw[if_pos rfl] at r4 ⊢;show he.run _ ad H4 Y m3 _ _ (E3.stay g4.st) g4.pn r4 ?_;rintro w5 m5 v5 H5 ⟨d,e5,r5⟩ V5 g5 _;subst e5;have a1:=ag.trans g5.st;have E5:=(E3.stay g4.st).stay g5.st;obtain⟨b,rfl,hb⟩:=MD V5;show#[b,d,ks,A5,hb,hS.stay a1,ib i B n' F ks hI a2 λz hz=>(hm z).mp hz,λo bc S' bd b1=>?_];obtain⟨np,nt⟩:=W8 S';show#[Y,m5,F++[d],bc,E5.upd (.inr A5) (key ad Y H5 E5 ab) np nt,g5.pn.upd (.inr A5),r5,S',λz=>?_,?_,?_,ab];rw[bd z,aA,ao,hm z,or_comm];rw[zH (.inr A5)];show st.trans (zr a1);show λb o e nn=>by rw[zc (ze e O)];show s1.trans a1 b o e nn
 show Or.inl ?_;have bk:i=l.length:=by lia
 subst bk;show#[iv.stop _ H' st (λ_=>s1),?_];obtain⟨ml,bl,h1,bm,hq⟩:=ie B n' F ks hI a2 hm;show#[acc,ks,ml,A5,hS,bl,h1,bm,λys ac bo hp hu=>λp H3 a4 gp S3=>?_];have bs:=s1.trans (zq.same S3);have a5:Al A H':=E1.al.stay s1;have bt:y8 Pn A n' H3:=(P'.same S3).less λa z=>.inl z;have a7:=a5.stay (zq.same S3);have bb:=bo.stay (zq.same S3);show k _ n' _ H3 (hq ac hp hu) (Val.of #[p,ys,A5,.inl (zv (a5.new a4) gp),CI a7.noT (uQ ac) bb]) (g1.trans #[bs,bt]) λ_=>#[p,A5,((Fr.of a4).back s1).back g1.st,#[_,gp,A5],p,ys,A5,.inl gp,CI (λb xs z e=>?_) (uQ ac) bb];rcases z with z | z;show a7.noT b xs z e;subst z;rw[gp] at e;cases e]
def W_{O:AC}{mg:iJ}{ft:Ev->Mo Bool}{U:AD}{sp:Pos}(F:X.mg "sorted" = none)(hu:X.A.units+1<cLine)(Y:X.calm=true)(cc:CompOk X scope N A8)(hi:JI X Pn M ow tg iter O)(hg:∀C s H ex,JG ')' '(' '(' tg mg)(ht:∀C s H ex,JTs ')' Pn '(' ifs ft)(he:∀C s H ex,JE ')' Pn '(' fr' elt U)(hn:(A8.filterMap id).Nodup:=by ext)(hs:gM iter X:=by intro _;rfl)(I:Gl X "sorted" := by rfl)(B:starEach [.SetComp elt [#[tg,iter,ifs,0]] scope sp] X.env=[(false,eval (.SetComp elt [#[tg,iter,ifs,0]] scope sp) X.env)]:=by rfl)(J:(backTo pos (starEach [] X.env)).any (·.1)=false:=by rfl):
  JE X Pn M true (.Call (.Name "sorted" p) [.SetComp elt [#[tg,iter,ifs,0]] scope sp] [] pos) (M8 O mg ft U A8):=by
 obtain⟨ti,qi,ri⟩:=hi.ex;obtain⟨g,qg,rg⟩:=CQ hg;obtain⟨tt,qt,rt⟩:=CP ht;obtain⟨te,qe,re⟩:=D_ he;show#[_,yr (TV Y) I F eQ (zB (T9 hu Y cc qi qg qt qe hs) yu B) '#' '#' B J,W9 hn ri rg rt re]
end
def Xa{Q:AF->Nat->Prop}(xs:List α)(U:α->W)(hl:l=xs.map U)(J:Ev->Prop)(P:α->Bool)(E:α->AG)(j0:J O)(h:∀a∈xs,∀ F,J F->∀C:Ev->Nat->Option AG->Prop,(∀ {B},P a=true->J B->C B n (some (E a)))->(∀ {B},P a=false->J B->C B n none)->mg (U a) F λB=>ft B n λb n2=>onC b (fe B n2 λx n3=>∃st,x = .d (stD st)/\C B n3 (some st)) (C B n2 none))(ab:∀ks,List.Nodup ks->(∀z∈ks,z∈(xs.filter P).map E)->ks.length<300)(fin:∀ks,List.Nodup ks->(∀z,z∈ks↔z∈(xs.filter P).map E)->Q ks n):scR mg ft fe O Q l n:=by
 subst hl;show#[λi F Y acc=>J F/\Y=n/\acc=((xs.take i).filter P).map E,#[j0,A5,by simp],?_,?_,?_];rintro i w F Y acc hw ⟨hj,rfl,rfl⟩;rw[aF] at hw;obtain⟨a,ha,rfl⟩:=aI.mp hw
 have:=h a (az ha) F hj (λB n3 o=>match o with
  | some d=>J B/\n3=Y/\((xs.take i).filter P).map E++[d]=((xs.take (i+1)).filter P).map E
  | none=>J B/\n3=Y/\((xs.take i).filter P).map E=((xs.take (i+1)).filter P).map E) (λ{B} hp I=>by
   rw[zj ha,dE,aP]
   show#[I,A5,by simp[hp]]) (λ{B} hp I=>by
   rw[zj ha,dE,aP];show#[I,A5,by simp[hp]])
 simp only[Ci] at this;show this;rintro i F Y acc ks ⟨_,rfl,rfl⟩ hn hk;show ab ks hn λz hz=>?_;grind;right
abbrev dGetI (fd fk B:AD):AD:=λD n Q=>fd D n λx n1=>onK x λA7=>fk D n1 λy n2=>B D n2 λz n3=>onO (Fo y) λk=>onI z λi=>Q (.d ((yE A7 k).getD (.int i))) n3
end L3
namespace L2
open PyProof.Rows
end L2
namespace L3
open L2
abbrev dFromL (fa fl fk:AD):AD:=λD n Q=>fa D n λx n1=>onL x λl=>fl D n1 λy n2=>onI y λc=>fk D n2 λz n3=>onI z λk=>(0<=c/\1<=k)/\∀ys:AS,ys.Sublist (l.drop c.toNat)->Q (.d (.lst ys)) n3
def Xb:HO:=.dK [(Sum.inr "at",.non)]
abbrev gone (H:Hp)(a:Addr):Hp:=L2.upd H a Xb
abbrev dGiv (i:Nat)(F:AU->Mo W)(f1 f2:AD):Ms:=λD n k=>f1 D n λw1 m1=>f2 D m1 λw2 m2=>onV D i λw=>F [w1,w2,w] m2 λw' m'=>onC (W.mut w') (onP D i w' λρ'=>k.nx ρ' m') False
end L3
namespace L2
open PyProof.Rows PySem.W PySem.SeqAt
end L2
namespace L3
open L2
abbrev dLenK:AU->Mo W:=λB n Q=>on1 B λx=>onK x λA7=>Q (.d (.int (A7.length:Nat))) n
abbrev dListK:AU->Mo W:=λB n Q=>on1 B λx=>onK x λA7=>∃ns:AG,A7.map (·.1)=ns.map Sum.inl/\Q (.d (.lst (ns.map .int))) n
abbrev dIndex (fo f:AD):AD:=λD n Q=>fo D n λx n1=>onL x λl=>f D n1 λy n2=>onI y λk=>∃ns:AG,l=ns.map .int/\k∈ns/\Q (.d (.int (ns.idxOf k:Nat))) n2
abbrev Z9 (f:AD):AD:=λD n Q=>f D n λx n1=>onL x λl=>∃ns:AG,l=ns.map .int/\ns.Nodup/\ns.length<=1000/\Q (.d (.int (ns.length:Nat))) n1
end L3
namespace L2
def us_1 (h:us.length=1):∃a,us=[a]:=match us,h with | [a],_=>#[a,A5]
def us_2 (h:us.length=2):∃a b,us=[a,b]:=match us,h with | [a,b],_=>#[a,b,A5]
def us_3 (h:us.length=3):∃a b c,us=[a,b,c]:=match us,h with | [a,b,c],_=>#[a,b,c,A5]
def us_4 (h:us.length=4):∃a b c d,us=[a,b,c,d]:=match us,h with | [a,b,c,d],_=>#[a,b,c,d,A5]
open PyProof.Rows PySem.W PySem.Calls
end L2
namespace L3
open L2
section
variable{b:Expr}
abbrev dInB:W->W->Mo W:=λx y n Q=>onB x λb=>onL y λl=>∃bs:List Bool,l=bs.map .bl/\Q (.d (.bl (bs.contains b))) n
end
end L3
namespace L2
open PyProof.Rows PySem.W PySem.Calls
end L2
namespace L3
open L2
abbrev dSAdd (P:Aa)(w:Ab)(i:Nat)(f:AD):Ms:=λD n k=>onV D i λv=>∃ks,v = .ss P w ks/\f D n λx m=>∃st:AG,x = .d (stD st)/\ks.length<300/\
 ∀B:AF,(∀y,y∈B↔y=st\/y∈ks)->B.length<=ks.length+1->B.Nodup->onP D i (.ss P w B) λF=>k.nx F m
abbrev dSortS (P:Aa)(w:Ab):AU->Mo W:=λF n Q=>on1 F λx=>∃ks m,x = .ss P w ks/\ks.length<64/\1<=m/\(∀st∈ks,st.length=m)/\∀B:AF,B.Perm ks->(B.Pairwise λa b=>HT.lexLt a b=true)->Q (.d (Bh B)) n
def M9{p:List α->Prop}(B:p [])(hs:∀l x,p l->p (l++[x]))(l:List α):p l:=by
 have h:∀l:List α,p l.reverse:=λl=>by
  induction l with
  | nil=>show B
  | cons x l F=>rw[en];show hs _ _ F
 have:=h l.reverse;grind
def M_ (a b:List α)(i:Nat)(d:α)(h:i<a.length):(a++b).getD i d=a.getD i d:=by grind
def Xc:∀ {cs:AF} {st:AG},st∈yg cs↔st.length=cs.length/\∀i,i<cs.length->st.getD i 0∈cs.getD i []:=by
 intro cs;show M9 (p:=λcs=>∀ {st:AG},st∈yg cs↔st.length=cs.length/\∀i,i<cs.length->st.getD i 0∈cs.getD i []) ?_ ?_ cs;intro st;simp[yg,List.length_eq_zero_iff];intro cs c J st;rw[yF];unfold ug;rw[fW];constructor;rintro⟨r,O,h⟩;obtain⟨w,U,rfl⟩:=aH.mp h;obtain⟨h1,h2⟩:=J.mp O;show#[by simp[h1],λi hi=>?_];simp at hi;by_cases e:i=cs.length;right;grind;rintro⟨h1,h2⟩;simp at h1;have B:st≠[]:=λz=>by rw[z] at h1;simp at h1
 have I:=bG B;have F:st.dropLast.length=cs.length:=by simp[h1]
 show#[st.dropLast,J.mpr #[F,λi hi=>?_],aH.mpr #[st.getLast B,?_,I]];have:=h2 i (by simp;omega);rw[M_ _ _ _ _ hi] at this;rw[<- I,M_ _ _ _ _ (by omega)] at this;show this;have:=h2 cs.length '$';rw[<- I] at this;have e:(st.dropLast++[st.getLast B]).getD cs.length 0=st.getLast B:=by simp[<- F]
 right
def Xd:∀cs,(∀c∈cs,c.Pairwise (· < ·))->Up' (yg cs):=by
 intro cs;show M9 (p:=λcs=>(∀c∈cs,c.Pairwise (· < ·))->Up' (yg cs)) ?_ ?_ cs;intro _;simp[yg,Up'];intro cs c I h;have J:=h c '$';have I:=I λd O=>h d (by simp[O]);rw[yF];have B:=G5 cs;generalize yg cs=rows at I B;unfold ug Up';rw[fR];constructor;intro r hr;rw[bN];show J.imp λ{a b} F=>?_;show lex_app r F;show (List.Pairwise.and_mem.mp I).imp λ{a b} ⟨U,Y,F⟩=>?_;intro x hx y hy;obtain⟨v,_,rfl⟩:=aH.mp hx;obtain⟨w,_,rfl⟩:=aH.mp hy;show lex_pre ((B a U).trans (B b Y).symm) F
where
 lex_app:∀r {a b:Int},a<b->HT.lexLt (r++[a]) (r++[b])=true
  | [],a,b,h=>by
   change (if a=b then HT.lexLt [] [] else decide (a<b))=true;grind
  | x::r,a,b,h=>by change (if x=x then HT.lexLt (r++[a]) (r++[b]) else decide (x<x))=true;rw[if_pos rfl];show lex_app r h
 lex_pre:∀ {r t:AG} {a b:Int},r.length=t.length->HT.lexLt r t=true->HT.lexLt (r++[a]) (t++[b])=true
  | [],[],_,_,_,h=>by rw[zX] at h;cases h
  | [],_::_,_,_,h,_=>by simp at h
  | _::_,[],_,_,h,_=>by simp at h
  | x::r,y::t,a,b,hl,h=>by
   have h:(if x=y then HT.lexLt r t else decide (x<y))=true:=h;change (if x=y then HT.lexLt (r++[a]) (t++[b]) else decide (x<y))=true;by_cases e:x=y;rw[if_pos e] at h ⊢;show lex_pre (by simpa using hl) h;right
end L3
namespace L3
open L2
def IsP (Pn:PN)(p:Addr):Prop:=∃c ns,Pn=#[some (p,c,ns),J0]
def dc{p:_}{zy:Int}(B:IsP Pn p)(h:∀r,0<=r->r<zy->Q (.d (.int r)) (n+1))(F:n<=1000000:=by lia)(h1:1<=zy:=by lia)(h2:zy<1073741824:=by lia):VU Pn [.pen p,.d (.int zy)] n Q:=let ⟨c,ns,e⟩:=B;#[p,c,ns,zy,e,A5,F,h1,h2,h]
def tc{p:_}(B:IsP Pn p)(h:∀l':AS,l'.Perm l->Q (.d (.lst l')) (n+l.length))(F:n+l.length<=1000000:=by lia)(h1:l.length<=100000:=by lia):Wb Pn [.pen p,.d (.lst l)] n Q:=let ⟨c,ns,e⟩:=B;#[p,c,ns,l,e,A5,F,h1,h]
def Na{m b:Int}:b∈zl m↔0<=b/\b<m:=by
 unfold zl;rw[aH];constructor;rintro⟨k,B,rfl⟩;grind;rintro⟨F,h1⟩;show#[b.toNat,aL.mpr '!',by lia]
end L3
namespace L3
open L2
def IR{st:AG}(h:StOk rm st):st∈yg (rm.map zl):=by
 rw[Xc];have B:=h.len;show#[by grind,λi hi=>?_];rw[af] at hi;have e:(rm.map zl).getD i []=zl (rm.getD i 0):=by simp[hi]
 rw[e,Na];have:=h.box (i:Int) '!' '!';rw[x5,x5] at this;show this
def IS{st:AG}{b x:Int}(h:StOk rm st)(B:0<=b)(O:b<rm.length)(U:0<=x)(Y:x<zy rm b):StOk rm (chg st b x):=by
 have I:=h.len;show#[by rw[GW B '!'];show I,λc F J=>?_];rw[uz B '!' F];split;right;show h.box c F J
end L3
namespace L3
open L2
def lpE (bk:AW)(B:Int)(st:AG):List (Int×Int):=(lpF bk B st).map λr=>(r.getD 0 0,r.getD 1 0)
def Xe (l:List α)(k:Nat):uv l (some (k:Int)) none=l.drop k:=by
 unfold uv
 have h1:HT.sIx l.length 0 (some (k:Int))=min k l.length:=by unfold HT.sIx;simp;try lia
 have h2:HT.sIx l.length l.length none=l.length:=rfl;rw[h1,h2,bz '$'];right
end L3
namespace L3
open L2
end L3
namespace L2
open PyProof.Rows PySem.W PySem.Calls
section
variable{a:Addr}
def Inv.frz{A7:List (AG×V)}(I:'&')(h:H a=some (dtO A7)):∃ob,Inv X A6 G (upd H a (.frz ob (dtO A7))) s:=by obtain⟨z,lo,xs,r,o,es,ep,h1,h2,F,J,O⟩:=(show zJ X.prog X.w H s.heap a (.dT (BS A7)) from I.hok a _ h);show#[o,I.write (x:=a) (e:=a) (h':=s.heap) (t':=s.toks) (by rw[h];trivial) (.inl A5) (λ_ _ _ e=>e) #[o,h1] #[h1,z,lo,xs,Paired.imp' (λp q y=>?_) r,o,es,ep,h1,h2,F,J,O]];obtain⟨U,B,Y⟩:=y;show#[U,by rw[zc (λy=>by rw[y,h] at B;cases B)];show B,Y]
def tFrz (te:TE):TE:=λG H Q=>te G H λx H1=>∃a ks,x = .ref a/\H1 a=some (dtO ks)/\∀ob,Q x (upd H1 a (.frz ob (dtO ks)))
def Xf(h:QE X e te):QE X e (tFrz te):=#[by
 intro A6 s G H Q I q;show thn (h.run A6 s G H _ I q) ?_;rintro v s1 ⟨x,H1,I1,B,a,ks,rfl,F,J⟩;obtain⟨ob,I2⟩:=I1.frz F;show#[_,_,I2,B,J ob]]
end
end L2
namespace L3
open L2
def Xg{p:_}{ks:List (AG×V)}(h:y8 Pn A n H)(hp:H p=some (dtO ks)):y8 Pn A n (L2.upd H p o):=by
 show#[?_,Pn.J.frz h.2 hp (Dl _) A5];have h:=h.1;split at h;trivial;show#[?_,h.2];obtain⟨h1,_⟩:=h;obtain⟨a,l,g1,g2⟩:=h1.ob;show#[#[a,l,by rw[zc λz=>by rw[z,hp] at g1;cases g1];show g1,g2],let ⟨ob,e⟩:=h1.ls;#[ob,by rw[zc λz=>by rw[z,hp] at e;cases e];show e],h1.len]
abbrev onZ (w:W)(P:List (AG×Dt)->Prop):Prop:=match w with | .df i=>P i | _=>False
def Xh{w:_}{P:List (AG×Dt)->Prop}:onZ w P = ∃i,w = .df i/\P i:=propext #[λh=>by cases w <;> first | show False.elim h | show#[_,A5,h],by right]
section
variable{pos:Pos}{a b:Expr}
abbrev dFrz (f:AD):AD:=λD n Q=>f D n λx m=>onE x λA7=>Q (.df A7) m
def Xi (h:JE X Pn M true e f):JE X Pn M false e (dFrz f):=by
 obtain⟨te,q,r⟩:=h.ex;show#[_,Xf q,'7'];show r.run A G H D n _ _ E P hf λw m v H' F hv g Y=>?_;rw[WA] at F;obtain⟨A7,rfl,F⟩:=F;obtain⟨O,e1,B,_,ab,ks,e2,h1,h2⟩:=Y A5;subst e1;cases e2;have nA:=E.newF B;show#[O,ks,A5,h1,λob=>k _ m _ _ F #[O,ob,ks,A5,zv nA zg,h2.stay λb o I J=>?_] #[λb o I J=>?_,?_] λz=>by cases z];obtain⟨U,z2⟩:=zY.mp I;show zv (λy=>U (.inl y)) (by rw[zc λy=>U (.inr y)];show z2);rw[zc λy=>by subst y;show B o I J];show g.st b o I J;show Xg g.pn h1
abbrev dItF (fa:AD):AC:=λD n Q=>fa D n λx m=>onZ x λA7=>(A7.map (·.1)).Nodup->Q (A7.map λq=>W.d (stD q.1)) m
abbrev Xj (fd fk:AD):AD:=λD n Q=>fd D n λx n1=>fk D n1 λy n2=>onZ x λA7=>∃st,y = .d (stD st)/\onO (yE A7 st) λd=>Q (.d d) n2
def Xk{A7:List (AG×Dt)}(h:Bor A H (.df A7) v):∃B ks,v = .ref B/\Rd H B (dtO ks)/\xN (zF A H) A7 ks:=by obtain⟨B,ob,ks,e,h1,h2⟩:=h;show#[B,ks,e,.inr #[ob,h1],h2]
def Bt.z{a b:Addr}{A7:List (AG×V)}{st:AG}(e:Rd H a (dtO A7))(B:H b=some (.tup (st.map V.int))):Bt H a (.ref b) (Be A7 st):=
 .inr #[_,st.map Sum.inl,b,e,A5,by rw[Hw];show B,(Uh A7 st).symm]
def IT (J:X.A.units+1<cLine)(O:JB X Pn M a fa)(U:JB X Pn M b fb)(hs:EB b):JE X Pn M false (.Subscript a b pos) (Xj fa fb):=by obtain⟨ta,Y,ra⟩:=O.ex;obtain⟨tb,qb,rb⟩:=U.ex;show#[_,x9 J Y qb hs,'7'];show ra.run A G H D n _ _ E P hf λw1 m1 v1 H1 r1 b1 g1=>?_;show rb.run A G H1 D m1 _ _ (E.stay g1.st) g1.pn r1 λw2 m2 v2 H2 B b2 g2=>?_;rw[Xh] at B;obtain⟨A7,rfl,st,rfl,B⟩:=B;rw[Dn] at B;obtain⟨d,e3,r⟩:=B;obtain⟨ad,ks,rfl,F,hk⟩:=Xk (b1.stay g2.st);obtain⟨bd,xs,rfl,I,hx⟩:=xH b2;obtain rfl:=hx.of_ints;obtain⟨v,h1,h2⟩:=(hk.look (k:=st)).2 d e3;show#[ad,v,A5,?_,k _ m2 _ H2 r (Val.of h2) (g1.trans g2) λz=>by cases z];rw[<- h1];show Bt.z F I
abbrev dGetFD (fd fk B:AD):AD:=λD n Q=>fd D n λx n1=>onZ x λA7=>fk D n1 λy n2=>B D n2 λz n3=>∃st,y = .d (stD st)/\onD z λi=>Q (.d ((yE A7 st).getD i)) n3
abbrev dDictL:AU->Mo W:=λB n Q=>on1 B λx=>∃A7:List (AG×Dt),x = .d (.lst (A7.map λq=>Dt.tup [stD q.1,q.2]))/\(A7.map (·.1)).Nodup/\A7.length<=lim/\Q (.dt A7) n
end
def Xl(xs:AF)(hl:l=xs.map λi=>W.d (stD i))(J:Ev->Prop)(P:AG->Bool)(E:AG->Dt)(hN:xs.Nodup)(ac:xs.length<=lim)(j0:J O)(h:∀a∈xs,∀ F,J F->∀C:Ev->Nat->Option (AG×Dt)->Prop,(∀ {B},P a=true->J B->C B n (some (a,E a)))->(∀ {B},P a=false->J B->C B n none)->mg (.d (stD a)) F λB=>ft B n λb n2=>onC b (fk B n2 λy n3=>fv B n3 λx Y=>∃j,y = .d (stD j)/\onD x λd=>C B Y (some (j,d))) (C B n2 none))(fin:Q (.dt ((xs.filter P).map λa=>(a,E a))) n):MM mg ft fk fv O Q l n:=by
 subst hl;show#[by right,λi F n' acc=>J F/\n'=n/\acc=((xs.take i).filter P).map λa=>(a,E a),#[j0,A5,A5],?_,?_];rintro i w F n' acc hw ⟨hj,rfl,rfl⟩;rw[aF] at hw;obtain⟨a,U,rfl⟩:=aI.mp hw
 have:=h a (az U) F hj (λB Y o=>match o with
  | some q=>J B/\Y=n'/\Bp (((xs.take i).filter P).map λa=>(a,E a)) q.1 q.2=((xs.take (i+1)).filter P).map λa=>(a,E a)
  | none=>J B/\Y=n'/\(((xs.take i).filter P).map λa=>(a,E a))=((xs.take (i+1)).filter P).map λa=>(a,E a)) (λ{B} hp I=>by
   show#[I,A5,?_];have hn:((((xs.take i).filter P).map λa=>(a,E a)).any λkv=>decide (kv.1=a))=false:=by rw[List.any_eq_false];intro kv ab z;obtain⟨b,hb,rfl⟩:=aH.mp ab;have e:b=a:=be z;subst e;obtain⟨j,hj,e2⟩:=cE.mp (bK.mp hb).1;rw[bi] at hj;rw[ii] at e2;have e3:=(ai.mp U).2;rw[<- e3] at e2;have:=(dh hN).mp e2;lia
   unfold Bp;rw[hn,if_neg '#',zj U,dE,aP]
   simp[hp]) (λ{B} hp I=>by
   show#[I,A5,?_];rw[zj U,dE,aP];simp[hp])
 simp only[Ci,xD] at this;grind;grind
abbrev lpD (bk:AW)(b:Int)(st:AG):Dt:=.lst ((lpE bk b st).map yp)
abbrev rowD (rm:AG)(bk:AW)(st:AG):Dt:=.lst ((List.range rm.length).map λb:Nat=>lpD bk (b:Int) st)
def Nb{l:AF}(h:Up' l):l.Nodup:=h.imp λh e=>by subst e;rw[zX] at h;cases h
def FK (rm:AG):(yg (rm.map zl)).Nodup:=Nb (Xd _ λc B=>by obtain⟨m,_,rfl⟩:=aH.mp B;unfold zl;rw[bN];show List.pairwise_lt_range.imp λh=>by lia)
def Xm (B:RoomOk rm):(yg (rm.map zl)).length<=65536:=by
 have:=MJ B.few B.box rm.length;right
def GU{g:List (Int×Int)}(h:Giv rm g):g.length<=rm.length:=by
 have:=Hz (l:=g.map (·.1)) (l':=zl rm.length) (bN.mpr (h.up.imp λh e=>by lia)) λx B=>by obtain⟨q,F,rfl⟩:=aH.mp B;have:=h.ok q F;show Na.mpr #[this.1,this.2.1]
 rw[af,xS] at this;lia
structure CS (Pn:PN)(A:AL)(acc:Addr)(H1:Hp)(cM:AR)(σc:St)(ρc:Ev)(G:St)(H:Hp)(D:Ev)(n:Nat)(ds:AS):Prop where
 env:EnvR (λb=>A b\/b=acc) cM G H D
 pn:y8 Pn (λb=>A b\/b=acc) n H
 ac:∃xs,H acc=some (.lst xs)/\IsL (zF (λb=>A b\/b=acc) H) ds xs
 st:zq (zF A H1) (zF (λb=>A b\/b=acc) H)
 s1:zq H1 H
 fx:∀k∈cM,G[k]?=σc[k]?/\D[k]?=ρc[k]?
section
variable{A:AL}{m:Nat}{ds:AS}
def CS.go (c:CS Pn A acc H1 cM σc ρc G H D n ds)(s:zq H H')(p:y8 Pn '-' m H'):CS Pn A acc H1 cM σc ρc G H' D m ds:=
 #[c.env.stay s,p,let ⟨xs,h1,h2⟩:=c.ac;#[xs,s.lst h1,h2.stay (zr s)],c.st.trans (zr s),c.s1.trans s,c.fx]
def inR (mg:iJ)(ft:Ev->Mo Bool)(O:AD)(F:Ev)(J:AS)(K:Ev->Nat->AS->Prop):AU->Nat->Prop:=λl n1=>∃I:Nat->Ev->Nat->AS->Prop,I 0 F n1 J/\
 (∀i w D n ds,l[i]?=some w->I i D n ds->mg w D λB=>ft B n λb n2=>if b=true then O B n2 λx n3=>∃d,x = .d d/\ds.length<=lim/\I (i+1) B n3 (ds++[d]) else I (i+1) B n2 ds)/\
 ∀ D n ds,I l.length D n ds->K D n ds
def Xn (mg:iJ)(ft:Ev->Mo Bool)(F:AC)(J:iJ)(O:Ev->Mo Bool)(Y:AD)(U:Ev)(Q:AV):AU->Nat->Prop:=λl n1=>∃I:Nat->Ev->Nat->AS->Prop,I 0 U n1 []/\
 (∀i w D n ds,l[i]?=some w->I i D n ds->mg w D λB=>ft B n λb n2=>if b=true then F B n2 (inR J O Y B ds (I (i+1))) else I (i+1) B n2 ds)/\
 ∀ D n ds,I l.length D n ds->Q (.d (.lst ds)) n
abbrev mComp2 (J:AC)(mg:iJ)(ft:Ev->Mo Bool)(B:AC)(F:iJ)(I:Ev->Mo Bool)(O:AD)(A8:List '0'):AD:=λD n Q=>J D n (Xn mg ft B F I O (uy D A8) Q)
def Nc(h:∀C s H ex,JI ')' Pn M ow tg e B):∃te,(∀C s H ex,QI ')' tg e te)/\RI Pn M ow te B:=
 #[λG H Q=>∀C s H0 ex,(h C s H0 ex).ex.choose G H Q,λC s H0 ex=>#[λA6 s' G H Q I z=>(h C s H0 ex).ex.choose_spec.1.run A6 s' G H Q I (z C s H0 ex)],
  #[λA G H D n Q R E P hf k C s H0 ex=>(h C s H0 ex).ex.choose_spec.2.run A G H D n Q R E P hf k]]
end
end L3
namespace L2
open PyProof.Rows PySem.W PySem.Calls
end L2
namespace L3
open L2
abbrev onY (w:W)(P:List (Key×Dt)->Prop):Prop:=match w with | .kf i=>P i | _=>False
abbrev dFrzK (f:AD):AD:=λD n Q=>f D n λx m=>onK x λA7=>Q (.kf A7) m
abbrev dItK (fa:AD):AC:=λD n Q=>fa D n λx m=>onY x λA7=>∃ns:AG,A7.map (·.1)=ns.map Sum.inl/\Q (ns.map λi=>W.d (.int i)) m
abbrev dGetY (fd fk:AD):AD:=λD n Q=>fd D n λx n1=>fk D n1 λy n2=>onY x λA7=>onI y λi=>onO (yE A7 (Sum.inl i)) λd=>Q (.d d) n2
abbrev dListY:AU->Mo W:=λB n Q=>on1 B λx=>onY x λA7=>∃ns:AG,A7.map (·.1)=ns.map Sum.inl/\Q (.d (.lst (ns.map .int))) n
abbrev dRetT (f:AD)(i:Nat):Ms:=λD n k=>f D n λw m=>onD w λd=>onV D i λx=>onL x λl=>k.rt (.d (.tup [d,.lst l])) m
end L3
namespace L2
open PyProof.Rows PySem.SeqAt
end L2
namespace L3
open L2
section
variable{pos:Pos}{a b:Expr}
abbrev dAug (F:Int->Int->Int)(i:Nat)(f:AD):Ms:=λD n k=>onV D i λx=>onI x λa=>f D n λy m=>onI y λb=>onP D i (.d (.int (F a b))) λB=>k.nx B m
abbrev dAugT (F:Int->Int->Int)(i:Nat)(fk f:AD):Ms:=λD n k=>onV D i λx=>onE x λA7=>fk D n λy m=>∃st,y = .d (stD st)/\∃a,yE A7 st=some (.int a)/\f D m λw I=>onI w λb=>A7.length<lim/\onP D i (.dt (Bp A7 st (.int (F a b)))) λB=>k.nx B I
abbrev dSetL (P:Aa)(w:Ab):AU->Mo W:=λB n Q=>on1 B λx=>∃A9:AF,x = .d (.lst (A9.map stD))/\(∀ks:AF,ks.Nodup->(∀z∈ks,z∈A9)->ks.length<300)/\∀ks:AF,ks.Nodup->(∀st,st∈ks↔st∈A9)->Q (.ss P w ks) n
abbrev dInS (P:Aa)(w:Ab):W->W->Mo W:=λx y n Q=>∃st ks,x = .d (stD st)/\y = .ss P w ks/\∀c:Bool,(c=true↔st∈ks)->Q (.d (.bl c)) n
abbrev dItEF (fa:AC):AC:=λD n Q=>fa D n λB m=>on1 B λx=>onZ x λA7=>(A7.map (·.1)).Nodup->Q (enW 0 ((A7.map (·.1)).map stD)) m
abbrev Z_ (fo f:AD):AD:=λD n Q=>fo D n λx n1=>onL x λl=>f D n1 λy n2=>onD y λd=>d.eqOk/\(Dt.lst l).eqOk/\d∈l/\∀j:Nat,l[j]?=some d->(∀i,i<j->l[i]?≠some d)->Q (.d (.int j)) n2
abbrev snN:AU->(AU->Prop)->Prop
 | [],P=>P [.d .non]
 | a::r,P=>snN r λB=>P (a::B)
theorem Nd:∀ {B:AU} {P:AU->Prop},snN B P=P (B++[.d .non])
 | [],P=>rfl
 | a::r,P=>by rw[snN,Nd];rfl
theorem Bd.non:∀ {B:AU} {vs:AT},Bd A H B vs->Bd A H (B++[.d .non]) (vs++[.non])
 | [],_,h=>by cases h;show#[_,_,A5,Val.of A5,A5]
 | _::_,_,⟨v,r,e,h1,h2⟩=>by subst e;show#[v,_,A5,h1,Bd.non h2]
abbrev dFnD (k:Nat)(F:AU->Mo W)(fs:AC):AD:=λD n Q=>fs D n λB m=>snN B λus=>BU k us (F us m Q)
def Xo(BB:DfnD X.K X.mg x st ps [Value.none] fA fd)(BA:FnOk X.prog X.w X.K X.mg X.base CX0 j fA fd ps (spV k fr F))(O:Room kk X.A)(U:JA X Pn M (e::es) fs)(B:j<=kk:=by ext)(Y:Gl X x:=by rfl)(I:Ah x:=by ext)(he:gy e es X:=by rfl)(J:iI pos es X:=by rfl):
  JE X Pn M fr '<' (dFnD k (F Pn) fs):=by
 obtain⟨ta,qa,ra⟩:=U.ex;show#[_,Ua (dv:=[.non]) BB (.cons A5 .nil) BA O qa B Y I he J,#[λA G H D n Q R E P hf kk=>?_]];show ra.run A G H D n _ _ E P hf λws m vs H1 h b g=>?_;rw[Nd,FD] at h;show#[Pn,A,_,m,R,(E.stay g.st).al,b.non,h.1,g.pn,h.2,λw m' v H' h1 h2 h3 h4=>kk w m' v H' h1 h2 (g.trans h3) λz=>(h4 z).back g.st]
end
end L3
namespace L2
open PyProof.Rows
section
variable{l:Addr}
def Inv.frzL(I:'&')(h:H l=some '+'):∃ob,Inv X A6 G (upd H l (.frz ob '+')) s:=by obtain⟨z,B,n,r,e⟩:=(show zJ X.prog X.w H s.heap l '+' from I.hok l _ h);show#[_,I.write (x:=l) (e:=l) (h':=s.heap) (t':=s.toks) (by rw[h];trivial) (.inl A5) (λ_ _ _ e=>e) #[_,e] #[e,z,B,n,r,e]]
def Xp (te:TE):TE:=λG H Q=>te G H λx H1=>∃l xs,x = .ref l/\H1 l=some '+'/\∀ob,Q x (upd H1 l (.frz ob '+'))
def Xq (h:PE X e te):PE X e (Xp te):=λA6 s G H Q I q=>thn (h A6 s G H _ I q) λu s1 ⟨x,H1,I1,r,l,xs,ex,h1,B⟩=>by obtain⟨ob,I2⟩:=I1.frzL h1;show#[x,_,I2,r,B ob]
end
end L2
namespace L3
open L2
def Xr(h:∃h:Heap,h.get? d=some ob):¬ NP (kO d ob):=λn=>by have:=n [(Sum.inr "at",.non)] (by unfold kO pnK;dsimp only;rw[if_pos #[d,ob,h,A5]]);cases this
end L3
namespace L2
open PyProof.Rows PySem.SeqAt
end L2
namespace L3
open L2
abbrev W.isD:W->Bool
 | .d _=>true
 | _=>false
abbrev onFl (w:W)(P:AS->Prop):Prop:=match w with | .fl i=>P i | _=>False
abbrev dInF (B:Bool):W->W->Mo W:=λx y n Q=>onD x λd=>onFl y λds=>d.eqOk/\(Dt.lst ds).eqOk/\∀b:Bool,(b=true↔d∈ds)->Q (.d (.bl (xr B b))) n
end L3
namespace L2
open PyProof.Rows PySem.SeqAt
def okT:Nat->Dt->Bool
 | _,.non=>true
 | _,.int _=>true
 | _,.bl _=>true
 | _,.str x=>PyData.strOk x
 | n+1,.tup l=>l.all (okT n)
 | n+1,.lst l=>l.all (okT n)
 | _,_=>false
abbrev Dt.py (d:Dt):PyData:=PySem.W.kqdP d.toW
end L2
namespace L3
open L2
abbrev dNeT:W->W->Mo W:=λx y n Q=>onD x λd=>onD y λe=>d=e/\okT 8 d=true/\Q (.d (.bl false)) n
abbrev dNiT:W->W->Mo W:=λx y n Q=>onD x λd=>onL y λds=>okT 8 d=true/\(Dt.lst ds).eqOk/\∀b:Bool,(d∈ds->b=true)->(b=true->∃e∈ds,PyData.eqv e.py d.py=true)->Q (.d (.bl (!b))) n
abbrev a_ (f:AD):AD:=λD n Q=>f D n λx n1=>onL x λl=>∃A9:AF,l=A9.map stD/\(∀ks:AF,ks.Nodup->(∀z∈ks,z∈A9)->ks.length<300)/\∀ks:AF,ks.Nodup->(∀st,st∈ks↔st∈A9)->Q (.d (.int (ks.length:Nat))) n1
end L3
namespace L2
open PyProof.Rows
end L2
namespace L3
open L2
abbrev dMaxT:AU->Mo W:=λB n Q=>on1 B λx=>∃ns:AG,x = .d (stD ns)/\ns≠[]/\∀m,m∈ns->(∀x∈ns,x<=m)->Q (.d (.int m)) n
end L3
namespace L2
open PyProof.Rows
end L2
namespace L3
open L2
end L3
namespace L2
open PyProof.Rows PySem.W PySem.SeqAt
end L2
namespace L3
open L2
abbrev mRem (i:Nat)(fk:AD):Ms:=λD n k=>onV D i λv=>onL v λl=>fk D n λy m=>onI y λj=>∃ns:AG,l=ns.map Dt.int/\j∈ns/\onP D i (.d (lsD (ns.erase j))) λB=>k.nx B m
end L3
namespace L3
open L2
end L3
namespace L2
open PyProof.Rows PySem.W PySem.Calls
end L2
namespace L3
open L2
section
variable{a b:Expr}
abbrev dDisp1 (fk fv:AD):AD:=λD n Q=>fk D n λy m=>fv D m λx B=>∃st,y = .d (stD st)/\onD x λd=>Q (.dt [(st,d)]) B
abbrev dNinT (fk fd:AD):AD:=λD n Q=>fk D n λy n1=>fd D n1 λx n2=>onE x λA7=>∃st,y = .d (stD st)/\Q (.d (.bl (!(yE A7 st).isSome))) n2
abbrev dSortZ:AU->Mo W:=λF n Q=>on1 F λx=>onZ x λA7=>∃m:Nat,A7.length<64/\1<=m/\(∀q∈A7,q.1.length=m)/\∀B:AF,B.Perm (A7.map (·.1))->(B.Pairwise λa b=>HT.lexLt a b=true)->Q (.d (Bh B)) n
abbrev dRetZ (i:Nat)(f:AD):Ms:=λD n k=>onV D i λx=>onE x λA7=>f D n λw m=>onD w λd=>k.rt (.tz A7 d) m
abbrev dIxZ:W->W->Mo W:=λx y n Q=>match x with
 | .tz A7 d=>match y with
  | .d (.int i)=>match i with
   | .ofNat 0=>Q (.df A7) n
   | .ofNat 1=>Q (.d d) n
   | _=>False
  | _=>False
 | _=>False
abbrev dForP (i:Nat)(F:AU->Mo W)(f1 f3:AD)(mg:iJ)(fs:Ms):Ms:=λD n k=>f1 D n λw1 B=>onV D i λx=>onL x λl=>∃l' d,l=l'++[d]/\f3 (D.set i (some (.d (.lst l')))) B λw3 I=>F [w1,.d d,w3] I λw m=>onL w λr=>CU mg fs (D.set i (some (.d (.lst l')))) k (r.map W.d) m
abbrev dGetK (fd fk B:AD):AD:=λD n Q=>fd D n λx n1=>onK x λA7=>fk D n1 λy n2=>B D n2 λz n3=>onO (Fo y) λk=>onD z λd=>Q (.d ((yE A7 k).getD d)) n3
end
end L3
namespace L2
open PyProof.Rows PySem.W PySem.Calls
end L2
namespace L3
open L2
abbrev dSetZ (i j:Nat)(f:AD):Ms:=λD n k=>f D n λw m=>match w with
 | .tz A7 d=>onP D i (.df A7) λB=>onP B j (.d d) λF=>k.nx F m
 | _=>False
abbrev bI:W->W->Mo W:=λx y n Q=>onB x λb=>onL y λl=>∃bs:List Bool,l=bs.map .bl/\Q (.d (.bl (!bs.contains b))) n
end L3
namespace L2
open PyProof.Rows PySem.W PySem.Calls
end L2
namespace L3
open L2
abbrev dNinS (P:Aa)(w:Ab):W->W->Mo W:=λx y n Q=>∃st ks,x = .d (stD st)/\y = .ss P w ks/\∀c:Bool,(c=true↔st∈ks)->Q (.d (.bl (!c))) n
abbrev eTpL (n:Nat)(u:AS->Ev->(Ev->Prop)->Prop):iJ:=λw D Q=>onL w λds=>BU n ds (u ds D Q)
abbrev mRel (j:Nat)(fs:Ms):Ms:=λD n k=>onV D j λ_=>fs D n { rt:=k.rt,nx:=λ_ _=>False }
abbrev mNo:Ms:=λ_ _ _=>False
def Xs:JS X Pn S M fr st mNo:=#[λ_ _ _=>False,#[λ_ _ _ _ _ _ h=>h.elim],#[λ_ _ _ _ _ _ _ _ _ _ h=>h]]
end L3
namespace L2
open PyProof.Rows PySem.W PySem.Calls
section
variable{A:Ae}
def Xt(ho:s.heap.get? l=some o)(hc:o.cls = .type "tuple")(hd:o.data = .seq vs.toArray n)(hsz:vs.length<=sizeLine)(h:∀h':Heap,(∀b o,s.heap.get? b=some o->h'.get? b=some o)->Q vs '1'):Ag prog w A (collect (.ref l)) Q E s:=by
 unfold collect;show aa (wpAny_runValue (codeAny_builtin entry_proto_collect' ?_));show aa (ir (ae #[Code.quiet_builtin _ '6',codeAny_builtin entry_list_iadd' ?_]));change wpAny _ _ (Builtin.List.listExtendWith (.ref s.heap.objs.size) (.ref l) (.ref s.heap.objs.size)) _ _ { s with heap:=s.heap.push (seqObj "list" #v[] 0) };unfold Builtin.List.listExtendWith;have ho':(s.heap.push (seqObj "list" #v[] 0)).get? l=some o:=ah _ ho;show aa (dC (T := "tuple") #[o,ho',hc] ?_);have ht:(Value.type "tuple" == Value.type "tuple")=true:=by rfl
 rw[if_pos (by rw[ht];simp)];show aa (iF ho' hd ?_);show aa (iF (xs:=#v[]) (n:=0) (ar _ A5) A5 ?_);rw[if_neg '$'];show aa (gh (xs:=#v[]) (n:=0) (ar _ A5) A5 ?_ (aQ _) (by change (#v[]++vs.toArray).size<=sizeLine+1;simp only[Array.size_append,aU,List.length_nil];omega));show ae ?_
 show aa (wpAny_load (get?_update_seq (ar _ A5) _) ?_);change wpAny _ _ (pure ((#v[]:AK)++vs.toArray).toList) Q E _;rw[show ((#v[]:AK)++vs.toArray).toList=vs by simp];show ae (h _ λb o e=>((bn _ s.heap.objs.size _).2 b (aY (aw e))).trans (ah _ e))
end
end L2
namespace L3
open L2
abbrev dSortP:AU->Mo W:=λF n Q=>on1 F λx=>onT x λl=>∃A9 m,l=A9.map stD/\A9.length<64/\1<=m/\(∀st∈A9,st.length=m)/\A9.Nodup/\∀B:AF,B.Perm A9->(B.Pairwise λa b=>HT.lexLt a b=true)->Q (.d (Bh B)) n
end L3
namespace L2
open PyProof.Rows
structure Fly (P:Aa)(w:Ab)(C:Addr)(outer:List Env)(H:Hp)(s:AZ)(e:Addr)(H':Hp)(s':AZ):Prop where
 os:s'.os=s.os
 bare:AllBare s'.gens
 un:Un (frs outer) [] H H' s.heap s'.heap
 hok:HOk P w H' s'.heap
 fly:∃B a0,Heap.FlyingW B outer e (.ref C) a0 s'.heap/\(∀b o,s.heap.get? b=some o->b∉frs outer->∃o',B.get? b=some o')/\∀b u,H' b=some u->∃o',B.get? b=some o'
def CX1 (P:Aa)(w:Ab)(C:Addr):CXT:=λouter H s E e s'=>∃B H',e = .ref B/\Fly P w C outer H s B H' s'/\E (.ref B) none H'
structure FrX (C:Addr)(E:XK)(X:Cx):Prop where
 stk:X.stack=X.env::X.outer
 frm:X.env.frame=some X.env.locals
 ex:X.ex=[]
 xe:X.xe=λe s'=>Af X (leaving X.env e) (λ_ s''=>CX1 X.prog X.w C X.outer X.H₀ X.s₀ E e s'') (λe' s''=>CX1 X.prog X.w C X.outer X.H₀ X.s₀ E e' s'') s'
section
variable{E:XK}
def zJ.there(x:zJ P w H h a o):∃u,h.get? a=some u:=by
 cases o with
 | lst xs=>obtain⟨_,_,_,_,e⟩:=x;show#[_,e]
 | tup xs=>obtain⟨_,_,_,_,e,_⟩:=x;show#[_,e]
 | dK A7=>obtain⟨_,_,_,_,o,_,_,e,_⟩:=x;show#[_,e]
 | dT A7=>obtain⟨_,_,_,_,o,_,_,e,_⟩:=x;show#[_,e]
 | set S n=>obtain⟨o,_,_,_,e,_⟩:=x;show#[_,e]
 | ins C dx fs=>obtain⟨_,_,_,e,_⟩:=x;show#[_,e]
 | own y=>show x
 | xd fs=>obtain⟨_,⟨_,_,_,e,_⟩,_⟩:=x;show#[_,e]
 | rng lo hi=>obtain⟨_,_,_,e⟩:=x;show#[_,e]
 | frz ob u=>show#[_,x.1]
 | tbl ps=>show#[_,show h.get? a=some _ from x]
 | met f y=>show#[_,show h.get? a=some _ from x]
 | ext B=>show x.2.1
def IU{B O:Heap}(I:'&')(ab:X.ex=[])(U:∀b o,X.s₀.heap.get? b=some o->b∉X.fs->∃o',B.get? b=some o')(Y:∀b u,H b=some u->∃o',B.get? b=some o')(b1:B.StaysIn s.heap)(b2:B.StaysIn O)(sm:s.heap.UpToSlots O):Un X.fs [] X.H₀ H X.s₀.heap O/\HOk X.prog X.w H O:=by
 have nx:∀b:Addr,b∉X.ex:=λb z=>by rw[ab] at z;cases z
 have F:∀ {b o o'},B.get? b=some o'->s.heap.get? b=some o->O.get? b=some o:=λ{b o o'} e1 e2=>by have:=b1 b o' e1;rw[e2] at this;cases this;show b2 b o e1
 have fr:∀ {b o},s.heap.get? b=some o->b∈X.fs->∃sl,O.get? b=some { o with slots:=sl }:=λ{b o} e J=>by obtain⟨_,u,hu,hd⟩:=I.funs.mem J;rw[e] at hu;cases hu;show sm b o e hd
 show#[#[λb o e n J _=>?_,λb o e n J _=>?_,λb o e n _=>I.base.free b o e n (nx b),λb o e _=>?_,I.base.tups,I.base.frzs,I.base.tbls],λa o e=>?_];obtain⟨o',h1⟩:=U b o e J;show F h1 (I.base.keep b o e n J (nx b));obtain⟨sl,h1⟩:=I.base.slot b o e n J (nx b);obtain⟨ac,h2⟩:=fr h1 J;show#[ac,h2];obtain⟨o',h1⟩:=I.base.there b o e (nx b);by_cases J:b∈X.fs;obtain⟨sl,h2⟩:=fr h1 J;show#[_,h2];obtain⟨o2,h2⟩:=U b o e J;show#[_,F h2 h1];show (I.hok a o e).stay (λb u J q=>?_) (λ_ q=>q) λ_ _ q=>q;rcases J with rfl | J;obtain⟨o2,h2⟩:=Y b o e;show F h2 q;obtain⟨o2,h2⟩:=Y b _ J;show F h2 q
def FrX.nolc(F:FrX C E X)(I:'&')(e:X.s₀.heap.get? b=some o)(B:b∉X.fs):b∉frs X.stack:=λz=>by
 rw[F.stk] at z;unfold frs at z;rw[bv,F.frm] at z;rcases au.mp z with q | q;have:=aw e;rw[q] at this;show absurd (aT this I.ok.above) (cI _);show B q
def FrX.pass (F:FrX C E X):Ey (CX1 X.prog X.w C) X E:=by
 rintro A6 G H s e s' I ⟨ea,H',rfl,fl,hE⟩;rw[F.xe];have I':Inv X A6 G H' s':=I.call' (ch:=[]) fl.os fl.un fl.hok fl.bare λb z=>by cases z
 obtain⟨B,a0,U,c1,Y⟩:=fl.fly;show wpAny_leaves_onW (base:=B) (by rw[I.ok.frames,F.stk]) F.frm (by rw[<- F.stk];show U) λab O sm=>?_;have J:∀b o,X.s₀.heap.get? b=some o->b∉X.fs->∃o',B.get? b=some o':=λb o e hb=>by obtain⟨o',h1⟩:=I.base.there b o e (by rw[F.ex];show λz=>by cases z);show c1 b o' h1 (F.nolc I e hb)
 obtain⟨u,k⟩:=IU I' F.ex J Y U.1 O.1 sm;show#[ea,H',A5,#[I'.os,I'.bare,u,k,B,a0,O,J,Y],hE]
def FrX.raised{e:_}(F:FrX C E X)(I:'&')(O:Heap.MadeExcOf s.heap h' e (.ref C) vs)(hE:E (.ref e) none H):X.xe (.ref e) '1':=by
 rw[F.xe];have I':Inv X A6 G H '1':=I.kept (t':=s.toks) O.keeps;have st:=I.stack;rw[F.stk] at st;have U:∀env∈X.env::X.outer,∀a,env.frame=some a->a∈frs X.stack:=λenv he a ha=>by rw[F.stk];show dw.mpr #[env,he,ha]
 show wpAny_leaves_madeW (base:=PySem.W.hideAll s.heap (frs X.stack)) (h:=s.heap) (by rw[I.ok.frames,F.stk]) F.frm (λb o q=>gK _ q) (PySem.W.funFrames_hide st U) O λab t Y _ _ sm=>?_;have B:∀b o,X.s₀.heap.get? b=some o->b∉X.fs->∃o',(PySem.W.hideAll s.heap (frs X.stack)).get? b=some o':=λb o q hb=>by obtain⟨o',h1⟩:=I.base.there b o q (by rw[F.ex];show λz=>by cases z);show#[o',gn _ h1 (F.nolc I q hb)]
 have J:∀b u,H b=some u->∃o',(PySem.W.hideAll s.heap (frs X.stack)).get? b=some o':=λb u q=>by obtain⟨o',h1⟩:=(I.hok b u q).there;show#[o',gn _ h1 λz=>by rw[I.stkFree b z] at q;cases q]
 obtain⟨u,k⟩:=IU I' F.ex B J (λb o q=>O.keeps b o (gK _ q)) Y.1 sm;show#[e,H,A5,#[I'.os,I'.bare,u,k,_,_,Y,B,J],hE]
end
def IV{P:Aa}{mg:AI}{f:Addr}{B:Value}{A:Ae}{E:XK}:
  FrX C E (Bf (CX1 P w C) P w K mg base N qual scope f B A outer s H E):=#[A5,A5,A5,A5]
abbrev VE:AN:=[.type "ValueError",.type "Exception",.type "BaseException",.type "object"]
structure ExcC (K:AH)(mg:AI)(x:Str)(C:Addr):Prop where
 bound:mg x=some (.ref C)
 exc:PySem.W.excIn K C VE "ValueError.__new__" = true
def ExcC.own{mg:AI}{x:Str}(c:ExcC K mg x C)(X:K.In h):OwnCls x C VE "ValueError.__new__" mg h:=by
 have q:=c.exc;show#[c.bound,?_];unfold PySem.W.excIn at q;split at q
 case h_2=>cases q
 case h_1 dd cd sl ho=>
  split at q
  case h_2=>cases q
  case h_1 C' bm k0 k1 k2 k3 n k5 hm hs=>
   simp only[aO,iH,eu] at q;obtain⟨⟨⟨⟨⟨J,O⟩,F⟩,U⟩,B⟩,I⟩:=q;subst J O
   cases cd with
   | mk nm bs Y ns qn hd sn sub ab col ac=>
    subst hm F
    cases sl with
    | mk l=>
     subst hs;show#[bm,ns,nm,qn,bs,hd,sn,sub,ab,col,dd,k0,k1,k2,k3,k5,_,X _ _ ho,.of_isNs (PySem.W.isNs_of_in X B),PySem.W.nsMap_none_of_in X B I,PySem.W.tail_of_in X U]
section
variable{E:XK}{x m:Str}{pos:Pos}
def Xu{j}(F:FrX C E X)(Y:X.A.handled=none)(c:ExcC X.K X.mg x C)(hg:Gl X x)(O:Ah x:=by ext):
  PS X (.Raise (some (.Call (.Name x np) [.Constant (.str m) j p1] [] cpos)) none pos) (λ_ _ H=>∀e,E (.ref e) none H):=by
 intro A6 s G H BB I h;obtain⟨tl,N,nm,q,bs,hdct,sn,sub,ab,col,dd,k0,k1,k2,k3,k5,mN,hC,hN,U,T⟩:=(c.own I.ok.mod.kin).obj;have kp:∀ {B:AZ},Inv X A6 G H B->B.heap.get? C=some _/\B.heap.Ns N mN/\OwnTail B.heap VE tl:=λJ=>#[J.bk _ _ hC,hN.keeps J.bk,T.keeps J.bk]
 show wpAny_Raise_call_subT (C:=C) (nm:=nm) (q:=q) (N:=N) (bs:=bs) (bm:=tl) (hdct:=hdct) (sn:=sn) (sub:=sub) (ab:=ab) (col:=col) (dd:=dd) (k0:=k0) (k1:=k1) (k2:=k2) (k3:=k3) (k5:=k5)
  PySem.F.excBase_ValueError (mN:=mN) (T.hasType PySem.F.excBase_ValueError.hasBase) Y A5 U (Er I hg c.bound #[A5,?_] O)
 show @Calls.evalArgs_plain _ _ _ _ _ _ [] _ (gL (Calls.Constant_str (k:=j) (pos:=p1) (fH ?_)));have J:Inv X A6 G H { s with toks:=s.toks+1 }:=I.tok _;show#[A5,by change 1<=sizeLine;decide,(kp J).1,(kp J).2.1,(kp J).2.2,λh' e hx=>F.raised J hx (h e)]
end
structure ExcI (K:AH)(C:Addr):Prop where
 exc:PySem.W.excIn K C VE "ValueError.__new__" = true
 ga:PySem.W.findIn K (.ref C) "__getattribute__" = some (some (.builtin "BaseException.__getattribute__"))
 gt:PySem.W.findIn K (.ref C) "__getattr__" = some none
 cl:PySem.W.findIn K (.ref C) "__class__" = some (some (.builtin "object.__class__"))
section
variable{A:Ae}{a:Addr}{o:Obj}{hp:Heap}{gs:Array GenState}{tk:Nat}
def Xv(c:ExcI K C)(X:K.In hp)(I:hp.get? a=some o)(J:o.cls = .ref C)(hr:R (.ok (.ret (.ref C))) #[hp,gs,dr,tk,oS]):
  codeAny '/' A (.call (.builtin "getset_descriptor.__get__") #[[.builtin "object.__class__",.ref a,.ref C],[]]) R #[hp,gs,dr,tk,oS]:=by
 obtain⟨tl,N,nm,q,bs,hdct,sn,sub,ab,col,dd,k0,k1,k2,k3,k5,mN,O,hN,U,T⟩:=(ExcC.own (mg:=λ_=>some (.ref C)) (x := "x") #[A5,c.exc] X).obj;have Y:(#[hp,gs,dr,tk,oS]:AZ).TypeIs (.builtin "object.__class__") "getset_descriptor" := eh;have B:(Value.ref C::tl).contains (.type (".".intercalate ("object.__class__".cutAt '.').dropLast))=true:=by rw[show (".".intercalate ("object.__class__".cutAt '.').dropLast) = "object" by decide +kernel,eW,T.hasType (b:=true) '6'];rfl
 show codeAny_call_builtin PySem.F.slot_gs_get.plain PySem.F.entry_gs_get (PySem.F.slot_gs_get.check _ _ _ _ _ _ _ _ Y (PySem.F.args_gs_get _ _ _) ?_)
 repeat (any_goals (first | assumption | (with_reducible show cY I ?_;rw[J]) | (with_reducible show gI O ?_;rw[B]) | wp_step))
 show#[Code.quiet_builtin _ '6',codeAny_builtin PySem.F.entry_object_class ?_]
 repeat (any_goals (first | assumption | (with_reducible show cY I ?_;rw[J]) | wp_step))
def Xw(c:ExcI K C)(X:K.In hp)(B:hp.get? a=some o)(I:o.cls = .ref C)(J:Q (.done (.ret (.ref C))) #[hp,gs,dr,tk,oS]):
  wpAny '/' A (Builtin.«object.__getattribute__» #[[.ref a,.str "__class__" u],[]]) Q E #[hp,gs,dr,tk,oS]:=by
 have O:(#[hp,gs,dr,tk,oS]:Shared).TypeIs (.builtin "object.__class__") "getset_descriptor" := eh;have U:=eh;have Y:=PySem.F.slot_gs_get.lookup;have g7:=PySem.F.slot_gs_set.lookup;have L:=gb (M:=model prog w) X c.cl
 repeat (any_goals (first | assumption | (with_reducible refine cY B ?_;rw[I]) | (with_reducible refine fX L ?_) | wp_step))
 refine Xv c X B I ?_
 repeat (any_goals (first | assumption | wp_step))
def Xx{M:_}(c:ExcI K C)(X:K.In hp)(B:hp.get? a=some o)(I:o.cls = .ref C)(J:Q () #[hp,gs,dr,tk,oS]):
  wpAny M A (checkBuiltinCall "BaseException.__getattribute__" #[[.ref a,v],[]]) Q E #[hp,gs,dr,tk,oS]:=by
 obtain⟨tl,N,nm,q,bs,hdct,sn,sub,ab,col,dd,k0,k1,k2,k3,k5,mN,O,hN,U,T⟩:=(ExcC.own (mg:=λ_=>some (.ref C)) (x := "x") #[A5,c.exc] X).obj;have Y:builtinKind "BaseException.__getattribute__" = some .slot:=by decide +kernel
 have e2:splitId "BaseException.__getattribute__" = some ("BaseException","__getattribute__"):=by decide +kernel
 have e3:(Value.ref C::tl).contains (.type "BaseException")=true:=by rw[eW,T.hasType (b:=true) '6'];rfl
 have e4:=PySem.F.args_bexc_ga (.ref a) v;simp only[checkBuiltinCall,Y,e2];show aa ?_;unfold isInstance
 repeat (first | (with_reducible show cY B ?_;rw[I]) | (with_reducible show gI O ?_;rw[e3]) | wp_step)
 show J
def Xy(c:ExcI K C)(X:K.In hp)(B:hp.get? a=some o)(I:o.cls = .ref C)(J:R (.ok (.ret (.ref C))) #[hp,gs,dr,tk,oS]):
  codeAny '/' A (.call (.builtin "BaseException.__getattribute__") #[[.ref a,.str "__class__" u],[]]) R #[hp,gs,dr,tk,oS]:=
 codeAny_call_builtin PySem.F.attrBase_ValueError.ga.plain PySem.F.entry_bexc_ga (Xx c X B I (Xw c X B I J))
def Xz(c:ExcI K C)(X:K.In hp)(B:hp.get? a=some o)(I:o.cls = .ref C)(J:Q (.ref C) #[hp,gs,dr,tk,oS]):wpAny '/' A (getAttrBy (.ref a) (.str "__class__" u) false) Q E #[hp,gs,dr,tk,oS]:=by
 have g3:=PySem.F.attrBase_ValueError.ga.bind (.ref a);have g2:(Value.builtin "BaseException.__getattribute__" == Value.builtin "object.__getattribute__")=false:=by decide +kernel
 have g1:(onTheHeap (Value.ref C)&&Value.builtin "BaseException.__getattribute__" == Value.builtin "object.__getattribute__")=false:=by rw[g2];rfl
 have L1:=gb (M:=model prog w) X c.ga;have L2:=gb (M:=model prog w) X c.gt
 repeat (any_goals (first | assumption | (with_reducible refine cY B ?_;rw[I]) | (with_reducible refine fX L1 ?_) | (with_reducible refine fX L2 ?_) | wp_step))
 refine Xy c X B I ?_
 repeat (any_goals (first | assumption | wp_step))
def XA(c:ExcI K C)(X:K.In s.heap)(B:s.heap.get? a=some o)(F:o.cls = .ref C)(I:Q (some (.ref C)) { s with toks:=s.toks+1 }):Ag prog w A (getAttr? (.ref a) "__class__") Q E s:=by
 obtain⟨hp,gs,dr,tk,oS⟩:=s;unfold getAttr? getAttrBy?
 repeat (any_goals (first | assumption | with_reducible apply Xz c X B F | wp_step))
def EAt (a C:Addr)(h:Heap):Prop:=∃o,h.get? a=some o/\o.cls = .ref C
theorem Nf (c:ExcI K C):PySem.W.KitX K (.ref a) (.ref C) (EAt a C) where
 ty:=λM h X ⟨o,h1,h2⟩=>λA Q E s k q=>by unfold typeOf;show aa (wpAny_loadPart (k _ _ h1) (by rw[h2];show ae q))
 it:=λM h X _=>λA Q E s k q=>by obtain⟨tl,N,nm,I,bs,hdct,sn,sub,ab,col,dd,k0,k1,k2,k3,k5,mN,B,_⟩:=(ExcC.own (mg:=λ_=>some (.ref C)) (x := "x") #[A5,c.exc] X).obj;unfold isType loadHead;show aa (wpAny_loadPart (k _ _ B) (ae q))
 ne:=λh U dd J n Y X F=>by obtain⟨tl,N,nm,I,bs,hdct,sn,sub,ab,col,dd,k0,k1,k2,k3,k5,mN,B,_⟩:=(ExcC.own (mg:=λ_=>some (.ref C)) (x := "x") #[A5,c.exc] X).obj;show Bool.eq_false_iff.mpr λq=>?_;rw[Value.ref.inj (iH.mp q),F] at B;show absurd (congrArg Obj.cls (bL B)) (by unfold excClassObj;intro z;injection z with z;revert z;decide)
 ca:=λX ⟨o,h1,h2⟩ O=>XA c X h1 h2 O
end
def Inv.other{n:_}(I:'&')(hn:n∉X.N):∃m,s.heap.Ns X.env.locals m/\∀h' v t',h'.Ns X.env.locals (λx=>if x=n then v else m x)->Heap.SameBut X.env.locals s.heap h'->Inv X A6 G H { s with heap:=h',toks:=t' }:=by
 obtain⟨m,hN,hl⟩:=I.loc;have J:=I.cne;show#[m,hN,λh' v t' Y hs=>?_];have B:∀ {b o},X.s₀.heap.get? b=some o->b≠X.env.locals:=λe=>aY (aT (aw e) I.ok.above);show#[I.ok,I.os,I.bare,#[λb o e n hb O=>(hs.2 b (B e)).trans (I.base.keep b o e n hb O),λb o e n hb O=>?_,I.base.free,λb o e O=>?_,I.base.tups,I.base.frzs,I.base.tbls],#[_,Y,λj y v' F e2 e3=>?_],λy c e=>?_,I.free,I.freeC,λp hp=>?_,λb ob e=>?_,I.len];obtain⟨sl,F⟩:=I.base.slot b o e n hb O;show#[sl,(hs.2 b (B e)).trans F];obtain⟨o',F⟩:=I.base.there b o e O;show#[o',(hs.2 b (B e)).trans F];obtain⟨u',r',q⟩:=hl j y v' F e2 e3;show#[u',r',?_];rcases q with ⟨k,e⟩ | ⟨k,c,e,z⟩;show .inl #[k,?_];have:y≠n:=λz=>hn (z ▸ az F);simp[this,e];show .inr #[k,c,e,z.sameBut hs (J y c e)];obtain⟨w',z⟩:=I.cell y c e;show#[w',z.sameBut hs (J y c e)];obtain⟨e,n,ne,nf,d⟩:=I.pin p hp;show#[(hs.2 p.1 ne).trans e,n,ne,nf,d];show (I.hok b ob e).stay (λc w' U q=>(hs.2 c ?_).trans q) (λ_ q=>q) λ_ _ q=>q;rintro rfl;have:=I.free;rcases U with rfl | U;rw[this] at e;cases e;rw[this] at U;cases U
def Inv.track{e:_}(I:'&')(O:H e=none)(U:X.s₀.heap.get? e=none)(Y:e≠X.env.locals)(hc:∀x c,X.env.cells.lookup x=some c->c≠e)(hp:∀p∈X.pn++A6,p.1≠e)(F:zJ X.prog X.w (upd H e o) s.heap e o):
  Inv X A6 G (upd H e o) s:=by
 have B:∀ {b u},H b=some u->b≠e:=λq z=>by rw[z,O] at q;cases q
 show#[I.ok,I.os,I.bare,#[I.base.keep,I.base.slot,λb u q n hx=>?_,I.base.there,λb xs q=>?_,λb u v q=>?_,λb ps q=>?_],I.loc,I.cell,by rw[zc Y.symm];show I.free,λx c q=>by rw[zc (hc x c q)];show I.freeC x c q,λp q=>?_,λb u q=>?_,I.len];rw[zc λz=>by rw[z,U] at q;cases q];show I.base.free b u q n hx;have:=I.base.tups b xs q;rw[zc (B this)];show this;have:=I.base.frzs b u v q;rw[zc (B this)];show this;obtain⟨more,z⟩:=I.base.tbls b ps q;show#[more,by rw[zc (B z)];show z];obtain⟨e1,n,nl,nf,d⟩:=I.pin p q;show#[e1,by rw[zc (hp p q)];show n,nl,nf,d];by_cases J:b=e;subst J;rw[zg] at q;cases q;show F;rw[zc J] at q;show (I.hok b u q).stay (λc v _ z=>z) (λc z=>by rw[zc (B z)];show z) λc xs z=>by rw[zc (B z)];show z
def BE (e C:Addr):HO:=.ext (EAt e C)
def EAt.ok{P:Aa}{h:Heap}{e:Addr}(x:EAt e C h):zJ P w H h e (BE e C):=
 #[x,let ⟨o,h1,_⟩:=x;#[o,h1],λ_ _ ⟨o,h1,h2⟩ k=>#[o,k o h1,h2]]
def Ej (P:Aa)(w:Ab)(K:AH)(mg:AI)(base:Heap)(C:Addr)(k:Nat)(l:Addr)(fr0:AY)(B:AZ)(H:Hp)(QH:Hp->Prop):Prop:=
 ∀A outer s,Room k A->Env0 P w K mg base A outer s H->(∀b∈frs outer,b∈fr0\/B.heap.objs.size<=b)->(∀b o,B.heap.get? b=some o->H b=none->b∉frs outer->s.heap.get? b=some o)->
  codeAny (model P w) A (.call (.ref l) #[[],[]]) (λr s'=>∃e H',r = .error (.ref e)/\Fly P w C outer H s e H' s'/\QH H') s
section
variable{e:Addr}
def Fly.here (ab:X.stack=X.env::X.outer)(ac:X.env.frame=some X.env.locals)(J:X.ex=[])(I:'&')(f:Fly X.prog X.w C X.stack H s e H' s'):
  Inv X A6 G H' s'/\H' e=none/\X.s₀.heap.get? e=none/\(∀p∈X.pn++A6,p.1≠e)/\(∀b∈frs X.stack,b≠e)/\∀x c,X.env.cells.lookup x=some c->c≠e:=by
 have I':Inv X A6 G H' s':=I.call' (ch:=[]) f.os f.un f.hok f.bare λb z=>by cases z
 obtain⟨B,a0,fw,c1,c2⟩:=f.fly;obtain⟨_,O,_,oe,vs,_,_,_,he,_,hd,_⟩:=id fw;have F:∀ {o},B.get? e≠some o:=λz=>by rw[O] at z;cases z
 have U:e∉frs X.stack:=λz=>by obtain⟨_,o,ho,Y⟩:=I'.stack.mem z;rw[he] at ho;cases ho;show Y _ hd
 show#[I',?_,?_,λp hp z=>?_,λb hb z=>U (z ▸ hb),λx c hc z=>?_]
 cases q:H' e with
 | none=>rfl
 | some u=>obtain⟨o',h⟩:=c2 e u q;show absurd h F
 cases q:X.s₀.heap.get? e with
 | none=>rfl
 | some u=>
  obtain⟨o',h1⟩:=I.base.there e u q (by rw[J];show λz=>by cases z);obtain⟨o2,h2⟩:=c1 e o' h1 U;show absurd h2 F
 obtain⟨h1,_⟩:=I.pin p hp;rw[z] at h1;obtain⟨o2,h2⟩:=c1 e _ h1 U;show absurd h2 F;obtain⟨v,o,h1,h2⟩:=I'.cell x c hc;rw[z,he] at h1;cases h1;rw[hd] at h2;cases h2
variable{M:Model}{A:Ae}{BB:Addr}{oe:Obj}{hp:Heap}{gs:Array GenState}{tk:Nat}
def XB(c:ExcI K C)(d:ExcI K BB)(X:K.In hp)(sub:PySem.W.subIn K (.ref C) (.ref BB)=some true)(F:hp.get? e=some oe)(I:oe.cls = .ref C)(J:Q true #[hp,gs,dr,tk,oS]):
  wpAny M A (excMatches (.ref e) (.ref BB)) Q E #[hp,gs,dr,tk,oS]:=by
 obtain⟨tl,N,nm,q,bs,hdct,sn,Y,ab,col,dd,k0,k1,k2,k3,k5,mN,B,hN,O,T⟩:=(ExcC.own (mg:=λ_=>some (.ref BB)) (x := "x") #[A5,d.exc] X).obj;have U:(Value.ref BB::tl).contains (.type "BaseException")=true:=by rw[eW,T.hasType (b:=true) '6'];rfl
 have L:=PySem.W.looks_subIn (M:=M) X sub;have f:=tc_notTuple;unfold excMatches
 repeat (first | (with_reducible show cY F ?_;rw[I]) | with_reducible show cY B ?_ | (with_reducible show gI B ?_;rw[U]) | with_reducible show fX L ?_ | wp_step)
 show J
variable{W l:Addr}{a c n:Str}{ic k:Nat}{ep hp pos:Pos}
def XC(F:X.stack=X.env::X.outer)(O:X.env.frame=some X.env.locals)(Y:X.ex=[])(hr:Room k X.A)(bs:X.N[ia]?=some a)(bt:Vis X.env.scope a)(bx:X.N[ic]?=some c)(b0:Loc X.env.scope c)(nd:X.N.Nodup)(b1:g_ c X)(hn:n∉X.N)(al:X.env.kindOf n=some .local)(ci:ExcI X.K C)(wi:ExcI X.K W)(hW:X.mg wx=some (.ref W))(hg:Gl X wx)(sub:PySem.W.subIn X.K (.ref C) (.ref W)=some true)(hl:X.s₀.heap.get? l=some ol)(b3:X.H₀ l=none)(b4:l∉frs X.stack)(b5:ol.data = .func fl)(a1:∀b∈frs X.stack,b∈fr0\/X.s₀.heap.objs.size<=b)(hA:Ej X.prog X.w X.K X.mg X.base C k l fr0 X.s₀ X.H₀ QH)(b6:Ah a:=by ext)(b7:h_ a:=by ext)(b8:Ah wx:=by ext)(ca:Ah n:=by ext)(cd:swapsWith (.Name n p2) (some (.Name c p1)) p3.line X.env=pure false:=by rfl):
  PS X (.Try [.Expr (.Call (.Name a ap) [] [] cp) ep] [.ExceptHandler (some (.Name wx wp)) (some n) [.Assign [.Name c p1] (.Name n p2) p3] hp] [] [] pos)
   (λBB G H=>H=X.H₀/\G[ia]?=some (some (.ref l))/\∀e H',QH H'->H' e=none->BB.nx (G.set ic (some (.ref e))) (upd H' e (BE e C))):=by
 intro A6 s G H BB I h;obtain⟨eH,ha,hD⟩:=h;subst eH
 have ab:∀ {s1:AZ},Inv X A6 G X.H₀ s1->∀b o,X.s₀.heap.get? b=some o->X.H₀ b=none->b∉frs X.stack->s1.heap.get? b=some o:=λJ b o q n hb=>
  J.base.keep b o q n (λz=>hb (by rw[F];unfold frs;rw[bv,O];show aj _ z)) (by rw[Y];show λz=>by cases z)
 show wpAny_Try_except (fU (wpAny_Expr_any (dR (aE (FZ (X:=X.nox) bs bt b6 b7 A6 s G X.H₀ (λv H1=>v = .ref l/\H1=X.H₀) (I.wish _) #[_,ha,A5,A5]) ?_ λ_ _ z=>False.elim z)) I.quiet A5));rintro v s1 ⟨x,H1,I1,r1,rfl,rfl⟩;cases r1;have I1:=I1.unwish;show callWith_meth0 b5 (ab I1 l ol hl b3 b4) (wpAny_call (dS (hA X.A X.stack s1 hr I1.env0 a1 (ab I1)) λr s2 hq=>?_));obtain⟨e,H',rfl,a2,hQ⟩:=hq;obtain⟨I2,a3,ch,cn,co,cu⟩:=a2.here F O Y I1;obtain⟨B,a0,fw,c1,c2⟩:=a2.fly;have c0:X.A.frames=some (X.env::X.outer):=by rw[I1.ok.frames,F]
 have c3:Heap.FlyingW B (X.env::X.outer) e (.ref C) a0 s2.heap:=by rw[<- F];show fw
 have ac:∀ {U:Heap} {t:Nat},B.StaysIn U->s2.heap.UpToSlots U->Inv X A6 G H' { s2 with heap:=U,toks:=t }:=λ{U t} b2 sm=>by
  have a4:∀b o,X.s₀.heap.get? b=some o->b∉X.fs->∃o',B.get? b=some o':=λb o q hb=>by
   obtain⟨o',h1⟩:=I1.base.there b o q (by rw[Y];show λz=>by cases z);show c1 b o' h1 λz=>?_;rw[F] at z;unfold frs at z;rw[bv,O] at z;rcases au.mp z with y | y;have:=aw q;rw[y] at this;show absurd (aT this I1.ok.above) (cI _);show hb y
  have a5:∀ {b o o1},s1.heap.get? b=some o1->b∉frs X.stack->s2.heap.get? b=some o->U.get? b=some o:=λ{b o o1} q1 hb q2=>by obtain⟨o',h1⟩:=c1 b o1 q1 hb;have:=fw.1 b o' h1;rw[q2] at this;cases this;show b2 b o h1
  obtain⟨u,k⟩:=IU I2 Y a4 c2 fw.1 b2 sm;obtain⟨m,hN,c4⟩:=I2.loc
  have ad:∀ {c v},s2.heap.IsCell c v->U.IsCell c v:=λ{c v} ⟨o,h1,h2⟩=>by
   obtain⟨sl,h3⟩:=sm c o h1 λvs z=>by rw[h2] at z;cases z
   show#[_,h3,h2]
  show#[I2.ok,I2.os,I2.bare,by rw[Y];show u,#[m,sm.ns hN,λi x v e1 e2 e3=>?_],λx c q=>?_,I2.free,I2.freeC,λp hp=>?_,k,I2.len];obtain⟨u',r',q⟩:=c4 i x v e1 e2 e3;show#[u',r',?_];rcases q with q | ⟨k,c,q,z⟩;show .inl q;show .inr #[k,c,q,ad z];obtain⟨v,z⟩:=I2.cell x c q;show#[v,ad z];obtain⟨q1,q2,q3,q4,q5⟩:=I2.pin p hp;obtain⟨g1,_⟩:=I1.pin p hp;show#[a5 g1 (λz=>?_) q1,q2,q3,q4,q5];rw[F] at z;unfold frs at z;rw[bv,O] at z;rcases au.mp z with y | y;show q3 y;show q4 y
 show wpAny_looks_onW c0 O c3 λh4 an c5=>wpAny_landsW an λh5 as c6=>?_;have sm:=c5.trans c6;have I5:Inv X A6 G H' { s2 with heap:=h5 }:=ac (t:=s2.toks) as.1 sm;obtain⟨oe,he,da⟩:=as.there;show wpAny_handleBy_cons (codeAny_handlers_test (eC I5.ok.kind hg (Calls.loadGlobal_global (by rw[I5.ok.glob];show I5.mod.glob.keeps I5.bk) hW ?_) b8)) (by intro q;cases q);show XB ci wi I5.kIn sub he da ?_;show codeAny_handlers_suite_as (lands_againW as λh6 a7 db=>?_);have I6:Inv X A6 G H' { s2 with heap:=h6 }:=ac (t:=s2.toks) a7.1 (sm.trans db);obtain⟨m,hN,dd⟩:=I6.other hn;have ag:(X.env.scope.kind==.class || (X.env.scope.kind==.module&&X.env.locals != X.env.globals))=false:=by rw[I6.ok.kind];rfl
 show wpAny_storeName_local al hN (λh7 bb bc=>?_) ag;have bd:X.env.locals≠e:=co _ (by rw[F];unfold frs;rw[bv,O];show aq);have I7:=dd h7 (some (.ref e)) (s2.toks+1) bb bc;obtain⟨o6,g6,k6⟩:=a7.there;have I8:=I7.track (o:=BE e C) a3 ch bd.symm cu cn (EAt.ok #[o6,(bc.2 e bd.symm).trans g6,k6]);show fU (wpAny_Assign_Name (wpAny_Name (wpAny_loadName_local I8.ok.kind al bb (show (if n=n then some (Value.ref e) else m n)=some (.ref e) from if_pos A5) ?_) ca) cd);show FY I8 nd bx b0 (v:=.ref e) A5 (λs9 I9=>gq ?_) b1;obtain⟨m9,de,bl⟩:=I9.other hn;show wpAny_nameGoes_keeps al de ag λdf dk bm bo=>?_;show#[_,_,bl df dk _ bm bo,hD e H' hQ a3]
end
def FM (B:Obj)(q:Str):Prop:=∃vs F,B.data = .fields vs/\vs[1]?=some (.str q F)
def Cu (B:Obj):HO:=.frz B (.own 0)
def Ds (P:Aa)(w:Ab)(K:AH)(mg:AI)(base:Heap)(N:AM)(qual:Str)(scope:Scope)(l:Addr)(cv:Value)(cl:List (Str×Addr))(A:Ae)(outer:List Env)(s:AZ)(H:Hp)(C:Addr)(E:XK):Cx where
 prog:=P
 w:=w
 K:=K
 mg:=mg
 base:=base
 A:=A.deeper (PySem.W.envX qual scope s.heap.objs.size l cv cl)
 N:=N
 s₀:=s
 H₀:=H
 env:=PySem.W.envX qual scope s.heap.objs.size l cv cl
 outer:=outer
 stack:=PySem.W.envX qual scope s.heap.objs.size l cv cl::outer
 ex:=[]
 fn:=λ_=>false
 calm:=true
 pn:=[]
 xe:=λe s'=>wpAny (model P w) (A.deeper (PySem.W.envX qual scope s.heap.objs.size l cv cl)) (leaving (PySem.W.envX qual scope s.heap.objs.size l cv cl) e) (λ_ B=>CX1 P w C outer H s E e B) (λF B=>CX1 P w C outer H s E F B) s'
section
variable{P:Aa}{mg:AI}{l:Addr}{A:Ae}{E:XK}
def XD:FrX C E (Ds P w K mg base N qual scope l cv cl A outer s H C E):=#[A5,A5,A5,A5]
def XE(B:Env0 P w K mg base A outer s H)(hd:A.handled=none)(hk:scope.kind = .function)(U:∀x y c,cl.lookup x=some c->cl.lookup y=some c->x=y)(Y:∀x,(scope.names.lookup x=some .cell\/scope.names.lookup x=some .free)->∃c,cl.lookup x=some c)(J:∀x c,cl.lookup x=some c->(∃v,s.heap.IsCell c v)/\H c=none)(O:∀ (i:Nat) (x:Str) (v:V),N[i]?=some x->G[i]?=some (some v)->Vis scope x->scope.names.lookup x=some .free/\∃u c,ye v u/\cl.lookup x=some c/\s.heap.IsCell c (some u))(ab:G.length=N.length)(hN:h1.Ns s.heap.objs.size (λx=>([]:List (Str×Value)).reverse.lookup x))(hs:Heap.SameBut s.heap.objs.size (s.heap.push o1) h1):Inv (Ds P w K mg base N qual scope l cv cl A outer s H C E) [] G H { s with heap:=h1,toks:=t1 }:=by
 have kp:∀b o,s.heap.get? b=some o->h1.get? b=some o:=λb o q=>(hs.2 b (aY (aw q))).trans (ah _ q);have F:∀ {c v},s.heap.IsCell c v->h1.IsCell c v:=λ⟨o,g1,g2⟩=>#[o,kp _ _ g1,g2];have I:∀b:Addr,b∉(Ds P w K mg base N qual scope l cv cl A outer s H C E).ex:=λb z=>absurd (show b∈([]:AY) from z) '$'
 show#[#[B.mod,hk,A5,A5,ak _,U,Y,λ_ _ z=>(by cases z),λ_=>hd,Around.frames_deeper B.frames,.inr #[A5,A5],λb z=>absurd z (I b),B.bs,B.bsz,λb _ _=>I b,λb z=>absurd z (I b),B.funs,B.frf],
  rfl,B.bare,Un.kept kp,#[_,hN,λi x v q1 q2 q3=>?_],λx c q=>?_,B.hok.fresh (ak _),λx c q=>(J x c q).2,λp hp=>absurd (show p∈([]:AB) from hp) '$',B.hok.kept kp,ab]
 obtain⟨g1,u,c,r,g2,g3⟩:=O i x v q1 q2 q3;show#[u,r,.inr #[.inr g1,c,g2,F g3]];obtain⟨v,z⟩:=(J x c q).1;show#[v,F z]
def XF{oc:_}(hp:bindArgs (PySem.W.kla_fn name qual params body scope cl pm (.ref J) U) #[[],[]]=pure [])(hk:scope.kind = .function)(ag:scope.isCoroutine=false)(Y:scope.isGenerator=false)(al:∀x∈scope.names,x.2≠.cell)(hl:B.heap.get? l=some (PySem.W.kla_obj name qual params body scope cl pm J U))(an:H l=none)(as:l∉fr0)(a0:H J=some (Cu oc))(a1:FM oc qual)(a2:∀x y c,cl.lookup x=some c->cl.lookup y=some c->x=y)(a3:∀x,(scope.names.lookup x=some .cell\/scope.names.lookup x=some .free)->∃c,cl.lookup x=some c)(ab:∀x c,cl.lookup x=some c->(∃v,B.heap.IsCell c v)/\H c=none/\c∉fr0)(ac:∀ (i:Nat) (x:Str) (v:V),N[i]?=some x->G[i]?=some (some v)->Vis scope x->scope.names.lookup x=some .free/\∃u c,ye v u/\cl.lookup x=some c/\B.heap.IsCell c (some u))(a4:G.length=N.length)(O:∀ (A:Ae) (outer:List Env) (s:AZ),Room k (A.deeper (PySem.W.envX qual scope s.heap.objs.size l (.ref J) cl))->∃t:TE,PE (Ds P w K mg base N qual scope l (.ref J) cl A outer s H C (λ_ _ H'=>QH H')) body t/\t G H λ_ _=>False):
  Ej P w K mg base C (k+1) l fr0 B H QH:=by
 intro A outer s hr e0 a5 kp;have nf:∀ {b o},B.heap.get? b=some o->b∉fr0->b∉frs outer:=λq n z=>(a5 _ z).elim n λy=>absurd (aw q) (gm.mpr y);have F:∀ {c v},H c=none->c∉fr0->B.heap.IsCell c v->s.heap.IsCell c v:=λn f ⟨o,g1,g2⟩=>#[o,kp _ _ g1 n (nf g1 f),g2];have ad:s.heap.CodeRec (.ref J) qual:=by obtain⟨vs,tq,g2,g3⟩:=a1;show#[J,oc,vs,tq,A5,(e0.hok J _ a0).1,g2,g3]
 show PySem.W.kla_callFunE hr.depth (kp _ _ hl an (nf hl as)) A5 ag Y A5 ad ?_;rw[hp];show ae (wpAny_newFunctionEnv al (λx hx=>absurd hx '$') (λh1 hN hs=>#[?_,?_]) hk);have:=e0.mod.nolimit.keeps λb o e=>(e0.bs b o e).1;show this.fresh _ hs;have I:=XE (E:=λ_ _ H'=>QH H') (C:=C) (qual:=qual) (l:=l) (cv:=.ref J) (N:=N) (G:=G) (t1:=s.toks+0) e0 hr.hd hk a2 a3 (λx c q=>let ⟨⟨v,z⟩,n,f⟩:=ab x c q;#[#[v,F n f z],n]) (λi x v q1 q2 q3=>by obtain⟨g1,u,c,r,g2,g3⟩:=ac i x v q1 q2 q3;obtain⟨_,n,f⟩:=ab x c g2;show#[g1,u,c,r,g2,F n f g3]) a4 hN hs;obtain⟨t,hb,ht⟩:=O A outer s (hr.deeper _);show PySem.W.kla_codeExpr (aE (hb [] _ G H _ I ht) (λv s' z=>?_) λe s' z=>?_);obtain⟨_,_,_,_,q⟩:=z;show q.elim;show aE z (λ_ a7 y=>?_) λe' a7 y=>?_;obtain⟨ea,H',rfl,f,q⟩:=y;show#[ea,H',A5,f,q];obtain⟨ea,H',rfl,f,q⟩:=y;show#[ea,H',A5,f,q]
end
def Ek (P:Addr)(q:Str)(H:Hp):Prop:=∃ps:AK,H P=some (kO P (PySem.W.tabObj ps))/\TriplesOk ps.toList/\∀pos cv,codeAmong pos ps.toList=some cv->∃B F,cv = .ref B/\H B=some (Cu F)/\FM F q
structure LamT (K:AH)(mg:AI)(c P:Addr):Prop where
 hd:∀h,K.In h->PySem.W.CodeHd h c P
 gp:mainGlobals≠P
theorem Ng{pos:Pos}{c:Value}:∀ {l:AN},TriplesOk l->∀ {cv},codeAmong pos' (l++[rawInt pos.line,rawInt pos.col,c])=some cv->codeAmong pos' l=some cv\/cv=c
 | [],_,cv,h=>by
  show Or.inr ?_;simp only[fj,rawInt,codeAmong] at h;split at h
  show (bL h).symm;cases h
 | .int a t::.int b u::d::r,F,cv,h=>by
  simp only[cP,codeAmong] at h ⊢;split at h
  ·rename_i B;rw[if_pos B];show .inl h
  ·rename_i B;rw[if_neg B];show Ng (l:=r) F h
section
variable{body:Expr}{pos:Pos}{c P:Addr}
def XG(I:'&')(ad:defaultsOf params X.env=([],[]))(ag:closureFor scope X.env=pure cl)(U:X.env.code = .ref c)(T:LamT X.K X.mg c P)(hB:X.base.BuiltinsAt X.mg P)(a0:Ek P ';' H)(hQ:∀l B Y J H1 s',Inv X A6 G H1 s'->s'.heap.get? l=some (PySem.W.kla_obj "<lambda>" ';' params body scope cl ((X.mg "__name__").getD .none) B J)->H1 l=none->s.heap.objs.size<=l->H1 B=some (Cu Y)->FM Y ';'->
   Ek P ';' H1->(∀b o,b≠P->H b=some o->H1 b=some o)->(∀b,H b=none->b<s.heap.objs.size->H1 b=none)->(∀b o,s.heap.get? b=some o->H b=none->s'.heap.get? b=some o)->Q (.ref l) s'):
  Af X (eval (.Lambda params body scope pos) X.env) Q E s:=by
 obtain⟨ps,hP,tr,O⟩:=a0;obtain⟨gP,⟨oP,_⟩,_⟩:=I.hok P _ hP;have gP:s.heap.get? P=some (PySem.W.tabObj ps):=gP;have hg:s.heap.Ns mainGlobals X.mg:=I.mod.glob.keeps I.bk;have C:=T.hd _ I.kIn;have bt:=hB.keeps I.bk;show PySem.W.kla_eval ad ?_
 cases hf:codeAmong pos ps.toList with
 | some cv=>
  obtain⟨B,Y,rfl,a1,a2⟩:=O pos cv hf;show PySem.W.kla_makeFunctionHit (mg:=X.mg) ag I.ok.glob hg U C gP tr hf bt λJ h' tk kp sz=>?_;have I1:Inv X A6 G H { s with heap:=h'.push { cls:=.type "function",data:=.func (PySem.W.kla_fn "<lambda>" ';' params body scope cl ((X.mg "__name__").getD .none) (.ref B) J) },toks:=tk }:=I.kept λb o q=>ah _ (kp b o q);show hQ h'.objs.size B Y J H _ I1 (ar _ A5) (I.hok.fresh sz) sz a1 a2 #[ps,hP,tr,O] (λ_ _ _ q=>q) (λ_ q _=>q) λb o q _=>ah _ (kp b o q)
 | none=>
  show PySem.W.kla_makeFunction (mg:=X.mg) ag I.ok.glob hg U C gP tr hf T.gp bt λB J h' tk hx F al an ab=>?_;obtain⟨c2,Y,vs,tq,ec,g1,g2,g3⟩:=an;cases ec;have ac:P<s.heap.objs.size:=aw gP;have as:B≠P:=λz=>by rw[z] at F;show absurd ac (gm.mpr F)
  have hsz:s.heap.objs.size<=h'.objs.size:=av F (cS al);have kp:∀b o,b≠P->s.heap.get? b=some o->(h'.push (PySem.W.kla_obj "<lambda>" ';' params body scope cl ((X.mg "__name__").getD .none) B J)).get? b=some o:=λb o hb q=>ah _ (hx b o hb q)
  have I2:Inv X A6 G (upd H P (kO P (PySem.W.tabObj (ps++#v[rawInt pos.line,rawInt pos.col,.ref B])))) { s with heap:=h'.push (PySem.W.kla_obj "<lambda>" ';' params body scope cl ((X.mg "__name__").getD .none) B J),toks:=tk }:=
   I.write (x:=P) (e:=P) (by rw[hP];trivial) (.inl A5) kp #[_,ah _ ab] #[ah _ ab,#[_,ah _ ab],λh1 h2 q k=>k _ q]
  have nw:∀ {b:Addr},s.heap.objs.size<=b->H b=none:=λq=>I.hok.fresh q;have a3:upd H P (kO P (PySem.W.tabObj (ps++#v[rawInt pos.line,rawInt pos.col,.ref B]))) B=none:=by rw[zc as];show nw F
  have lt:∀ {b o},s.heap.get? b=some o->b≠B:=λq z=>by rw[z] at q;show absurd (aw q) (gm.mpr F)
  have I3:=I2.track (e:=B) (o:=Cu Y) a3 (Heap.get?_none_of_le (av I.sz F)) (λz=>by have:=I.lt;rw[<- z] at this;show absurd this (gm.mpr F)) (λx c q=>by obtain⟨v,o,h1,_⟩:=I.cell x c q;show lt h1) (λp hp=>lt (I.pin p hp).1)
   #[ah _ g1,#[Y,ah _ g1]]
  have a4:h'.objs.size≠B:=eO al;have a5:h'.objs.size≠P:=λz=>by rw[<- z] at ac;show absurd ac (gm.mpr hsz)
  have up:∀b o,b≠P->H b=some o->upd (upd H P (kO P (PySem.W.tabObj (ps++#v[rawInt pos.line,rawInt pos.col,.ref B])))) B (Cu Y) b=some o:=λb o hb q=>by rw[zc (λz=>by rw[z,nw F] at q;cases q),zc hb];show q
  show hQ h'.objs.size B Y J _ _ I3 (ar _ A5) (by rw[zc a4,zc a5];show nw hsz) hsz zg #[vs,tq,g2,g3] #[_,by rw[zc as.symm];show zg,?_,λpos' cv q=>?_] up (λb q hb=>by rw[zc (aY (aT hb F)),zc (λz=>by rw[z,hP] at q;cases q)];show q) λb o q n=>kp b o (λz=>by rw[z,hP] at n;cases n) q;rw[a6];show TriplesOk_snoc _ _ _ _ tr;rw[a6] at q;rcases Ng tr q with q | q;obtain⟨c3,a7,e3,h3,h4⟩:=O pos' cv q;show#[c3,a7,e3,up c3 _ (λz=>by rw[z,hP] at h3;cases h3) h3,h4];show#[B,Y,q,zg,#[vs,tq,g2,g3]]
end
def Nh:CallQ X (.builtin "isinstance") (λxs H Q=>∃e C d BB b,xs=[.ref e,d]/\(∀u,ye d u->u=BB)/\H e=some (BE e C)/\ExcI X.K C/\PySem.W.kitOne X.K (.ref C) BB=some b/\Q (.bl b) H):=#[by
 intro A6 s G H xs us Q I r h;obtain⟨e,C,d,BB,b,rfl,B,F,J,O,q⟩:=h;obtain⟨u,c,rfl,U,Y⟩:=DA r;cases U;cases B c Y;show bT (Nf J) I.kIn (I.hok e _ F).1 O (λz=>nomatch z) λtk=>#[.bl b,H,I.tok tk,A5,q]]
theorem Ni:∀ {cs:AY} {us:AN},yf (cs.map V.ref) us->us=cs.map Value.ref
 | [],_,.nil=>rfl
 | c::cs,_,.cons B F=>by cases B;rw[Ni F];rfl
def XH:CallQ X (.builtin "isinstance") (λxs H Q=>∃ (e C p:Addr) (cs:AY) (b:Bool),xs=[.ref e,.ref p]/\H p=some (.tup (cs.map V.ref))/\H e=some (BE e C)/\ExcI X.K C/\PySem.W.kitAny X.K (.ref C) (cs.map Value.ref)=some b/\Q (.bl b) H):=#[by
 intro A6 s G H xs us Q I r h;obtain⟨e,C,p,cs,b,rfl,hp,B,F,J,q⟩:=h;obtain⟨u,c,rfl,O,U⟩:=DA r;cases O;cases U;obtain⟨Y,r1,p1,_⟩:=I.tuple (.of hp);cases Ni r1;obtain⟨⟨cls,dd,data,sl⟩,ho,hc,n,hd⟩:=id p1;cases hc;cases hd;show PySem.W.kia_tup (Nf F) I.kIn (I.hok e _ B).1 ho J (λz=>nomatch z) λtk=>#[.bl b,H,I.tok tk,A5,q]]
def XI{us:_}{P:Aa}{mg:AI}{f:Addr}{body:List Stmt}{kV Y B:Value}{A:Ae}{args:Args}{vs:AT}{Q:VK}{E:XK}(lk:K.lookup f=some #[oc,od,.func (PySem.W.fnOf name qual params body scope dV kV Y pm an B ct),ab])(ac:PySem.W.codeIn K B qual=true)(S:FnScope N ps scope)(hl:vs.length=ps.length)(hr:Room (k+1) A)(e0:Env0 P w K mg base A outer s H)(hb:BindsTo s (PySem.W.fnOf name qual params body scope dV kV Y pm an B ct) args (ps.zip us))(r:yf vs us)(O:Room k (A.deeper (envOfC qual scope s.heap.objs.size f B))->∃t,PSs (Bf CX P w K mg base N qual scope f B A outer s H E) body t/\t { nx:=λ_ H'=>Q .non H',rt:=Q } (yS N vs) H):
  codeAny (model P w) A (.call (.ref f) args) (CR CX outer P w H s Q E) s:=by
 have KX:K.In s.heap:=e0.mod.kin.keeps λb o e=>(e0.bs b o e).1;have lim:s.heap.NoLimit:=e0.mod.nolimit.keeps λb o e=>(e0.bs b o e).1
 have U:∀y∈ps.zip us,scope.names.lookup y.1=some .local\/(scope.names.lookup y.1=some .cell/\((cellsFrom (s.heap.objs.size+1) scope.names []).lookup y.1).isSome=true):=by
  rintro⟨n,v⟩ hy;rcases S.par n (gr hy).1 with q | q;show .inl q;show .inr #[q,fB _ _ _ (.inl q)]
 show codeAny_call_function hr.depth (KX _ _ lk) A5 S.co S.gen A5 (PySem.W.codeRec_of KX ac) (hb _ _ _ _ ?_);show wpAny_newFunctionEnv_cells S.kind U λenv he s1 x=>?_;subst he;show#[lim.keeps x.toInCall.keep,codeAny_func ?_];obtain⟨t,ht,hq⟩:=O (hr.deeper _);have I:Inv (Bf CX P w K mg base N qual scope f B A outer s H E) [] (yS N vs) H s1:=J5 S hr.hd e0 hl r x;show aE (ht [] s1 (yS N vs) H _ I hq) (λfl s' hs=>?_) λe s' hs=>hs
 have fin:∀ {F:St} {H':Hp} {v:V} {u:Value},Inv (Bf CX P w K mg base N qual scope f B A outer s H E) [] F H' s'->ye v u->Q v H'->CE outer P w H s Q u s':=
  λ{F H' v u} J rv q=>#[v,H',J.os,J.bare,J.base,J.hok,rv,q]
 cases fl with
 | ret u=>
  obtain⟨v,F,H',J,rv,q⟩:=hs;show fin J rv q
 | next=>
  obtain⟨F,H',J,q⟩:=hs;show fin (v:=V.non) (u:=Value.none) J A5 q
 | brk=>
  obtain⟨_,_,_,q⟩:=hs;show False.elim q
 | cont=>
  obtain⟨_,_,_,q⟩:=hs;show False.elim q
structure Errs (K:AH)(mg:AI)(cx wx:Str)(C W:Addr)(cs:AY):Prop where
 ci:ExcI K C
 wi:ExcI K W
 mc:mg cx=some (.ref C)
 mw:mg wx=some (.ref W)
 sub:PySem.W.subIn K (.ref C) (.ref W)=some true
 own:PySem.W.kitOne K (.ref C) (.ref C)=some true
 ve:PySem.W.kitOne K (.ref C) (.type "ValueError")=some true
 no:PySem.W.kitAny K (.ref C) (cs.map Value.ref)=some false
section
variable{W l:Addr}{cs:AY}{a c n:Str}{k:Nat}{ep i1 i2 i3:Pos}
def XJ(U:X.stack=X.env::X.outer)(Y:X.env.frame=some X.env.locals)(ab:X.ex=[])(hr:Room k X.A)(hN:X.N=[a,c])(ac:a≠c)(ad:X.env.scope.names.lookup a=some .local)(B:X.env.scope.names.lookup c=some .local)(hn:n∉X.N)(ag:X.env.kindOf n=some .local)(F:Errs X.K X.mg cx wx C W cs)(gc:Gl X cx)(gw:Gl X wx)(gv:Gl X "ValueError")(gi:Gl X "isinstance")(mv:X.mg "ValueError" = none)(mi:X.mg "isinstance" = none)(hT:QA X es ts)(al:∀ G H Q,Q (cs.map V.ref) H->ts G H Q)(an:cs.length<=100){ol:Obj}(hl:X.s₀.heap.get? l=some ol)(as:X.H₀ l=none)(a0:l∉frs X.stack)(a1:ol.data = .func fl){fr0:AY}(J:∀b∈frs X.stack,b∈fr0\/X.s₀.heap.objs.size<=b)(hA:Ej X.prog X.w X.K X.mg X.base C k l fr0 X.s₀ X.H₀ QH){BB:Ends}(hD:∀e p H',QH H'->H' e=none->e≠p->H' p=none->BB.rt (.bl true) (upd (upd H' e (BE e C)) p (.tup (cs.map V.ref))))(a2:G=[some (.ref l),none])(a3:Ah a:=by ext)(a4:h_ a:=by ext)(a5:Ah c:=by ext)(a7:h_ c:=by ext)(bb:Ah wx:=by ext)(bc:Ah cx:=by ext)(bd:Ah n:=by ext):
  ∃t,PSs X [.Assign [.Name c p1] (.Constant .none k1 p2) p3,
   .Try [.Expr (.Call (.Name a ap) [] [] cp) ep] [.ExceptHandler (some (.Name wx wp)) (some n) [.Assign [.Name c q1] (.Name n q2) q3] hp] [] [] tq,
   .If (.BoolOp .Or [.UnaryOp .Not (.Call (.Name "isinstance" i1) [.Name c i2,.Name cx i3] [] i4) i5,.UnaryOp .Not (.Call (.Name "isinstance" i6) [.Name c i7,.Name "ValueError" i8] [] i9) j1] j2) [.Return (some (.Constant (.bool false) k2 j3)) j4] [] j5,
   .Return (some (.UnaryOp .Not (.Call (.Name "isinstance" j6) [.Name c j7,.Tuple es k3 r1] [] r2) r3)) r4] t/\t BB G X.H₀:=by
 have hi:X.N[0]?=some a:=by rw[hN];rfl
 have hj:X.N[1]?=some c:=by rw[hN];rfl
 have nd:X.N.Nodup:=by rw[hN];simp[ac]
 have vc:∀ {p:Pos},QE X (.Name c p) (BX 1):=qv 1 hj (.inl B) a5 a7;have gC:QE X (.Name cx i3) (tC (.ref C)):=Gx (v:=.ref C) gc #[_,A5,F.mc] bc;have gV:QE X (.Name "ValueError" i8) (tC (.ty "ValueError")):=EH (v:=.ty "ValueError") gv mv '6' A5;have c1:QE X (.Call (.Name "isinstance" i1) [.Name c i2,.Name cx i3] [] i4) _:=yr Nh gi mi cr (zB vc (zB gC yu));have c2:QE X (.Call (.Name "isinstance" i6) [.Name c i7,.Name "ValueError" i8] [] i9) _:=yr Nh gi mi cr (zB vc (zB gV yu));have c3:QE X (.Call (.Name "isinstance" j6) [.Name c j7,.Tuple es k3 r1] [] r2) _:=yr XH gi mi cr (zB vc (zB (KE hT) yu));have s1:QS X (.Assign [.Name c p1] (.Constant .none k1 p2) p3) _:=xF (i:=1) nd hj (.inl B) Kx (hf:=.inr B);have s2:QS X (.Try [.Expr (.Call (.Name a ap) [] [] cp) ep] [.ExceptHandler (some (.Name wx wp)) (some n) [.Assign [.Name c q1] (.Name n q2) q3] hp] [] [] tq) _:=#[XC (ia:=0) (ic:=1) U Y ab hr hi (.inl ad) hj (.inl B) nd (.inr B) hn ag F.ci F.wi F.mw gw F.sub hl as a0 a1 J hA a3 a4 bb bd];show#[_,(zD s1 (zD s2 (zD (C9 (KC (GB (GA c1)) (KA (GB (GA c2)))).pt (yP (u7 Kw)) DH) (yP (u7 (KD c3)))))).run,?_];subst a2;show#[A5,A5,λe H' hQ he=>?_];have e1:([some (V.ref l),none].set 1 (some V.non)).set 1 (some (V.ref e))=[some (V.ref l),some (V.ref e)]:=rfl;rw[e1];have O:upd H' e (BE e C) e=some (BE e C):=zg;show#[.ref e,A5,e,C,.ref C,.ref C,true,A5,λu z=>z,O,F.ci,F.own,true,A5,?_];show#[.ref e,A5,e,C,.ty "ValueError",.type "ValueError",true,A5,λu z=>z,O,F.ci,F.ve,true,A5,?_];show#[.ref e,A5,al _ _ _ #[by rw[af];show av an '#',λp hp=>?_]];have I:e≠p:=λz=>by rw[<- z,O] at hp;cases hp
 have bk:H' p=none:=by rw[zc I.symm] at hp;show hp
 show#[e,C,p,cs,false,A5,zg,by rw[zc I];show O,F.ci,F.no,false,A5,hD e p H' hQ he I bk]
end
def FN (P:Aa)(w:Ab)(K:AH)(mg:AI)(base:Heap)(C:Addr)(cs:AY)(k:Nat)(f:Addr):Prop:=
 ∀A outer s H l B fl QH Q,Room (k+1) A->Env0 P w K mg base A outer s H->s.heap.get? l=some B->B.data = .func fl->H l=none->l∉frs outer->
  Ej P w K mg base C k l (frs outer) s H QH->(∀e p H',QH H'->H' e=none->e≠p->H' p=none->Q (.bl true) (upd (upd H' e (BE e C)) p (.tup (cs.map V.ref))))->
  codeAny (model P w) A (.call (.ref f) #[[.ref l],[]]) (CR CX0 outer P w H s Q E0) s
def nms (xs:List (Str×Pos)):AO:=xs.map λx=>.Name x.1 x.2
theorem Nj:∀ {xs:List (Str×Pos)} {cs:AY},xs.map (λx=>X.mg x.1)=cs.map (λc=>some (Value.ref c))->(∀x∈xs,Gl X x.1/\(x.1==("__debug__" : Str))=false)->QA X (nms xs) (λG H Q=>Q (cs.map V.ref) H)
 | [],[],_,_=>#[λ_ _ _ _ H Q I h=>fH #[[],H,I,.nil,h]]
 | (x,p)::xs,c::cs,h,g=>by rw[ax,ax,dZ] at h;obtain⟨h1,h2⟩:=g (x,p) aq;show#[(zB (Gx (v:=.ref c) h1 #[_,A5,h.1] h2) (Nj (cs:=cs) h.2 λy B=>g y (aj _ B))).run]
section
variable{P:Aa}{mg:AI}{W f:Addr}{cs:AY}{x a c n:Str}{st:Stmt}{k:Nat}{xs:List (Str×Pos)}{ep i1 i2 i3:Pos}
def XL (F:Fun K x x st f fd)(b:BY K fd [a] [])(S:FnScope [a,c] [a] (zb st))(B:a≠c)(I:(zb st).names.lookup a=some .local)(J:(zb st).names.lookup c=some .local)(hn:n∉[a,c])(O:(zb st).names.lookup n=some .local)(er:Errs K mg cx wx C W cs)(g:∀y∈[cx,wx,"ValueError","isinstance"],(zb st).names.lookup y=some .globalImplicit)(mv:mg "ValueError" = none)(mi:mg "isinstance" = none)(hx:xs.map (λx=>mg x.1)=cs.map (λc=>some (Value.ref c)))(gx:∀x∈xs,(zb st).names.lookup x.1=some .globalImplicit/\(x.1==("__debug__" : Str))=false)(U:cs.length<=100)(Y:zE st=[.Assign [.Name c p1] (.Constant .none k1 p2) p3,
   .Try [.Expr (.Call (.Name a ap) [] [] cp) ep] [.ExceptHandler (some (.Name wx wp)) (some n) [.Assign [.Name c q1] (.Name n q2) q3] hp] [] [] tq,
   .If (.BoolOp .Or [.UnaryOp .Not (.Call (.Name "isinstance" i1) [.Name c i2,.Name cx i3] [] i4) i5,.UnaryOp .Not (.Call (.Name "isinstance" i6) [.Name c i7,.Name "ValueError" i8] [] i9) j1] j2) [.Return (some (.Constant (.bool false) k2 j3)) j4] [] j5,
   .Return (some (.UnaryOp .Not (.Call (.Name "isinstance" j6) [.Name c j7,.Tuple (nms xs) k3 r1] [] r2) r3)) r4])(ab:Ah a:=by ext)(ac:h_ a:=by ext)(ad:Ah c:=by ext)(ag:h_ c:=by ext)(al:Ah wx:=by ext)(as:Ah cx:=by ext)(a0:Ah n:=by ext):
  FN P w K mg base C cs k f:=by
 intro A outer s H l ol fl QH Q hr e0 hl a1 a2 a3 hA hQ;obtain⟨oc,od,kV,bb,pm,an,a4,ct,bc,rfl,lk,a5⟩:=F.ex;have KX:K.In s.heap:=e0.mod.kin.keeps λb o e=>(e0.bs b o e).1;show XI (vs:=[.ref l]) (us:=[.ref l]) (E:=E0) (N:=[a,c]) lk a5 S A5 hr e0 (b s [.ref l] KX A5) (.cons A5 .nil) λa7=>?_;rw[Y];show XJ (X:=Bf CX0 P w K mg base [a,c] x (zb st) f a4 A outer s H E0) (fr0:=frs outer) A5 A5 A5 a7 A5 B I J hn O er (g _ '$') (g _ '$') (g _ '$') (g _ '$') mv mi (Nj hx gx) (λ_ _ _ z=>z) U hl a2 ?_ a1 ?_ hA (λe p H' z1 z2 z3 z4=>hQ e p H' z1 z2 z3 z4) A5 ab ac ad ag al as a0;intro z;rcases au.mp (show l∈s.heap.objs.size::frs outer from z) with z | z;show absurd (aw hl) (by rw[z];show cI _);show a3 z;intro b z;rcases au.mp (show b∈s.heap.objs.size::frs outer from z) with z | z;show .inr (Nat.le_of_eq z.symm);show .inl z
end
def Nk (P:Addr)(q:Str)(H H1:Hp):Prop:=Ek P q H1/\(∀b o,b≠P->H b=some o->H1 b=some o)/\∀ps,H1 P=some (kO P (PySem.W.tabObj ps))->∃h:Heap,h.get? P=some (PySem.W.tabObj ps)
section
variable{P f:Addr}{cs:AY}{x:Str}{k:Nat}{pos:Pos}{body:Expr}
def XM (bo:X.stack=X.env::X.outer)(a2:∀y,X.fn y=true)(R:FN X.prog X.w X.K X.mg X.base C cs (k+1) f)(hr:Room (k+2) X.A)(hg:Gl X x)(hm:X.mg x=some (.ref f))(hk:PySem.W.keepIn X.K (.ref f)=true)(c:CompOk X scope N A8)(a3:scope.isCoroutine=false)(ab:scope.isGenerator=false)(T:LamT X.K X.mg cc P)(hB:X.base.BuiltinsAt X.mg P)(O:X.env.code = .ref cc)(ac:defaultsOf params X.env=([],[]))(hp:∀cl pm Y ad,bindArgs (PySem.W.kla_fn "<lambda>" ';' params body scope cl pm (.ref Y) ad) #[[],[]]=pure [])(a4:Ah x:=by ext):
  PE X (.Call (.Name x p) [.Lambda params body scope lpos] [] pos) (λG H Q=>Ek P ';' H/\∀H1,Nk P ';' H H1->∃QH:Hp->Prop,(∀l Y (cl:List (Str×Addr)) (A:Ae) (outer:List Env) (s:AZ),Room k (A.deeper (PySem.W.envX ';' scope s.heap.objs.size l (.ref Y) cl))->
    ∃t:TE,PE (Ds X.prog X.w X.K X.mg X.base N ';' scope l (.ref Y) cl A outer s H1 C (λ_ _ H'=>QH H')) body t/\t (xw G A8) H1 λ_ _=>False)/\
   ∀e p H',QH H'->H' e=none->e≠p->H' p=none->Q (.bl true) (upd (upd H' e (BE e C)) p (.tup (cs.map V.ref)))):=by
 intro A6 s G H Q I h;obtain⟨a5,h⟩:=h;show dR (Er I hg hm ?_ a4);show PySem.W.callWith_K (h₀:=X.base) I.ok.mod.kin hk ?_ A5 A5;have ag:=c.cells I.ok
 have B:∀x a,(Bu X.env scope.names []).lookup x=some a->X.env.cells.lookup x=some a:=λx a e=>by
  rcases EF ag e with z | z;show z;simp at z
 show gL (XG I ac (Ks ag) O T hB a5 λl Y oc ad H1 s' I1 hl F a7 bb bc al U bd kp=>?_);obtain⟨QH,ht,hQ⟩:=h H1 #[al,U,λps e=>#[s'.heap,(I1.hok P _ e).1]];show fH #[I1.kIn,?_];have an:l∉frs X.stack:=λz=>by obtain⟨_,o,ho,_⟩:=I.stack.mem z;show absurd (aw ho) (gm.mpr a7)
 have bk:∀y a,X.env.cells.lookup y=some a->a∉frs X.stack:=λy a e z=>by
  rcases au.mp (I1.stkSub a z) with q | q;show I1.cne y a e q;obtain⟨_,o,ho,_⟩:=I1.ok.funs.mem q;show absurd (aw ho) (gm.mpr (I1.ok.cab y a (a2 y) e))
 have as:Ej X.prog X.w X.K X.mg X.base C (k+1) l (frs X.stack) s' H1 QH:=by
  show XF (N:=N) (G:=xw G A8) (QH:=QH) (hp _ _ _ _) c.kind a3 ab c.cell hl F an bb bc (λy z a e1 e2=>I1.ok.inj y z a (B y a e1) (B z a e2)) (λy hy=>?_) (λy a e=>#[I1.cell y a (B y a e),I1.freeC y a (B y a e),bk y a (B y a e)]) (λj y v h1 h2 h3=>?_) ?_ (λA outer s2 bm=>ht l Y _ A outer s2 bm);rcases hy with hy | hy;show absurd A5 (c.cell _ (c7 hy));show uO hy;unfold xw at h2;rw[aF] at h2
  cases e:A8[j]? with
  | none=>rw[e] at h2;cases h2
  | some o=>
   rw[e] at h2
   cases o with
   | none=>cases h2
   | some i=>
    have J:(G[i]?).join=some v:=bL h2
    have a0:G[i]?=some (some v):=by
     cases q:G[i]? with
     | none=>rw[q] at J;cases J
     | some z=>rw[q] at J;have:z=some v:=J;rw[this]
    obtain⟨q1,q2,q3⟩:=c.cap h1 e;obtain⟨m0,bs,F⟩:=I1.loc;obtain⟨u,ru,hu⟩:=F i y v q1 a0 (q3.elim (λz=>.inr (.inl z)) λz=>.inr (.inr z));show#[q2,u,?_];rcases hu with ⟨z,_⟩ | ⟨_,a,ha,hcell⟩;have z':X.env.scope.names.lookup y=some .local:=z;right;obtain⟨a',a1⟩:=uO (env:=X.env) (cs:=[]) q2;have:a'=a:=by have:=(B y a' a1).symm.trans ha;show bL this
    subst this;show#[a',ru,a1,hcell]
  unfold xw;rw[af,c.len]
 show wpAny_call (dS (R X.A X.stack s' H1 l _ _ QH Q hr I1.env0 hl A5 F an as hQ) λr s2 hq=>?_)
 cases r with
 | error e=>show False.elim hq
 | ok fl=>
  cases fl with
  | ret u=>show I1.after hq
  | next=>show False.elim hq
  | brk=>show False.elim hq
  | cont=>show False.elim hq
end
end L2
namespace L3
open L2
def spX (k:Nat)(F:AU->Prop):Sp:=λvs H _ E=>∃Pn A B n,Al A H/\Bd A H B vs/\B.length=k/\y8 Pn A n H/\F B/\∀v H',Go Pn A H n H'->E v none H'
structure JX (X:Cx)(E:XK)(Pn:PN)(M:AR)(A9:List Stmt)(f:Ev->Nat->Prop):Prop where
 ex:∃t,QSs X A9 t/\∀A G H D n BB,EnvR A M G H D->y8 Pn A n H->f D n->(∀v H',Go Pn A H n H'->E v none H')->t BB G H
section
variable{E:XK}{b zu:List Stmt}{pos:Pos}{x m:Str}
def XO{f:_}(F:FrX C E X)(I:X.A.handled=none)(J:ExcC X.K X.mg x C)(O:JT X Pn M c f)(U:Gl X x:=by rfl)(B:Ah x:=by ext):
  JX X E Pn M (.If c [.Raise (some (.Call (.Name x np) [.Constant (.str m) j p1] [] cpos)) none pos] b p2::zu) (λD n=>f D n λb m=>b=true/\m=n):=by
 obtain⟨tc,q,r⟩:=O.ex;show#[_,zD (C9 q (yP #[Xu F I J U B]) #[Et]) #[Et],λA G H D n BB E P hf k=>r.run A G H D n _ _ E P hf ?_];rintro b m H' ⟨rfl,rfl⟩ g;show iteT (λe=>k _ _ g)
def XQ(F:FrX C E X)(BB:Dfn X.K X.mg x st ps fA fd)(BA:FnOk X.prog X.w X.K X.mg X.base (CX1 X.prog X.w C) j fA fd ps (spX k Fp))(U:Room kk X.A)(Y:JA X Pn M (e::es) fs)(I:j<=kk:=by ext)(hg:Gl X x:=by rfl)(J:Ah x:=by ext)(he:gy e es X:=by rfl)(O:iI pos es X:=by rfl)(hs:swapsWith '<' none p2.line X.env=pure false:=by rfl):
  JX X E Pn M (.Expr '<' p2::zu) (λD n=>fs D n λB m=>m=n/\B.length=k/\Fp B):=by
 obtain⟨ta,qa,ra⟩:=Y.ex;show#[_,zD #[JH (DB BA (U.mono I) hg BB.m BB.F.kp BB.b .nil F.pass qa.run J he O) hs] #[Et],λA G H D n BB E P hf k=>?_];show ra.run A G H D n _ _ E P hf ?_;rintro B m vs H1 ⟨rfl,hk,hF⟩ b g;rw[bU];show#[Pn,A,B,m,(E.stay g.st).al,b,hk,g.pn,hF,λv H' g2=>k v H' (g.trans g2)]
end
def okX{f:_}(Fu:Fun K x qual st f fd)(S:FnScope N ps (zb st))(hm:m=ps.length)(I:∀B A outer s H E Pn,Room k (A.deeper (PyProof.Rows.envOfC qual (zb st) s.heap.objs.size f B))->
   ∃fs,JX (Bf (CX1 P w C) P w K mg base N qual (zb st) f B A outer s H E) E Pn [] (zE st) fs/\∀J n,J.length=m->F J->fs (uN N J) n):FnOk P w K mg base (CX1 P w C) (k+1) f fd ps (spX m F):=by
 obtain⟨oc,od,kV,ac,pm,an,B,ct,ad,rfl,lk,O⟩:=Fu.ex;show Ez lk O S (λvs H Q E h=>?_) (λA outer s H vs Q E hr h=>?_);obtain⟨Pn,A,J,n,_,U,Y,_⟩:=h;rw[U.len,Y,hm];obtain⟨Pn,A3,J,n,al,U,Y,hp,hF,q⟩:=h;obtain⟨fs,⟨t,qs,rs⟩,ab⟩:=I B A outer s H E Pn hr;show#[t,qs.run,rs A3 (L2.yS N vs) H (uN N J) n _ (MA al U (λi hi=>by cases hi)) hp (ab J n Y hF) q]
def IW(h:∃h:Heap,h.get? P=some ob):¬ NP (kO P ob):=λn=>by have:=n [(Sum.inr "at",.non)] (by unfold kO pnK;dsimp only;rw[if_pos #[P,ob,h,A5]]);cases this
def BO (P:Addr)(q:Str)(A:AL)(H:Hp):Prop:=¬ A P/\∃ps:AK,H P=some (kO P (PySem.W.tabObj ps))/\(∃h:Heap,h.get? P=some (PySem.W.tabObj ps))/\TriplesOk ps.toList/\
 ∀pos cv,codeAmong pos ps.toList=some cv->∃B F,cv = .ref B/\H B=some (Cu F)/\FM F q/\¬ A B
def IY:¬ Mt (Cu B):=λz=>by cases z
def BO.ch(h:BO P q A H)(h1:¬ A P->(∃ob,H P=some (kO P ob)/\∃h:Heap,h.get? P=some ob)->¬ A' P/\H' P=H P)(h2:∀c B,¬ A c->H c=some (Cu B)->¬ A' c/\H' c=H c):BO P q A' H':=by obtain⟨n,ps,g1,g2,g3,J⟩:=h;obtain⟨O,e⟩:=h1 n #[_,g1,g2];show#[O,ps,by rw[e];show g1,g2,g3,λpos cv z=>?_];obtain⟨F,B,U,I,Y,z4⟩:=J pos cv z;obtain⟨y1,y2⟩:=h2 F B z4 I;show#[F,B,U,by rw[y2];show I,Y,y1]
def BF (P:Addr)(q:Str):Jv where
 K:=BO P q
 same:=λh s=>h.ch (λn ⟨ob,e,_⟩=>#[n,by rw[s _ _ e,e]]) λc I n e=>#[n,by rw[s _ _ e,e]]
 grow:=λh g=>h.ch (λn ⟨ob,e,w⟩=>#[λz=>(g _ z).elim n λ⟨o,B,F,_⟩=>by rw[e] at B;cases B;show IW w F,A5]) λc I n e=>#[λz=>(g _ z).elim n λ⟨o,B,_,F⟩=>by rw[e] at B;cases B;show IY F,A5]
 upd:=λh a=>h.ch (λn _=>#[n,zc λz=>n (z ▸ a)]) λc I n e=>#[n,zc λz=>n (z ▸ a)]
 frz:=λh B F J=>h.ch (λn ⟨ob,e,w⟩=>#[n,zc λz=>by subst z;rw[e] at B;cases B;show IW w F]) λc I n e=>#[n,zc λz=>by subst z;rw[e] at B;cases B;show IY J]
def BO.tab(h:BO P q A H):Ek P q H:=by obtain⟨n,ps,g1,g2,g3,B⟩:=h;show#[ps,g1,g3,λpos cv z=>let ⟨c',oc,z1,z2,z3,_⟩:=B pos cv z;#[c',oc,z1,z2,z3]]
def BO.grown(h:BO P q A H)(I:Al A H)(g:Nk P q H H1):BO P q A H1/\zq H H1:=by
 obtain⟨n,J,k1,k2,_⟩:=h;obtain⟨⟨ps,g1,g3,O⟩,kp,U⟩:=g;show#[#[n,ps,g1,U ps g1,g3,λpos cv z=>?_],λb o e np=>kp b o (λz=>?_) e];obtain⟨B,Y,z1,F,z3⟩:=O pos cv z;show#[B,Y,z1,F,z3,λy=>?_];obtain⟨o,e1,_,e3⟩:=I B y;have:=kp B o (λz=>n (z ▸ y)) e1;rw[F] at this;cases this;show IY e3;subst z;rw[k1] at e;cases e;show IW k2 np
section
variable{P f:Addr}{cs:AY}{x y:Str}{k kk m:Nat}{pos:Pos}{st:Stmt}{Fp:AU->Prop}{fs:AC}
def mRef (Pn:PN)(P:Addr)(q:Str)(m:Nat)(Fp:AU->Prop)(A8:List '0')(fs:AC):AD:=λD n Q=>Pn.J=BF P q/\(fs (uy D A8) n λB F=>F=n/\B.length=m/\Fp B)/\Q (.d (.bl true)) n
def XR (ab:X.stack=X.env::X.outer)(ac:∀y,X.fn y=true)(R:FN X.prog X.w X.K X.mg X.base C cs (k+1) f)(hr:Room kk X.A)(ad:k+2<=kk)(hm:X.mg x=some (.ref f))(hk:PySem.W.keepIn X.K (.ref f)=true)(c:CompOk X scope N A8)(ag:(A8.filterMap id).Nodup)(an:scope.isCoroutine=false)(J:scope.isGenerator=false)(T:LamT X.K X.mg cc P)(hB:X.base.BuiltinsAt X.mg P)(B:X.env.code = .ref cc)(O:defaultsOf params X.env=([],[]))(hp:∀cl pm I as,bindArgs (PySem.W.kla_fn "<lambda>" ';' params (.Call (.Name y p1) (e::es) [] p2) scope cl pm (.ref I) as) #[[],[]]=pure [])(BB:Dfn X.K X.mg y st ps fA fd)(BA:FnOk X.prog X.w X.K X.mg X.base (CX1 X.prog X.w C) j fA fd ps (spX m Fp))(a0:j<=k)(a1:scope.names.lookup y=some .globalImplicit)(ha:∀l I (cl:List (Str×Addr)) (QH:Hp->Prop) (A:Ae) (outer:List Env) (s:AZ) (H:Hp),Room k (A.deeper (PySem.W.envX ';' scope s.heap.objs.size l (.ref I) cl))->
   JA (Ds X.prog X.w X.K X.mg X.base N ';' scope l (.ref I) cl A outer s H C (λ_ _ H'=>QH H')) Pn '(' (e::es) fs)(hg:Gl X x:=by rfl)(a2:Ah x:=by ext)(a3:Ah y:=by ext)(he:∀env,starEach (e::es) env=(false,eval e env)::starEach es env:=by intro _;rfl)(a4:∀env,(backTo p2 (starEach es env)).any (·.1)=false:=by intro _;rfl):
  JE X Pn M false (.Call (.Name x p) [.Lambda params (.Call (.Name y p1) (e::es) [] p2) scope lpos] [] pos) (mRef Pn P ';' m Fp A8 fs):=by
 show#[_,#[XM (k:=k) (cs:=cs) (N:=N) (A8:=A8) (P:=P) ab ac R (hr.mono ad) hg hm hk c an J T hB B O hp a2],#[λA G H D n Q R E Pp hf kq=>?_]];obtain⟨hJ,hf,hR⟩:=hf;have tj:BO P ';' A H:=by have:=Pp.2;rw[hJ] at this;show this
 show#[tj.tab,λH1 g=>?_];obtain⟨a5,U⟩:=tj.grown E.al g;have E1:=E.stay U
 have P1:y8 Pn A n H1:=by
  show#[?_,by rw[hJ];show a5];have:=Pp.1;split at this;trivial;obtain⟨_,bb,k1,_⟩:=tj;obtain⟨⟨⟨a,l,h1,h2,h3,h4⟩,⟨ob,h5⟩,h6⟩,h7⟩:=this;show#[#[#[a,l,g.2.1 _ _ (λz=>by rw[z,k1] at h1;cases h1) h1,h2,h3,h4],#[ob,g.2.1 _ _ (λz=>by rw[z,k1] at h5;cases h5) h5],h6],h7]
 show#[λH'=>Go Pn A H1 n H',λl I cl A' outer s Y=>?_,λe p H' g2 z1 z2 z3=>?_];obtain⟨ta,qa,ra⟩:=(ha l I cl (λH'=>Go Pn A H1 n H') A' outer s H1 Y).ex;show#[_,DB (E:=λ_ _ H'=>Go Pn A H1 n H') BA (Y.mono a0) a1 BB.m BB.F.kp BB.b .nil XD.pass qa.run a3 (he _) (a4 _),?_];show ra.run A _ H1 _ n _ _ (E1.cap ag) P1 hf ?_;rintro ws m' vs H2 ⟨rfl,a7,hF⟩ b g3;rw[bU];show#[Pn,A,ws,m',((E1.stay g3.st)).al,b,a7,g3.pn,hF,λv H' g4=>g3.trans g4];have s1:yL H' (upd H' e (BE e C)):=yL.upd z1;have s2:yL (upd H' e (BE e C)) (upd (upd H' e (BE e C)) p (.tup (cs.map V.ref))):=yL.upd (by rw[zc z2.symm];show z3);have g5:Go Pn A H1 n (upd (upd H' e (BE e C)) p (.tup (cs.map V.ref))):=(g2.trans (Go.same g2.pn s1)).trans (Go.same ((Go.same g2.pn s1).pn) s2);show kq _ n _ _ hR (Val.of A5) #[U.trans g5.st,g5.pn] λz=>by cases z
end
end L3
namespace L2
open PyProof.Rows
def FO (T:Addr)(H:Hp):Prop:=(∀b,b≠T->H b=none\/∃o xs,H b=some (.frz o '+'))/\H T=some (kO T (PySem.W.tabObj #v[]))/\∃h:Heap,h.get? T=some (PySem.W.tabObj #v[])
def XS{P:Aa}{mg mb:AI}{fa a T:Addr}{B:AZ}{vs:AN}(KX:K.In B.heap)(hT:B.heap.get? T=some (PySem.W.tabObj #v[]))(a2:K.lookup T=none)(a3:isCodeTable B.heap T)(ag:B.heap.Ns mainGlobals mg)(I:B.heap.Ns builtinsNs mb)(a4:∀x:Str,x ≠ "__name__" -> mb x=bootBuiltins x)(al:B.heap.NoLimit)(hg:B.gens = #v[])(ha:B.heap.get? a=some { cls:=.type "list",data:=.seq vs.toArray })(hi:IntsAre vs ns)(hl:ns.length<=sizeLine)(hr:Room k callerA)(a5:B.heap.BuiltinsAt mg T)(F:∀base:Heap,K.In base->base.Ns mainGlobals mg->base.BuiltinsAt mg T->FnOk P w K mg base CX k fa fd [x] sp)(ad:∀s u,BindsTo s fd #[[u],[]] [(x,u)])(a7:∀H:Hp,FO T H->SqL K H a '4'->sp [.ref a] H (λv H'=>v = .bl true/\∃ps,H' T=some (kO T (PySem.W.tabObj ps))) λ_ _ _=>False)(bb:∀H e s',CX [] H B (λ_ _ _=>False) e s'->False):
  codeAny (model P w) callerA (.call (.ref fa) #[[.ref a],[]]) (λr s'=>r = .ok (.ret (.bool true))/\OldK B.heap s'.heap/\s'.os=B.os/\AllBare s'.gens) B:=by
 have rv:=Ko hi;have bk:=hi.length;have an:a≠T:=λz=>by rw[z,hT] at ha;cases ha
 have Y:∀H:Hp,FO T H->SqL K H a '4'->HOk P w H B.heap->(∀b,H b≠none->b=a\/b=T)->(H a≠none->K.lookup a=none)->
   codeAny (model P w) callerA (.call (.ref fa) #[[.ref a],[]]) (λr s'=>r = .ok (.ret (.bool true))/\OldK B.heap s'.heap/\s'.os=B.os/\AllBare s'.gens) B:=by
  intro H hO hS as hA hK;have J:∀ {b:Addr} {o:Obj},B.heap.get? b=some o->H b=none->(BW B.heap H).get? b=some o:=λe n=>ON e n
  have bc:∀ {b:Addr} {o:Obj} {es:Array DictEntry} {ep:Nat},B.heap.get? b=some o->o.data = .dict es ep->H b=none:=λ{b o es ep} e d=>by
   cases q:H b with
   | none=>rfl
   | some u=>
    rcases hA b (by rw[q];simp) with z | z;rw[z,ha] at e;cases e;cases d;rw[z,hT] at e;cases e;cases d
  have U:∀ {b:Addr} {m:AI},B.heap.Ns b m->(BW B.heap H).Ns b m:=λ{b m} ⟨o,es,ep,e,d,r⟩=>#[o,es,ep,J e (bc e d),d,r]
  have a0:K.In (BW B.heap H):=λb o e=>J (KX b o e) (by
   cases q:H b with
   | none=>rfl
   | some u=>
    rcases hA b (by rw[q];simp) with z | z;have:=hK (by rw[<- z,q];simp);rw[z,this] at e;cases e;rw[z,a2] at e;cases e)
  have hM:Mod K mg (BW B.heap H):=#[a0,U ag,#[mb,U I,a4],let ⟨mc,h1,h2⟩:=al;#[mc,U h1,h2]];have e0:Env0 P w K mg (BW B.heap H) callerA [] B H:=#[A5,hM,λb o e=>OO e,Nat.le_of_eq (OM _ _),trivial,λb I=>absurd (show b∈([]:AY) from I) '$',as,.of_eq hg]
  have hB:(BW B.heap H).BuiltinsAt mg T:=by
   obtain⟨bm,o,b1,b2,b3,b4,b5,b6,b7,b8⟩:=a5;show#[bm,o,b1,b2,b3,b4,J b5 ?_,b6,b7,b8]
   cases q:H bm with
   | none=>rfl
   | some u=>
    rcases hA bm (by rw[q];simp) with z | z;rw[z,ha] at b5;cases b5;cases b8;show absurd z b4
  show dS ((F _ a0 (U ag) hB).run callerA [] B H #[[.ref a],[]] [.ref a] [.ref a] _ _ hr e0 (ad B (.ref a)) (.cons A5 .nil) (a7 H hO hS)) λr s' h=>?_
  cases r with
  | error e=>show (bb H e s' h).elim
  | ok fl=>
   cases fl with
   | next=>show False.elim h
   | brk=>show False.elim h
   | cont=>show False.elim h
   | ret u=>
    obtain⟨v,H',os,a1,un,ab,r',q⟩:=h;obtain⟨q',ps,bd⟩:v = .bl true/\∃ps,H' T=some (kO T (PySem.W.tabObj ps)):=q;subst q';obtain rfl:u=Value.bool true:=r';have gT:s'.heap.get? T=some (PySem.W.tabObj ps):=(ab T _ bd).1
    have ac:∀b o,b≠T->B.heap.get? b=some o->s'.heap.get? b=some o:=λb o I e=>by
     cases q:H b with
     | none=>show un.keep b o e q (by intro z;show absurd (show b∈([]:AY) from z) '$') '$'
     | some u=>
      rcases hO.1 b I with z | ⟨ob,xs,z⟩;rw[z] at q;cases q;have z2:=un.frzs b ob _ z;obtain⟨e1,_⟩:=as b _ z;obtain⟨e2,_⟩:=ab b _ z2;grind
    show#[A5,#[λb o e=>?_,λb o e=>?_],os,a1];by_cases I:b=T;subst I;rw[hT] at e;cases e;show .inr (.inl #[a3,A5,#v[],ps,A5,by rw[gT,Array.empty_append]]);show .inl (ac b o I e);by_cases I:b=T;show#[_,by rw[I];show gT];show#[_,ac b o I e]
 have okT:∀H:Hp,zJ P w H B.heap T (kO T (PySem.W.tabObj #v[])):=λH=>#[hT,#[_,hT],λh1 h2 p k=>k _ p]
 cases hk:K.lookup a with
 | some o=>
  have e:=KX a o hk;rw[ha] at e;cases e;show Y (λb=>if b=T then some (kO T (PySem.W.tabObj #v[])) else none) #[λb I=>.inl (if_neg I),if_pos A5,_,hT] (.inr #[_,vs.toArray,_,hk,A5,A5,A5,by right,by simpa using rv]) (λb u z=>?_) (λb z=>?_) λz=>absurd (if_neg an) z;by_cases I:b=T;have z':=(if_pos I).symm.trans z;cases z';subst I;show okT _;right;by_cases I:b=T;show .inr I;show absurd (if_neg I) z
 | none=>
  show Y (λb=>if b=a then some (.frz { cls:=.type "list",data:=.seq vs.toArray } (.lst '4')) else if b=T then some (kO T (PySem.W.tabObj #v[])) else none) #[λb I=>?_,?_,_,hT] (.inl (.inr #[{ cls:=.type "list",data:=.seq vs.toArray },if_pos A5])) (λb u z=>?_) (λb z=>?_) λ_=>hk;by_cases O:b=a;show .inr #[_,_,if_pos O];show .inl (by change (if b=a then _ else _)=none;rw[if_neg O,if_neg I]);change (if T=a then _ else _)=some _;rw[if_neg an.symm,if_pos rfl];by_cases I:b=a;have z':=(if_pos I).symm.trans z;cases z';subst I;show#[ha,by right,vs,_,rv,ha];have z':(if b=T then some (kO T (PySem.W.tabObj #v[])) else none)=some u:=(if_neg I).symm.trans z;by_cases O:b=T;rw[if_pos O] at z';cases z';subst O;show okT _;rw[if_neg O] at z';cases z';by_cases I:b=a;show .inl I;by_cases O:b=T;show .inr O;show absurd (show (if b=a then _ else _)=none by rw[if_neg I,if_neg O]) z
def b_{l:PySem.W.OpenLaw}{q:Aa}{J:AM}{d:DefRec}{K:Params->AH}{CX:Ab->CXT}{sp:Ab->Sp}{T:Addr}(hn:l.most=some n)(ab:n<=sizeLine)(ac:d.params.defaults=[])(hr:Room k callerA)(hY:∀ (w:Ab) (h:Heap),YP w h->(K w.params).In h/\h.get? T=some (PySem.W.tabObj #v[]))(ad:∀w:Ab,(K w.params).lookup T=none)(F:∀ (w:Ab) (mg:AI) (fa:Addr) (h:Heap),(K w.params).In h->h.Ns mainGlobals mg->mg d.name=some (.ref fa)->
   ∃fd:Ac,(∀ (s:AZ) (u:Value),BindsTo s fd #[[u],[]] [(x,u)])/\(∀h:Heap,(K w.params).In h->∃c,PySem.W.CodeHd h c T)/\
    ∀base:Heap,(K w.params).In base->base.Ns mainGlobals mg->base.BuiltinsAt mg T->FnOk l.prog w (K w.params) mg base (CX w) k fa fd [x] (sp w))(ag:∀ (w:Ab) (H:Hp) (a:Addr) (ns:AG),ns.length<=n->FO T H->SqL (K w.params) H a '4'->sp w [.ref a] H (λv H'=>v = .bl true/\∃ps,H' T=some (kO T (PySem.W.tabObj ps))) λ_ _ _=>False)(al:∀ (w:Ab) (H:Hp) (s:AZ) (e:Value) (s':AZ),CX w [] H s (λ_ _ _=>False) e s'->False):
  PySem.W.WalkO q J XP YP l.row.toRowW d [] (λf vs=>PySem.call f vs):=by
 show Att.attach_call hn ac λw a0 B mg mb fa o pm cd a1 a vs ns BA Y ho hd a2 an U O I hg=>?_;obtain⟨KX,hT⟩:=hY w _ Y;obtain⟨fd,hb,hC,hF⟩:=F w mg fa _ KX BA.T.g an;obtain⟨c,hC⟩:=hC _ KX
 have as:B.heap.BuiltinsAt mg T:=by
  obtain⟨bm,ob,b1,b2,b3,b4,b5,b6⟩:=BA.T.bmain;show#[bm,ob,b1,b2,λz=>?_,λz=>?_,b3,b4,b5,b6];obtain⟨o,es,ep,e,hd,_⟩:=BA.T.g;rw[<- z,b3] at e;cases e;rw[b6] at hd;cases hd;rw[z,hT] at b3;cases b3;cases b4
 show XS KX hT (ad w) (hC.tab hT).isCodeTable BA.T.g BA.T.b BA.T.builtins BA.T.nolimit hg U O (av I ab) hr as hF hb (λH hO hS=>ag w H a ns I hO hS) λH e s'=>al w H B e s'
def El (K:AH)(T:Addr):Sp:=λvs H Q _=>∃ (a:Addr) (ns:AG),vs=[.ref a]/\SqL K H a '4'/\ns.length<=63/\FO T H/\∀H',(∃ps,H' T=some (kO T (PySem.W.tabObj ps)))->Q (.bl true) H'
end L2
namespace L3
open L2
def XT{P:Aa}{mg:AI}{x:Str}{st:Stmt}{f T:Addr}{k r:Nat}{lq:Str}(M:AR)(Fu:Fun K x qual st f fd)(Sc:FnScope N ps (zb st))(ab:ps.length=1)(hN:N.length=r+2)(hM:∀i∈M,2<=i)(J:∀ (B:Value) (A:Ae) (outer:List Env) (s:AZ) (H:Hp) (E:XK) (Pn:PN),Room k (A.deeper (PyProof.Rows.envOfC qual (zb st) s.heap.objs.size f B))->fd.code=B->
   ∃s1 zu fs,zE st=s1::zu/\QS '='.nox s1 (BK (Cz (EN K) [] E0 (Cm (BX 0) Cy)) (BJ 1))/\
    JSs '='.nox Pn S M false zu fs/\∀p c ns,Pn=#[some (p,c,ns),BF T lq]->fs (none::some (.pen p)::List.replicate r none) 0 { nx:=λ_ _=>False,rt:=λw _=>w = .d (.bl true) }):FnOk P w K mg base CX0 (k+1) f fd ps (El K T):=by
 obtain⟨oc,od,kV,ag,pm,an,B,ct,al,rfl,lk,ac⟩:=Fu.ex;show Ez lk ac Sc (λvs H Q E h=>?_) (λA outer s H vs Q E hr h=>?_);obtain⟨a,ns,rfl,_⟩:=h;show ab.symm;obtain⟨a,ns,rfl,hS,hl,hO,q⟩:=h
 suffices hh:∃t,QSs '='.nox (zE st) t/\t { nx:=λ_ H'=>Q .non H',rt:=Q } (L2.yS N [.ref a]) H by obtain⟨t,h1,h2⟩:=hh;show#[t,h1.run.nox,h2]
 have O:=λ(Pn:PN)=>J B A outer s H E Pn hr A5;have Y:L2.yS N [.ref a]=some (.ref a)::none::List.replicate r none:=by unfold L2.yS;rw[hN];rfl
 have hd:∃s1 zu,zE st=s1::zu:=let ⟨s1,zu,_,e,_⟩:=O #[none,BF T lq];#[s1,zu,e];obtain⟨s1,zu,e0⟩:=hd;rw[e0];have c2:∀Pn,∃fs,JSs '='.nox Pn S M false zu fs/\∀p c ns,Pn=#[some (p,c,ns),BF T lq]->fs (none::some (.pen p)::List.replicate r none) 0 { nx:=λ_ _=>False,rt:=λw _=>w = .d (.bl true) }:=λPn=>by obtain⟨ad,U,fs,e,_,h1,h2⟩:=O Pn;rw[e0] at e;cases e;show#[fs,h1,h2]
 have q1:QS '='.nox s1 (BK (Cz (EN K) [] E0 (Cm (BX 0) Cy)) (BJ 1)):=by
  obtain⟨ad,U,fs,e,h0,_⟩:=O #[none,BF T lq];right
 show#[_,zD q1 (u:=λBB G H=>∃Pn,(c2 Pn).choose_spec.1.ex.choose BB G H) #[λA6 s' G H BB I ⟨Pn,z⟩=>(c2 Pn).choose_spec.1.ex.choose_spec.1.run A6 s' G H BB I z],?_];show#[.ref a,by rw[Y];rfl,a,ns,A5,hS,hl,λp c H1 P1 S1=>#[#[some (p,c,ns),BF T lq],?_]];have hs:=(c2 #[some (p,c,ns),BF T lq]).choose_spec.2 p c ns A5;have e1:(L2.yS N [.ref a]).set 1 (some (.ref p))=some (.ref a)::some (.ref p)::List.replicate r none:=by rw[Y];rfl
 rw[e1]
 have F:∀i (u:W),(none::some (.pen p)::List.replicate r none:Ev)[i]?=some (some u)->i=1/\u = .pen p:=λi u e=>by
  match i,e with
  | 0,e=>simp at e
  | 1,e=>show#[A5,by simpa using e.symm]
  | i+2,e=>
   simp only[cR] at e;obtain⟨_,q⟩:=ai.mp e;right
 have tj:BO T lq (λ_=>False) H1:=#[λz=>z,#v[],S1 _ _ hO.2.1,hO.2.2,trivial,λpos cv z=>by cases z];show (c2 #[some (p,c,ns),BF T lq]).choose_spec.1.ex.choose_spec.2.run { A0:=λ_=>False,H0:=λ_=>none,G0:=λ_=>none,σ0:=some (.ref a)::some (.ref p)::List.replicate r none } (λ_=>False) _ H1 _ 0 _ _ #[#[?_,?_,?_,λ_ z=>z.elim],#[λ_ z=>z,λ_ z=>z.elim,(λb o (z:(none:Option HO)=some o)=>nomatch z),λ_ z=>z.elim,λ_ z=>z.elim,λ_ z=>z.elim],#[#[P1,λz=>z,λz=>z],tj],(λb o (z:(none:Option HO)=some o)=>nomatch z),#[λi hi=>rfl,λ_=>#[λb xs (z:(none:Option HO)=some (.lst xs))=>(nomatch z),λb xs (z:(none:Option HO)=some (.lst xs))=>(nomatch z)]],?_] #[?_,?_,?_,λ_ z=>z,?_] hs;simp;intro i u e;obtain⟨rfl,rfl⟩:=F i u e;show#[.ref p,A5,λ_=>rfl,λz=>absurd (hM 1 z) '!'];intro i j u u' b hi hj as e1;obtain⟨rfl,rfl⟩:=F i u e1;show absurd (hM 1 hi) '!';intro i u b hi e;obtain⟨rfl,rfl⟩:=F i u e;show absurd (hM 1 hi) '!';intro _ _ _ _ _ _ z;show z.elim;intro _ _ _ _ _ _ z;show z.elim;intro _ _ _ _ _ _ z;show z.elim;intro w n' v H' hv st pn _ r;have r':w = .d (.bl true):=r;subst r';have:v = .bl true:=hv;subst this;obtain⟨_,ps,h1,_⟩:=pn.2;show q H' #[ps,h1]
end L3
namespace L2
open PyProof.Rows
def Nl:Sp:=λvs H Q _=>∃p c ns n zy,vs=[.ref p,.int zy]/\Pen H p c ns n/\n<=1000000/\1<=zy/\zy<1073741824/\
 ∀r H',0<=r->r<zy->Pen H' p c ns (n+1)->(∀b o,b≠p->H b=some o->H' b=some o)->Q (.int r) H'
def IZ{p:_}:∀b u,b≠p->H b=some u->upd H p o b=some u:=λb u B e=>by rw[zc B];show e
end L2
namespace L3
open L2
def PenJ (J:Jv):Prop:=∀A H H' p c a l,J.K A H->H p=some (.dK (Ba c a l))->(∀b o,b≠p->H b=some o->H' b=some o)->J.K A H'
def XU:PenJ (BF P q):=λA H H' p c a l h hp k=>BO.ch h (λn ⟨ob,e,_⟩=>#[n,by rw[k _ _ (λz=>by rw[z,hp] at e;cases e) e,e]]) λc B n e=>#[n,by rw[k _ _ (λz=>by rw[z,hp] at e;cases e) e,e]]
def IsQ (Pn:PN)(p:Addr):Prop:=(∃c ns,Pn.pn=some (p,c,ns))/\PenJ Pn.J
def I_:FV:=λPn B n R=>∃p zy,IsQ Pn p/\B=[.pen p,.d (.int zy)]/\n<=1000000/\1<=zy/\zy<1073741824/\∀r,0<=r->r<zy->R (.d (.int r)) (n+1)
def XV:FA 2 false I_ Nl:=by
 rintro vs H Q E ⟨Pn,A,ws,n,R,al,J,hl,hp,⟨p,zy,⟨⟨c,ns,B⟩,O⟩,rfl,h1,h2,U,Y⟩,q⟩;obtain⟨v,y,rfl,b1,b2⟩:=VT J;have e1:v = .ref p:=b1;have e2:y = .int zy:=b2;subst e1 e2;obtain⟨F,I⟩:=hp;rw[B] at F;obtain⟨P1,nc,np⟩:=F;obtain⟨a,l,g1,_⟩:=P1.ob;show#[p,c,ns,n,zy,A5,P1,h1,h2,U,λr H' r0 r1 P' S'=>q _ (n+1) _ H' (Y r r0 r1) (Val.of A5) #[λb o e n'=>S' b o (λz=>?_) e,#[?_,O _ _ _ _ _ _ _ I g1 S']] λz=>by cases z];subst z;rw[g1] at e;cases e;have:=n' _ A5;rw[GM] at this;cases this;rw[B];show#[P',nc,np]
def tk{p:_}{zy:Int}(B:IsQ Pn p)(h:∀r,0<=r->r<zy->Q (.d (.int r)) (n+1))(F:n<=1000000:=by lia)(h1:1<=zy:=by lia)(h2:zy<1073741824:=by lia):I_ Pn [.pen p,.d (.int zy)] n Q:=#[p,zy,B,A5,F,h1,h2,h]
abbrev dAny:AU->Mo W:=λB n Q=>on1 B λx=>onL x λl=>∃bs:List Bool,l=bs.map .bl/\Q (.d (.bl (bs.any id))) n
end L3
namespace L2
open PyProof.Rows
def XW{x:V}{u t:Value}(I:'&')(B:ye x u)(ty:TyOf X.K H x t)(J:∃T,t = .type T):∃Hh,PySem.W.KitX X.K u t Hh/\Hh s.heap/\u≠.builtin "__main__.__loader__#opaque" := by
 cases ty with
 | non=>cases (show u=Value.none from B);show#[_,PySem.W.kitx_none,True.intro,λz=>nomatch z]
 | bl y=>cases (show u=Value.bool y from B);show#[_,PySem.W.kitx_bool,True.intro,λz=>nomatch z]
 | int i=>obtain⟨t,q⟩:=(show ∃t,u=Value.int i t from B);cases q;show#[_,PySem.W.kitx_int,True.intro,λz=>nomatch z]
 | str y=>obtain⟨t,q⟩:=(show ∃t,u=Value.str y t from B);cases q;show#[_,PySem.W.kitx_str,True.intro,λz=>nomatch z]
 | flt y=>obtain⟨t,q⟩:=(show ∃t,u=Value.float y t from B);cases q;show#[_,PySem.W.kitx_float,True.intro,λz=>nomatch z]
 | @lst a xs F=>
  cases (show u=Value.ref a from B);obtain⟨_,_,n,_,h1⟩:=(show zJ X.prog X.w H s.heap a '+' from I.hok a _ F);show#[_,fF,#[_,h1,A5],λz=>nomatch z]
 | @frz a ob xs F=>
  cases (show u=Value.ref a from B);obtain⟨_,_,_,n,_,h1⟩:=(show zJ X.prog X.w H s.heap a (.frz ob '+') from I.hok a _ F);show#[_,fF,#[_,h1,A5],λz=>nomatch z]
 | @tup a xs F=>
  cases (show u=Value.ref a from B);obtain⟨_,_,_,p⟩:=(show zJ X.prog X.w H s.heap a (.tup xs) from I.hok a _ F);obtain⟨o,h1,h2,_⟩:=p;show#[_,PySem.W.kitx_tuple,#[o,h1,h2],λz=>nomatch z]
 | @dK a A7 F=>
  cases (show u=Value.ref a from B);obtain⟨_,_,vs,_,p⟩:=(show zJ X.prog X.w H s.heap a (.dK A7) from I.hok a _ F);obtain⟨o,es,ep,h1,h2,_⟩:=p;show#[_,fG,#[o,h1,h2.1],λz=>nomatch z]
 | @dT a A7 F=>
  cases (show u=Value.ref a from B);obtain⟨_,_,xs,_,o,es,ep,h1,h2,_⟩:=(show zJ X.prog X.w H s.heap a (.dT A7) from I.hok a _ F);show#[_,fG,#[o,h1,h2.1],λz=>nomatch z]
 | @ins a C dx fs F cl U Y O hm=>obtain⟨T,z⟩:=J;cases z
def XX:CallQ X (.builtin "isinstance") (λxs H Q=>∃x p T1 T2 T b,xs=[x,.ref p]/\H p=some (.tup [.ty T1,.ty T2])/\TyOf X.K H x (.type T)/\PySem.W.kitAny X.K (.type T) [.type T1,.type T2]=some b/\Q (.bl b) H):=#[by
 intro A6 s G H xs us Q I r h;obtain⟨x,p,T1,T2,T,b,rfl,hp,ty,B,q⟩:=h;obtain⟨u,c,rfl,F,J⟩:=DA r;cases J;obtain⟨O,U,p1,_⟩:=I.tuple (.of hp);obtain⟨c1,c2,rfl,Y,z2⟩:=DA U;cases Y;cases z2;obtain⟨⟨cls,dd,data,sl⟩,ho,hc,n,hd⟩:=id p1;cases hc;cases hd;obtain⟨Hh,kx,hh,ne⟩:=XW I F ty #[T,A5];show PySem.W.kia_tup kx I.kIn hh ho B ne λtk=>#[.bl b,H,I.tok tk,A5,q]]
end L2
namespace L3
open L2
section
variable{pos:Pos}
abbrev Nm:Dt->Bool
 | .tup _=>true
 | .lst _=>true
 | _=>false
def XY (K:AH)(d:Dt):PySem.W.kitAny K (.type d.ty) [.type "tuple",.type "list"]=some (Nm d):=by cases d <;> rfl
def Nn{k:Nat}(h:JB X Pn M e f)(Y:X.mg "isinstance" = none)(F:X.mg "tuple" = none)(I:X.mg "list" = none)(hg:Gl X "isinstance" := by rfl)(J:Gl X "tuple" := by rfl)(O:Gl X "list" := by rfl)(B:starEach (e::[.Tuple [.Name "tuple" p1,.Name "list" p2] k p3]) X.env=(false,eval e X.env)::starEach [.Tuple [.Name "tuple" p1,.Name "list" p2] k p3] X.env:=by rfl)(U:(backTo pos (starEach [.Tuple [.Name "tuple" p1,.Name "list" p2] k p3] X.env)).any (·.1)=false:=by rfl):
  JE X Pn M false (.Call (.Name "isinstance" p) [e,.Tuple [.Name "tuple" p1,.Name "list" p2] k p3] [] pos) (Cg Nm f):=by
 obtain⟨te,q,r⟩:=h.ex;show#[_,yr XX hg Y cr (zB q (zB (KE (zB (EH (v:=.ty "tuple") J F bD A5) (zB (EH (v:=.ty "list") O I PyProof.Rows.boot_list A5) yu))) yu) B) '#' '#' B U,'7'];show r.run A G H D n _ _ E P hf ?_;rintro w m v H' ⟨d,e,rr⟩ bb g;subst e;show#[by change 2<=sizeLine;decide,λa ha=>?_];have s1:yL H' (upd H' a (.tup [.ty "tuple",.ty "list"])):=yL.upd ha;show#[v,a,"tuple","list",_,_,A5,zg,(bb.is.stay (zq.same s1)).ty,XY _ d,k _ m _ _ rr (Val.of A5) (g.trans (Go.same g.pn s1)) λz=>by cases z]
end
def XZ{P:Aa}{mg:AI}{f:Addr}{F:FV}(h:∀Pn B n R,¬ F Pn B n R):FnOk P w K mg base CX k f fd ps (spV m fr F):=
 #[λ_ _ _ _ ⟨_,_,_,_,_,_,_,_,_,z,_⟩=>absurd z (h _ _ _ _),λ_ _ _ _ _ _ _ _ _ _ _ _ _ ⟨_,_,_,_,_,_,_,_,_,z,_⟩=>absurd z (h _ _ _ _)]
end L3
namespace L2
open PyProof.Rows PySem.W PySem.Calls
def X0(r:Paired PrN ks xs)(k:Dt):(De ks k).isSome=(atKey xs k).isSome:=by have:=(UO r k).isSome_eq;rwa[el] at this
def X1(r:Paired PrN ks xs)(k:Dt)(I:ye v u):Paired PrN (ks.map λq=>if q.1=k then (q.1,q.2.1,v) else q) (xs.map (putAt k u)):=by
 induction r with
 | nil=>show .nil
 | @cons p q ps O h _ J=>
  obtain⟨B,F,h⟩:=h;show .cons ?_ J;change PrN (if p.1=k then (p.1,p.2.1,v) else p) _;unfold putAt;rw[B];split;show#[A5,F,I];show#[B,F,h]
def X2{p:_}(r:Paired PrN ks xs)(h:PrN p q):Paired PrN (ks++[p]) (xs++[q]):=by
 induction r with
 | nil=>show .cons h .nil
 | cons h _ B=>show .cons h B
def X3(r:Paired PrN ks xs):xs.map (λq=>Value.ref q.2.1)=ks.map (λq=>Value.ref q.2.1)/\xs.map (·.1)=ks.map (·.1):=by
 induction r with
 | nil=>show#[A5,A5]
 | cons a _ B=>obtain⟨F,I,_⟩:=a;show#[by rw[ax,ax,B.1,I],by rw[ax,ax,B.2,F]]
def X4(r:Paired PrN ks xs)(k:Dt)(b:Addr)(B:ye v u):Paired PrN (B3 ks k b v) (storedH xs k b u):=by
 unfold B3 storedH;rw[X0 r k];split;show X1 r k B;show X2 r #[A5,A5,B]
def X5 (ks:List (Dt×Addr×V))(k:Dt)(b:Addr)(v:V):(B3 ks k b v).length<=ks.length+1:=by
 unfold B3;split;rw[af];show Nat.le_succ _;rw[ay];show ak _
def X6(h:ur H ks)(h1:k.hk=true)(h2:k.kk)(I:Is H k (.ref b)):ur H (B3 ks k b v):=by
 intro q B;unfold B3 at B;split at B
 ·obtain⟨J,F,rfl⟩:=aH.mp B;have:=h J F;split
  all_goals show this
 rcases aA.mp B with z | z;show h q z;rw[ao.mp z];show#[h1,h2,I]
section
variable{a b:Addr}{ks:List (Dt×Addr×V)}{k:Dt}{A:Ae}
def Ja (H:Hp)(k:Dt)(b:Addr):Prop:=k.hk=true/\k.kk/\Is H k (.ref b)
def NdAt (H:Hp)(a:Addr)(ks:List (Dt×Addr×V)):Prop:=Rd H a (ddO a ks)/\ur H ks
def X7 (B:A.units+64<cLine):(HH X.prog X.w).room A.in1:=by change A.units+1+9<cLine;lia
def X8(O:A.units+64<cLine)(I:'&')(e:H a=some (ddO a ks))(g:ur H ks)(B:Ja H k b)(l:ks.length<sizeLine)(U:ye v u)(h:∀s',Inv X A6 G (upd H a (ddO a (B3 ks k b v))) s'->Q () s'):
  wpAny '5' A (setItem (.ref a) (.ref b) u) Q E s:=by
 obtain⟨lo,z,xs,r,dd⟩:=UQ I (.inl e) g;have Y:xs.length<=sizeLine:=by rw[<- ge r];show z
 show wpAny_setItem_heap (hsz:=Y) (X7 O) (Mi I B.1 B.2.1 B.2.2) dd λh' F hs=>h _ ?_;obtain⟨q,es,ep,J,h2,h3,h4,_,h5⟩:=F;show C5 I (by rw[e];show True.intro) hs #[q,J] (HI #[av (X5 ks k b v) l,lo,_,X4 r k b U,q,es,ep,J,h2,h3,h4,h5])
end
section
variable{o i:Expr}{pos:Pos}{ty:TE}
def X9 (td ty tv:TE):TS:=λBB G H=>tv G H λv H1=>td G H1 λx H2=>ty G H2 λy H3=>∃a b k ks,x = .ref a/\y = .ref b/\H3 a=some (ddO a ks)/\ur H3 ks/\Ja H3 k b/\ks.length<sizeLine/\BB.nx G (upd H3 a (ddO a (B3 ks k b v)))
def X_ (B:X.A.units+64<cLine)(F:QE X o td)(hi:QE X i ty)(J:QE X value tv)(hs:swapsWith value (some (.Subscript o i pos')) pos.line X.env=pure false):
  QS X (.Assign [.Subscript o i pos'] value pos) (X9 td ty tv):=#[by
 intro A6 s G H BB I h;show wpAny_Assign_Subscript (thn (J.run A6 s G H _ I h) λr s1 ⟨v,H1,I1,O,U⟩=>thn (F.run A6 s1 G H1 _ I1 U) λu Y ⟨x,H2,I2,rx,q2⟩=>thn (hi.run A6 Y G H2 _ I2 q2) λiv s3 ⟨y,H3,I3,ry,a,b,k,ks,ex,ey,e,g,gk,l,q3⟩=>?_) hs;subst ex ey;obtain rfl:u=Value.ref a:=rx;obtain rfl:iv=Value.ref b:=ry;show X8 B I3 e g gk l O λs4 I4=>#[G,_,I4,q3]]
def Ya(h:Heap)(B:sysModules<h.objs.size):zJ P w H (h.push { cls:=.type "dict",data:=.dict #v[] }) h.objs.size (ddO h.objs.size []):=
 HI #[aQ _,gu.mpr (Ne.symm (aY B)),[],.nil,_,#v[],0,ar _ A5,#[A5,A5,A5],A5,A5,fM]
def Yb:TE:=λ_ H Q=>∀p,H p=none->Q (.ref p) (upd H p (ddO p []))
def Yc:QE X (.Dict [] [] pos) (Yb):=#[λA6 s G H Q I h=>
 wpAny_Dict_empty #[.ref s.heap.objs.size,_,I.laid (a:=s.heap.objs.size) (o:=ddO s.heap.objs.size []) (t':=s.toks) (λ_ _ q=>ah _ q) (ak _) (Ya s.heap I.big),A5,h _ (I.hok.fresh (ak _))]]
variable{a:Addr}{ks:List (Dt×Addr×V)}
def Inv.frzN (I:'&')(h:H a=some (ddO a ks)):∃ob,Inv X A6 G (upd H a (.frz ob (ddO a ks))) s:=by have k:=(show zJ X.prog X.w H s.heap a (ddO a ks) from I.hok a _ h);obtain⟨⟨z,lo,xs,r,o,es,ep,h1,q⟩,_⟩:=id k;show#[o,I.write (x:=a) (e:=a) (h':=s.heap) (t':=s.toks) (by rw[h];trivial) (.inl A5) (λ_ _ _ e=>e) #[o,h1] #[h1,HI #[z,lo,xs,r,o,es,ep,h1,q]]]
def Yd (te:TE):TE:=λG H Q=>te G H λx H1=>∃a ks,x = .ref a/\H1 a=some (ddO a ks)/\∀ob,Q x (upd H1 a (.frz ob (ddO a ks)))
def Ye(h:QE X e te):QE X e (Yd te):=#[by
 intro A6 s G H Q I q;show thn (h.run A6 s G H _ I q) ?_;rintro v s1 ⟨x,H1,I1,B,a,ks,rfl,F,J⟩;obtain⟨ob,I2⟩:=I1.frzN F;show#[_,_,I2,B,J ob]]
def Yf (I:'&')(h:NdAt H a ks):
  (a==sysModules)=false/\∃es ep ob,s.heap.get? a=some ob/\ob.ExactDict/\ob.data = .dict es ep/\es.toList.map (·.key)=ks.map (λq=>Value.ref q.2.1)/\(ks.map (·.1)).Nodup/\ks.length<=sizeLine:=by
 obtain⟨⟨z,lo,xs,r,o,es,ep,h1,h2,F,J,O⟩,_⟩:=(show zJ X.prog X.w H s.heap a (ddO a ks) from h.1.ok I.hok);have B:=X3 r;show#[lo,es,ep,o,h1,h2,F,?_,by rw[<- B.2];show O,z];rw[J,aK,<- B.1];rfl
end
def Itn (d:Addr)(ob:Obj)(u:HO)(ys:AY):It:=
 #[λi H=>H d=some (.frz ob u)/\i<ys.length,λi H x H'=>H'=H/\∃q,ys[i]?=some q/\x = .ref q,λi H=>H d=some (.frz ob u)/\i=ys.length]
def Yg{P:Aa}{u:HO}{ys:AY}{es:Array DictEntry}{ep:Nat}(d it:Addr)(hx:ob.ExactDict)(hd:ob.data = .dict es ep)(J:es.toList.map (·.key)=ys.map Value.ref):
  Turn P w K tg (Itn d ob u ys) [it] it (λi h=>h.IsKeyIter it d i es.size ep) where
 mem:=by simp
 obj:=λi h st b B=>by
  have e:b=it:=by simpa using B
  subst e;obtain⟨o,e,c,d⟩:=st;right
 keep:=λi h h' ⟨o,e,r⟩ k=>#[o,k it '$' o e,r]
 item:=by
  rintro X O U Y hc i A6 s G H E I hf st ⟨hg,hi⟩;subst O U Y;obtain⟨f0,f1,f2,f3,f4,f5⟩:=hf it '$';have hm:Cd s.heap d es ep:=#[ob,(I.hok d _ hg).1,hx,hd];have hl:es.toList.length=ys.length:=by have:=congrArg List.length J;rwa[af,af] at this
  have e1:es[i]?=some es.toList[i]:=by rw[B1,am]
  have e2:es.toList[i].key=Value.ref ys[i]:=by
   have:(es.toList.map (·.key))[i]?=(ys.map Value.ref)[i]?:=by rw[J]
   rw[aF,aF,am '!',am hi] at this;right
  show Ue st hm e1 λh' F sb=>?_;have I1:Inv X A6 G H '1':=I.turned (t':=s.toks) (λb o B e=>(sb.2 b B).trans e) f0 f1 f3 f4 f5;obtain⟨o,e,c,d⟩:=id F;show#[_,A5,Eu (s:='1') e c d '#' #[.ref ys[i],H,I1,e2,#[A5,_,am hi,A5],F,λb B=>(hf b B).1]]
 done:=by
  rintro X O U Y hc i A6 s G H E I hf st ⟨hg,hi⟩;subst O U Y;obtain⟨f0,f1,f2,f3,f4,f5⟩:=hf it '$';have hm:Cd s.heap d es ep:=#[ob,(I.hok d _ hg).1,hx,hd];have hl:es.size=ys.length:=by have:=congrArg List.length J;rwa[af,af,aM] at this
  subst hi;rw[<- hl] at st;show Ug (I.ok.hd hc) st hm λh' eb=>#[A5,I.turned (t':=s.toks) (λb o B e=>eb b o B e) f0 f1 f3 f4 f5]
 self:=λ_ _ _ _ _ st h=>wpAny_pyIter_keyiter st h
def Yh (te:TE):TI:=λG H R=>te G H λx H1=>∃a ob ks,x = .ref a/\H1 a=some (.frz ob (ddO a ks))/\ur H1 ks/\((ks.map (·.1)).Nodup->R (Itn a ob (ddO a ks) (ks.map (·.2.1))) H1)
def Yi(h:QE X e te):QI X tg e (Yh te):=#[by
 intro A6 s G H R I q;show thn (h.run A6 s G H _ I q) ?_;rintro v s1 ⟨x,H1,I1,U,a,ob,ks,rfl,B,Y,q1⟩;cases U;obtain⟨lo,es,ep,o,F,J,O,e1,nd,_⟩:=Yf I1 #[.inr #[ob,B],Y];have e:o=ob:=by have:=(I1.hok a _ B).1;rw[F] at this;show bL this
 subst e;show Uc lo #[o,F,J,O] ?_;show#[s1.heap.objs.size,[s1.heap.objs.size],_,_,H1,A5,I1.kept (t':=s1.toks) λb o e=>ah _ e,Yg (ys:=ks.map (·.2.1)) a _ J O (by rw[aK];show e1),#[_,ar _ A5,A5,A5],λb hb=>?_,q1 nd];have e:b=s1.heap.objs.size:=by simpa using hb
 subst e;show I1.fpOk (ak _) (I1.hok.fresh (ak _))]
end L2
namespace L3
open L2
abbrev onM (w:W)(P:List (Dt×Dt)->Prop):Prop:=match w with | .dn _ i=>P i | _=>False
abbrev C0 (w:W)(P:List (Dt×Dt)->Prop):Prop:=match w with | .dn false i=>P i | _=>False
def Jb{w:_}:C0 w P = ∃i,w = .dn false i/\P i:=propext #[λh=>by
 cases w with
 | dn b i=>cases b <;> first | show False.elim h | show#[_,A5,h]
 | _=>show False.elim h,by rintro⟨i,rfl,h⟩;show h]
abbrev onMz (w:W)(P:List (Dt×Dt)->Prop):Prop:=match w with | .dn true i=>P i | _=>False
def Yj{w:_}:onMz w P = ∃i,w = .dn true i/\P i:=propext #[λh=>by
 cases w with
 | dn b i=>cases b <;> first | show False.elim h | show#[_,A5,h]
 | _=>show False.elim h,by rintro⟨i,rfl,h⟩;show h]
def Yk (ks:List (Dt×Addr×V))(k:Dt)(b:Addr)(v:V):kvN (B3 ks k b v)=u6 (kvN ks) k v:=by
 have e:(De ks k).isSome=(kvN ks).any λkv=>decide (kv.1=k):=by
  unfold De kvN;rw[el,iG]
  induction ks with
  | nil=>rfl
  | cons q r B=>
   rw[bV,dB];change _=(decide (q.1=k) || _)
   cases decide (q.1=k) with
   | true=>rfl
   | false=>rw[Bool.false_or];show B
 unfold B3 u6;rw[<- e];split
 ·unfold kvN;rw[aK,aK];show eM λq _=>?_;change ((if q.1=k then (q.1,q.2.1,v) else q).1,(if q.1=k then (q.1,q.2.1,v) else q).2.2)=if q.1=k then (q.1,v) else (q.1,q.2.2);split <;> rfl
 unfold kvN;rw[aP];rfl
def Yl(h1:k.hk=true)(h2:k.kk)(h:Bor A H (.d k) v)(B:k.isTup=true):∃b,v = .ref b/\Ja H k b/\Is (zF A H) k (.ref b):=by
 cases k with
 | tup l=>
  have h':Is (zF A H) (.tup l) v:=h;obtain⟨b,xs,rfl,g1,g2⟩:=id h';show#[b,A5,#[h1,h2,Bor.is h],h']
 | _=>cases B
def _root_.L2.Dt.ky (k:Dt):Prop:=k.hk=true/\k.kk/\k.isTup=true
section
variable{pos:Pos}{a b:Expr}
abbrev dInN (B:Bool):W->W->Mo W:=λx y n Q=>onD x λk=>onM y λA7=>k.ky/\Q (.d (.bl (xr B (yE A7 k).isSome))) n
abbrev dNGet (fd fk:AD):AD:=λD n Q=>fd D n λx n1=>fk D n1 λy n2=>onM x λA7=>onD y λk=>k.ky/\onO (yE A7 k) λd=>Q (.d d) n2
def Yn:JE X Pn M true (.Dict [] [] pos) (mC (.dn false [])):=#[_,Yc,#[λA G H D n Q R E P hf k=>λp np=>by have S:=yL.upd (o:=ddO p []) np;have B:∀ {T:Hp},T p=some (ddO p [])->BM false T p []:=λh=>h;show k _ n _ _ hf #[p,[],A5,B (zv (E.new np) zg),(λq z=>by cases z),A5] (Go.same P S) λ_=>#[p,A5,.of np,#[_,zg,A5],p,[],A5,B zg,(λq z=>by cases z),A5]]]
abbrev No (i:Nat)(fk f:AD):Ms:=λD n k=>onV D i λv=>C0 v λ_=>f D n λw m=>fk D m λy F=>onD w λd=>onD y λkd=>onV D i λI=>C0 I λA7=>kd.ky/\A7.length<lim/\onP D i (.dn false (Bp A7 kd d)) λB=>k.nx B F
def Yo (i:Nat){x:Str}{sp:Pos}(hu:X.A.units+64<cLine)(hk:JB X Pn M c fc)(he:JE X Pn M fr' e f)(hi:i∈M:=by ext)(hN:X.N[i]?=some x:=by rfl)(hv:Vis X.env.scope x:=by fail"v")(hd:Ah x:=by ext)(ab:h_ x:=by ext)(hs:swapsWith e (some (.Subscript (.Name x np) c p)) sp.line X.env=pure false:=by rfl):
  JS X Pn S M fr (.Assign [.Subscript (.Name x np) c p] e sp) (No i fc f):=by
 obtain⟨te,q,r⟩:=he.ex;obtain⟨tk,qk,rk⟩:=hk.ex;show#[_,X_ hu (qv i hN hv hd ab) qk q hs,#[ ?_]];rintro B A G H D n k BB a kk hf;unfold No at hf;rw[Cs] at hf;obtain⟨w0,e0,hf⟩:=hf;rw[Jb] at hf;obtain⟨l0,rfl,hf⟩:=hf;obtain⟨v0,s0,_,o3⟩:=a.env.val i _ e0;obtain⟨J,rfl,hA,ag,_⟩:=o3 hi;show r.run A G H D n _ _ a.env a.pn hf λw m v H1 r1 ac g1 _=>#[.ref J,s0,?_];have a1:=a.step g1;show rk.run A G H1 D m _ _ a1.env a1.pn r1 λy m2 v2 H2 F b2 g2=>?_;rw[xD] at F;obtain⟨d,rfl,F⟩:=F;rw[xD] at F;obtain⟨kd,rfl,F⟩:=F;rw[Cs] at F;obtain⟨w3,e,F⟩:=F;rw[Jb] at F;obtain⟨A7,rfl,⟨k1,k2,k3⟩,hz,F⟩:=F;rw[Ct] at F;have a2:=a1.step g2;obtain⟨v3,s3,_,o4⟩:=a2.env.val i _ e;rw[s0] at s3;cases s3;obtain⟨al,e4,_,hb,_⟩:=o4 hi;cases e4;obtain⟨a5,ks,e5,I,O,U⟩:=hb;cases e5;have I:H2 J=some (ddO J ks):=I;obtain⟨bd,rfl,gk,bk⟩:=Yl k1 k2 b2 k3;have Y:ks.length=A7.length:=by have:=U.len;rw[show (kvN ks).length=ks.length from af ..] at this;show this
 show#[J,bd,kd,ks,A5,A5,I,O.stay (zq.same zw),gk,CM (by rw[Y];show cS hz),kk.nx A G _ _ m2 (a2.wrX (w':=.dn false (Bp A7 kd d)) hi e s0 #[J,_,A5,zg,X6 O k1 k2 bk,?_] A5 Fe A5) F];rw[Yk];show U.put (ac.stay g2.st).is
def Yp{A:AL}{p:Addr}(h:y8 Pn A n H)(hp:H p=some (ddO p ks)):y8 Pn A n (L2.upd H p o):=by
 show#[?_,Pn.J.frz h.2 hp Fe A5];have h:=h.1;split at h;trivial;show#[?_,h.2];obtain⟨h1,_⟩:=h;obtain⟨a,l,g1,g2⟩:=h1.ob;show#[#[a,l,by rw[zc λz=>by rw[z,hp] at g1;cases g1];show g1,g2],let ⟨ob,e⟩:=h1.ls;#[ob,by rw[zc λz=>by rw[z,hp] at e;cases e];show e],h1.len]
abbrev Yq (f:AD):AD:=λD n Q=>f D n λx m=>C0 x λA7=>Q (.dn true A7) m
def Yr{BA:Hp}{a:Addr}{A7:List (Dt×Dt)}(h:G' a=some (.frz ob (ddO a ks)))(s:zq BA G')(h2:ur BA ks)(B:xN BA A7 (kvN ks)):WAt G' G' (.dn true A7) (.ref a):=
 #[a,ks,A5,(if_pos A5).mpr #[ob,h],h2.stay s,B.stay s]
def Ys (h:JE X Pn M true e f):JE X Pn M false e (Yq f):=by
 obtain⟨te,q,r⟩:=h.ex;show#[_,Ye q,'7'];show r.run A G H D n _ _ E P hf λw m v H' F hv g Y=>?_;rw[Jb] at F;obtain⟨A7,rfl,F⟩:=F;obtain⟨J,e1,B,_,ab,ks,e2,h1,h2,h3⟩:=Y A5;subst e1;cases e2;have h1:H' J=some (ddO J ks):=h1;have nA:=E.newF B;show#[J,ks,A5,h1,λob=>k _ m _ _ F (Yr (zv nA zg) (λb o I O=>?_) h2 h3) #[λb o I O=>?_,?_] λz=>by cases z];obtain⟨U,z2⟩:=zY.mp I;show zv (λy=>U (.inl y)) (by rw[zc λy=>U (.inr y)];show z2);rw[zc λy=>by subst y;show B o I O];show g.st b o I O;show Yp g.pn h1
abbrev mFrzO (j:Nat)(fs:Ms):Ms:=λD n k=>onV D j λw=>C0 w λA7=>onP D j (.dn true A7) λB=>fs B n { rt:=k.rt,nx:=λ_ _=>False }
def Yt{A:AL}{B:Addr}{ks:List (Dt×Addr×V)}{A7:List (Dt×Dt)}(h:zF A H B=some (.frz ob (ddO B ks)))(J:ur (zF A H) ks)(F:A7.map (·.1)=ks.map (·.1)):ItV false A H (Itn B ob (ddO B ks) (ks.map (·.2.1))) (A7.map λq=>W.d q.1) where
 one:=λi w A2 H2 e s _ _=>by
  have I:(ks.map λq=>W.d q.1)[i]?=some w:=by rw[<- e];have:=congrArg (List.map W.d) F;rw[aK,aK] at this;show congrArg (·[i]?) this.symm
  rw[aF] at I;obtain⟨q,h1,rfl⟩:=aI.mp I;show#[#[zw _ _ (s _ _ h λk z=>by cases z),by rw[af];show (ai.mp h1).1],?_];rintro y H3 ⟨rfl,O,h2,rfl⟩;rw[aF,h1] at h2;cases h2;show#[λ_ _ z=>z,Val.of ((J q (az h1)).2.2.stay s)]
 stop:=λA2 H2 s _=>by have:=congrArg List.length F;rw[af,af] at this;show#[zw _ _ (s _ _ h λk z=>by cases z),by rw[af,af];show this]
theorem xN.keys'{BA:Hp}:∀ {A7:List (κ×Dt)} {ks:List (κ×V)},xN BA A7 ks->ks.map (·.1)=A7.map (·.1)
 | [],_,h=>by cases h;rfl
 | q::r,ks,⟨v,s,e,h1,h2⟩=>by subst e;rw[ax,ax,xN.keys' h2]
def Yu (ks:List (Dt×Addr×V)):(kvN ks).map (·.1)=ks.map (·.1):=by unfold kvN;rw[aK];rfl
abbrev dItN (fa:AD):AC:=λD n Q=>fa D n λx m=>onMz x λA7=>(A7.map (·.1)).Nodup->Q (A7.map λq=>W.d q.1) m
def Yv(h:JE X Pn M fr e f):JI X Pn M false tg e (dItN f):=by
 obtain⟨te,q,r⟩:=h.ex;show#[_,Yi q,'7'];show r.run A G H D n _ _ E P hf λw m v H1 F O g _=>?_;rw[Yj] at F;obtain⟨A7,rfl,F⟩:=F;obtain⟨I,ks,rfl,h1,h2,U⟩:=O;obtain⟨ob,B⟩:∃ob,zF A H1 I=some (.frz ob (ddO I ks)):=by simpa [BM] using h1
 have J:A7.map (·.1)=ks.map (·.1):=by rw[<- U.keys',Yu]
 show#[I,ob,ks,A5,zw _ _ B,h2.stay (zq.same zw),λY=>k _ m _ H1 (F (by rw[J];show Y)) (Yt B h2 J) g]
end
end L3
namespace L2
open PyProof.Rows PySem.W PySem.Calls
mutual
def enD:Dt->AG
 | .int n=>[n]
 | .tup l=>Bc l
 | _=>[]
def Bc:AS->AG
 | []=>[0]
 | d::l=>1::(enD d++Bc l)
end
mutual
def Dt.cmp:Dt->Dt->Bool
 | .int _,.int _=>true
 | .tup l,.tup m=>Dt.cmps l m
 | _,_=>false
def Dt.cmps:AS->AS->Bool
 | a::l,b::m=>Dt.cmp a b&&Dt.cmps l m
 | _,_=>true
end
mutual
theorem FP:∀ {x y:Dt} (r s:AG),Dt.cmp x y=true->HT.lexLt (enD x++r) (enD y++s)=if x=y then HT.lexLt r s else HT.lexLt (enD x) (enD y)
 | .int n,.int m,r,s,_=>by
  simp only[enD,cP,fj,HT.lexLt_cons,Dt.int.injEq,HT.lexLt_nil_nil];split;rfl;rfl
 | .tup l,.tup m,r,s,h=>by have:=Np r s (show Dt.cmps l m=true from h);simp only[enD,Dt.tup.injEq];show this
 | .int _,.tup _,_,_,h=>by cases h
 | .tup _,.int _,_,_,h=>by cases h
 | .non,_,_,_,h=>by cases h
 | .bl _,_,_,_,h=>by cases h
 | .str _,_,_,_,h=>by cases h
 | .lst _,_,_,_,h=>by cases h
 | .dct,_,_,_,h=>by cases h
 | .int _,.non,_,_,h=>by cases h
 | .int _,.bl _,_,_,h=>by cases h
 | .int _,.str _,_,_,h=>by cases h
 | .int _,.lst _,_,_,h=>by cases h
 | .int _,.dct,_,_,h=>by cases h
 | .tup _,.non,_,_,h=>by cases h
 | .tup _,.bl _,_,_,h=>by cases h
 | .tup _,.str _,_,_,h=>by cases h
 | .tup _,.lst _,_,_,h=>by cases h
 | .tup _,.dct,_,_,h=>by cases h
theorem Np:∀ {l m:AS} (r s:AG),Dt.cmps l m=true->HT.lexLt (Bc l++r) (Bc m++s)=if l=m then HT.lexLt r s else HT.lexLt (Bc l) (Bc m)
 | [],[],r,s,_=>by rw[if_pos rfl];rfl
 | [],_::_,r,s,_=>by rw[if_neg (by simp)];rfl
 | _::_,[],r,s,_=>by rw[if_neg (by simp)];rfl
 | a::l,b::m,r,s,h=>by
  simp only[Dt.cmps,aO] at h;have e1:=FP (Bc l++r) (Bc m++s) h.1;have e2:=FP (Bc l) (Bc m) h.1;have e3:=Np r s h.2;change HT.lexLt (1::(enD a++Bc l)++r) (1::(enD b++Bc m)++s)=_;rw[cP,cP,HT.lexLt_cons,if_pos rfl,aC,aC,e1];change _=if a::l=b::m then HT.lexLt r s else HT.lexLt (1::(enD a++Bc l)) (1::(enD b++Bc m));rw[HT.lexLt_cons,if_pos rfl,e2];by_cases hab:a=b;subst hab;rw[if_pos rfl,if_pos rfl,e3];by_cases hlm:l=m;rw[if_pos hlm,if_pos (by rw[hlm])];rw[if_neg hlm,if_neg (λz=>hlm (gg z).2)];rw[if_neg hab,if_neg hab,if_neg (λz=>hab (gg z).1)]
end
def Nq(h:Dt.cmp a b=true):HT.lexLt (Bc (a::l)) (Bc (b::m))=if a=b then HT.lexLt (Bc l) (Bc m) else HT.lexLt (enD a) (enD b):=by change HT.lexLt (1::(enD a++Bc l)) (1::(enD b++Bc m))=_;rw[HT.lexLt_cons,if_pos rfl,FP _ _ h]
section
variable{P:Aa}
def Nr{A:Ae}{x y:Dt}{u v:Value}{Q:Bool->AZ->Prop}(B:x.eqOk)(F:y.eqOk)(J:Reads s.heap u (PySem.W.kqdP x.toW) as)(O:Reads s.heap v (PySem.W.kqdP y.toW) bs)(Y:A.units+9<cLine)(q:Q (decide (x=y)) s):wpAny (model P w) A (eqBool u v) Q E s:=by have I:=ee 8 _ B;have U:=ee 8 _ F;show SeqAt.eqBoolOverData _ _ _ _ _ _ _ _ _ _ _ _ J O I.1 U.1 ?_ (by rw[Mc B F];show q);have:min (PySem.W.kqdP x.toW).depth (PySem.W.kqdP y.toW).depth<=8:=av (Nat.min_le_left _ _) I.2;lia
def Em(h:PySem.W.kqdOk n d=true):∀k,n<=k->PySem.W.kqdOk k d=true:=by
 have B:∀n d,PySem.W.kqdOk n d=true->PySem.W.kqdOk (n+1) d=true:=by
  intro n
  induction n with
  | zero=>intro d h;cases d <;> simp_all [PySem.W.kqdOk]
  | succ n F=>intro d h;cases d <;> simp_all [PySem.W.kqdOk]
 intro k I
 induction k with
 | zero=>
  obtain rfl:n=0:=by lia
  show h
 | succ k F=>
  by_cases e:n=k+1;subst e;show h;show B _ _ (F '!')
def Yw:∀n {x y:Dt} {A:Around} {s:Shared} {u v:Value} {as bs:List Addr} {Q:Value->Shared->Prop},n<=8->x.hk=true->y.hk=true->Dt.cmp x y=true->PySem.W.kqdOk n x.toW=true->PySem.W.kqdOk n y.toW=true->
  Reads s.heap u (PySem.W.kqdP x.toW) as->Reads s.heap v (PySem.W.kqdP y.toW) bs->A.units+n+20<cLine->Q (.bool (HT.lexLt (enD x) (enD y))) s->wpAny (model P w) A (compareOp .Lt u v) Q E s:=by
 intro n
 induction n generalizing E with
 | zero=>
  intro x y A s u v as bs Q hn hx hy hc ox oy rx ry hu q
  cases x with
  | int i=>
   cases y with
   | int j=>
    cases rx;cases ry;refine PyProof.Rows.lt_int ?_
    have e:HT.lexLt (enD (.int i)) (enD (.int j))=decide (i<j):=by
     change (if i=j then HT.lexLt [] [] else decide (i<j))=decide (i<j);by_cases h:i=j
     ·rw[if_pos h,h];simp[HT.lexLt]
     ·rw[if_neg h]
    rw[<- e];show q
   | _=>cases hc
  | tup l=>simp[Dt.toW,PySem.W.kqdOk] at ox
  | bl b=>simp[Dt.toW,PySem.W.kqdOk] at ox
  | _=>cases hx
 | succ n ih=>
  intro x y A s u v as bs Q hn hx hy hc ox oy rx ry hu q
  cases x with
  | int i=>
   cases y with
   | int j=>
    cases rx;cases ry;refine PyProof.Rows.lt_int ?_
    have e:HT.lexLt (enD (.int i)) (enD (.int j))=decide (i<j):=by
     change (if i=j then HT.lexLt [] [] else decide (i<j))=decide (i<j);by_cases h:i=j
     ·rw[if_pos h,h];simp[HT.lexLt]
     ·rw[if_neg h]
    rw[<- e];show q
   | _=>cases hc
  | tup l=>
   cases y with
   | tup m=>
    have hi:=xQ ox;have hj:=xQ oy;have al:=xJ.mp (show Dt.hks l=true from hx);have an:=xJ.mp (show Dt.hks m=true from hy)
    cases rx with
    | @tuple a o xs k1 xd as g ag hd hl=>
    cases ry with
    | @tuple b o2 ys k2 yd bs g2 ab a0 a1=>
    refine PySem.W.cmp_ofLt ?_;refine wpAny_richCompare_same_room (op:=.Lt) #[o,g,ag] #[o2,g2,ab] F.slot_tuple_lt (aW F.slot_tuple_lt #[o,g,ag] F.entry_tuple_lt ?_ (F.args_tuple_lt_2 _ _)) '!';change wpAny _ _ (isInstance (.ref b) (.type "tuple") >>= _) _ _ s;refine aa (cN #[o2,g2,ab] isSubtype_tuple_tuple ?_);simp only[dO,aN,if_false];refine aa (gX g hd ?_);refine aa (gX g2 a0 ?_);refine aa ?_
    refine dP _
     (λzu r s'=>r.1=none/\s'=s/\∃l' J O U ac ad,zu=List.zip O U/\(∀d∈l',d∈l)/\(∀d∈J,d∈m)/\Dt.cmps l' J=true/\ReadsAll s.heap O (PySem.W.kqdPs (Dt.toWs l')) ac/\ReadsAll s.heap U (PySem.W.kqdPs (Dt.toWs J)) ad/\HT.lexLt (Bc l') (Bc J)=HT.lexLt (Bc l) (Bc m)/\O.length+ys.size=U.length+xs.size)
     _ ?_ ?_ _ _ #[A5,A5,l,m,xs.toList,ys.toList,_,_,A5,λ_ z=>z,λ_ z=>z,hc,hl,a1,A5,by simp;lia]
    ·rintro⟨p,q'⟩ zu r s' ⟨hr,rfl,l',J,O,U,ac,ad,hz,hL,hM,Y,ra,rb,B,I⟩
     cases l' with
     | nil=>
      simp only[Dt.toWs,PySem.W.kqdPs] at ra;cases ra;simp at hz
     | cons d l'=>
     cases J with
     | nil=>
      simp only[Dt.toWs,PySem.W.kqdPs] at rb;cases rb;simp at hz
     | cons d2 J=>
     simp only[Dt.toWs,PySem.W.kqdPs] at ra rb
     cases ra with
     | cons r1 ra=>
     cases rb with
     | cons r2 rb=>
     simp only[gU,dZ,Prod.mk.injEq] at hz;obtain⟨⟨rfl,rfl⟩,rfl⟩:=hz;simp only[Dt.cmps,aO] at Y;have o1:=hi d (hL d '$');have o2:=hj d2 (hM d2 '$');refine aa (Nr (Em o1 8 '!') (Em o2 8 '!') r1 r2 (by show A.units+1+9<cLine;lia) ?_);rw[Nq Y.1] at B;by_cases hd:d=d2
     ·rw[aD hd];rw[if_pos hd] at B;simp only[dO,aN,if_false];show ae #[A5,A5,l',J,_,_,_,_,A5,λz hz=>hL z (aj _ hz),λz hz=>hM z (aj _ hz),Y.2,ra,rb,B,by simp only[aS] at I;lia]
     ·rw[aJ hd];rw[if_neg hd] at B;simp only[Bool.not_false,if_true];refine aa (cD ?_);refine aa (show wpAny _ _ (compareOp .Lt p q') _ _ _ from ih '!' (al d (hL d '$')) (an d2 (hM d2 '$')) Y.1 o1 o2 r1 r2 (by show A.units+1+n+20<cLine;lia) ?_);refine aa (ae (ae ?_));change wpAny _ _ (pure _) _ _ _;refine ae #[_,A5,(λe=>nomatch e),?_];rw[B];show q
    ·rintro⟨r1,r2⟩ s' ⟨hr,rfl,l',J,O,U,ac,ad,hz,hL,hM,Y,ra,rb,B,I⟩;simp only at hr;subst hr;change wpAny _ _ (ret (Builtin.Tuple.tupleCompareSizes CmpOp.Lt xs.size ys.size)) _ _ _;refine ae #[_,A5,(λe=>nomatch e),?_]
     have e:HT.lexLt (Bc l) (Bc m)=decide (xs.size<ys.size):=by
      rw[<- B]
      cases l' with
      | nil=>
       simp only[Dt.toWs,PySem.W.kqdPs] at ra;cases ra
       cases J with
       | nil=>
        simp only[Dt.toWs,PySem.W.kqdPs] at rb;cases rb;show (aJ (by simp at I;lia)).symm
       | cons d2 J=>
        simp only[Dt.toWs,PySem.W.kqdPs] at rb;cases rb;show (aD (by simp at I;lia)).symm
      | cons d l'=>
       simp only[Dt.toWs,PySem.W.kqdPs] at ra;cases ra
       cases J with
       | nil=>
        simp only[Dt.toWs,PySem.W.kqdPs] at rb;cases rb;show (aJ (by simp at I;lia)).symm
       | cons d2 J=>
        simp only[Dt.toWs,PySem.W.kqdPs] at rb;cases rb;simp at hz
     change Q (.bool (decide (xs.size<ys.size))) _;rw[<- e];show q
   | _=>cases hc
  | bl b=>simp[Dt.toW,PySem.W.kqdOk] at ox
  | _=>cases hx
def lexI:∀s:AG,HT.lexLt s s=false:=zX
theorem Jc:∀ {a b c:AG},HT.lexLt a b=true->HT.lexLt b c=true->HT.lexLt a c=true
 | [],[],_,h,_=>by cases h
 | [],_::_,[],_,h=>by cases h
 | [],_::_,_::_,_,_=>rfl
 | _::_,[],_,h,_=>by cases h
 | _::_,_::_,[],_,h=>by cases h
 | x::a,y::b,z::c,B,F=>by
  rw[HT.lexLt_cons] at B F ⊢;by_cases I:x=y;by_cases J:y=z;rw[if_pos I] at B;rw[if_pos J] at F;rw[if_pos (I.trans J)];show Jc B F;grind;grind
theorem Jd:∀ {a b:AG},a=b\/HT.lexLt a b=true\/HT.lexLt b a=true
 | [],[]=>.inl A5
 | [],_::_=>.inr (.inl A5)
 | _::_,[]=>.inr (.inr A5)
 | x::a,y::b=>by
  rw[HT.lexLt_cons,HT.lexLt_cons];by_cases e:x=y
  ·subst e;rw[if_pos rfl,if_pos rfl];rcases Jd (a:=a) (b:=b) with h1 | h1 | h1
   all_goals right
  ·rw[if_neg e,if_neg (Ne.symm e)];rcases Int.lt_or_gt_of_ne e with h1 | h1
   all_goals right
def Je{A9:AF}(hi:i<A9.length)(F:j<A9.length):decide (xB A9 i<xB A9 j)=HT.lexLt (A9.getD i []) (A9.getD j []):=by
 have J:A9.getD i []∈A9:=by rw[bq,am hi];show bj hi
 have O:A9.getD j []∈A9:=by rw[bq,am F];show bj F
 have I:∀ {a b:AG},a∈A9->b∈A9->HT.lexLt a b=true->(A9.countP λc=>HT.lexLt c a)<(A9.countP λc=>HT.lexLt c b):=λ{a b} U Y B=>
  Hg (λx hx hp=>Jc hp B) #[a,U,zX a,B]
 unfold xB;generalize A9.getD i []=a at J;generalize A9.getD j []=b at O;rcases Jd (a:=a) (b:=b) with h | h | h;subst h;rw[zX];right
 all_goals grind
def Yx (e:AG):HT.lexLt e (e++[0])=true:=by
 induction e with
 | nil=>rfl
 | cons x e B=>rw[cP,HT.lexLt_cons,if_pos rfl];show B
def Yy(h:Dt.cmp x y=true)(e:enD x=enD y):x=y:=by
 by_cases B:x=y;show B;have:=FP [] [0] h;rw[if_neg B,e,bU,Yx,zX] at this;cases this
structure RowsOk (ft:Bool)(A9:AS):Prop where
 key:∀x∈A9,x.hk=true/\x.eqOk/\x.isTup=true
 cmp:∀x∈A9,∀y∈A9,Dt.cmp x y=true
 first:2<=A9.length->∀x∈A9,∃d l,x = .tup (d::l)/\d.isTup=ft
 nd:A9.Nodup
theorem Nt{A:Ae}{b:Bool}{Q:Bool->AZ->Prop}(hu:A.units+40<cLine):∀ {l m:AS} {xs ys:AN} {as bs:AY} (i:Nat),(∀d∈l,d.hk=true/\PySem.W.kqdOk 7 d.toW=true)->(∀d∈m,d.hk=true/\PySem.W.kqdOk 7 d.toW=true)->Dt.cmps l m=true->
  ReadsAll s.heap xs (PySem.W.kqdPs (Dt.toWs l)) as->ReadsAll s.heap ys (PySem.W.kqdPs (Dt.toWs m)) bs->(b=true->i=0->∀d l',l=d::l'->d.isTup=false)->Q (HT.lexLt (Bc l) (Bc m)) s->W.KatLex P w A b (decide (xs.length<ys.length)) Q (xs.zip ys) i s
 | [],[],_,_,_,_,i,_,_,_,ra,rb,_,q=>by simp only[Dt.toWs,PySem.W.kqdPs] at ra rb;cases ra;cases rb;show W.kat_nil q
 | [],_::_,_,_,_,_,i,_,_,_,ra,rb,_,q=>by simp only[Dt.toWs,PySem.W.kqdPs] at ra rb;cases ra;cases rb;show W.kat_nil q
 | _::_,[],_,_,_,_,i,_,_,_,ra,rb,_,q=>by simp only[Dt.toWs,PySem.W.kqdPs] at ra rb;cases ra;cases rb;show W.kat_nil q
 | a::l,c::m,_,_,_,_,i,O,U,B,ra,rb,hb,q=>by
  simp only[Dt.toWs,PySem.W.kqdPs] at ra rb
  cases ra with
  | @cons u us _ _ _ _ F ra=>
  cases rb with
  | @cons v vs _ _ _ _ I rb=>
  rw[gU];simp only[Dt.cmps,aO] at B;obtain⟨k1,Y⟩:=O a '$';obtain⟨k2,o2⟩:=U c '$';rw[Nq B.1] at q;show W.kat_cons (Nr (Em Y 8 '!') (Em o2 8 '!') F I '!' ?_);by_cases e:a=c;rw[aD e];rw[if_pos e] at q;have:=Nt hu (i+1) (λd J=>O d (aj _ J)) (λd J=>U d (aj _ J)) B.2 ra rb (b:=b) (λ_ z=>absurd z '!') q;rw[show decide ((u::us).length<(v::vs).length)=decide (us.length<vs.length) from by simp];show W.kat_yes this;rw[aJ e];rw[if_neg e] at q;show W.kat_no ?_;have lt:=λ(Q':AA) (E:AA) (hq:Q' (.bool (HT.lexLt (enD a) (enD c))) s)=>Yw (P:=P) (w:=w) (E:=E) 7 '!' k1 k2 B.1 Y o2 F I (A:=A) '!' hq
  cases hbi:(b&&i==0) with
  | false=>show W.kat_one _ _ (lt _ _ q)
  | true=>
   rw[aO,iH] at hbi;have:=hb hbi.1 hbi.2 a l A5
   cases a with
   | int n=>
    cases c with
    | int n2=>
     cases F;cases I;show oneLt_int ?_;have e2:HT.lexLt (enD (.int n)) (enD (.int n2))=decide (n<n2):=by change (if n=n2 then HT.lexLt [] [] else decide (n<n2))=decide (n<n2);rw[if_neg λz=>e (by rw[z])]
     rw[<- e2];show q
    | _=>cases B.1
   | tup _=>cases this
   | _=>cases B.1
def Cv (h:Heap)(v:Value)(x:Dt):Prop:=∃a,v = .ref a/\x.hk=true/\x.eqOk/\∃as,Reads h (.ref a) (PySem.W.kqdP x.toW) as
def Cv.keep(r:Cv h v x)(F:h.Ns L m0)(I:h.get? BB=some (seqObj "list" vs n))(kp:∀b o,b≠L->b≠BB->h.get? b=some o->h'.get? b=some o):Cv h' v x:=by
 obtain⟨a,e,k1,k2,as,r⟩:=r;show#[a,e,k1,k2,as,uc (λb o us U g J O=>kp b o (λz=>?_) (λz=>?_) g) k1 r];subst z;obtain⟨o',es,ep,g',B,_⟩:=F;rw[g] at g';cases g';rw[O] at B;cases B;subst z;rw[I] at g;cases g;show absurd (Value.type.inj J) '#'
theorem Nu:∀ {vs:AN} {A9:AS},Paired (Cv h) vs A9->(∀x∈A9,∃d l,x = .tup (d::l)/\d.isTup=ft)->∃fs,W.KatTups h vs fs/\fs.length=A9.length/\∀f∈fs,(ft=false->∃a t,f=Value.int a t)/\(ft=true->∃a o,f=Value.ref a/\h.get? a=some o/\o.cls = .type "tuple")
 | _,_,.nil,_=>#[[],trivial,A5,λ_ h=>by simp at h]
 | _,_,.cons (b:=x) r Y,h1=>by
  obtain⟨a,rfl,k1,k2,as,r⟩:=r;obtain⟨fs,f1,f2,f3⟩:=Nu Y λz hz=>h1 z (aj _ hz);obtain⟨d,l,rfl,B⟩:=h1 x aq
  cases r with
  | @tuple a o F m xs as g hc I O=>
  obtain⟨vl⟩:=F;simp only[Dt.toWs,PySem.W.kqdPs] at O
  cases O with
  | @cons u us _ _ _ _ U r2=>
  show#[u::fs,#[#[a,o,_,m,A5,g,hc,I,A5],f1],by right,λf hf=>?_];rcases au.mp hf with rfl | hf;have hk:d.hk=true:=xJ.mp (show Dt.hks (d::l)=true from k1) d '$'
  cases d with
  | int i=>cases U;show#[λ_=>#[_,_,A5],λz=>by rw[z] at B;cases B]
  | tup l'=>cases U with
   | @tuple a' o' _ _ _ _ g' J _ _=>show#[λz=>(by rw[z] at B;cases B),λ_=>#[a',o',A5,g',J]]
  | bl b=>have:=xQ k2 (.bl b) '$';simp[Dt.toW,PySem.W.kqdOk] at this
  | _=>cases hk
  show f3 f hf
theorem Nv(h:IsL H A9 vs):∀ {p:AR},(∀i∈p,i<A9.length)->IsL H (p.map λi=>A9.getD i .non) (p.map λi=>vs.getD i .non)
 | [],_=>rfl
 | i::p,hp=>by
  have hi:=hp i aq;obtain⟨x,h1,h2⟩:=h.getD (i:=i) (d:=A9[i]) (am hi);show#[vs.getD i .non,_,A5,?_,Nv h λj B=>hp j (aj _ B)];change Is H (A9.getD i .non) (vs.getD i .non);have F:A9.getD i .non=A9[i]:=by simp[hi]
  have I:vs.getD i .non=x:=by simp[h1]
  rw[F,I];show h2
end
mutual
theorem Nw:∀ {d:Dt},d.hk=true->d.noL=true
 | .int _,_=>rfl
 | .tup l,h=>by simpa [Dt.noL] using Jf (show Dt.hks l=true from h)
 | .non,h=>by cases h
 | .bl _,_=>rfl
 | .str _,h=>by cases h
 | .lst _,h=>by cases h
 | .dct,h=>by cases h
theorem Jf:∀ {l:AS},Dt.hks l=true->Dt.noLs l=true
 | [],_=>rfl
 | d::l,h=>by simp only[Dt.hks,aO] at h;simp only[Dt.noLs,aO];show#[Nw h.1,Jf h.2]
end
def NDo (ob:Obj)(d:Addr)(ks:List (Dt×Addr×V)):Prop:=ks.length<=sizeLine/\(d==sysModules)=false/\∃xs:List (Dt×Addr×Value),Paired PrN ks xs/\∃es ep,ob.ExactDict/\ob.data = .dict es ep/\es.toList=xs.map (λx=>#[By x.1,.ref x.2.1,x.2.2])/\(xs.map (·.1)).Nodup
end L2
namespace L3
open L2
def MeE (Q:Dt->AS->Prop)(BA:Hp)(q:Dt×Addr×V):Prop:=∃B o xs l,q.2.2 = .ref B/\BA B=some (.frz o '+')/\IsL BA l xs/\Dt.noLs l=true/\Q q.1 l
def MeG (d:Addr)(Q:Dt->AS->Prop)(BA:Hp):Prop:=∃ob ks,BA d=some (kO d ob)/\(∃h:Heap,h.get? d=some ob)/\NDo ob d ks/\ur BA ks/\∀q∈ks,MeE Q BA q
def Sk (BA G':Hp):Prop:=∀b o,BA b=some o->(imm o=true\/∃ob,o=kO b ob/\∃h:Heap,h.get? b=some ob)->G' b=some o
def Sk.t(h:Sk BA G'):Cn BA G':=λb xs e=>h b _ e (.inl A5)
def MeE.st(h:MeE Q BA q)(t:Cn BA G')(f:∀b o xs,BA b=some (.frz o '+')->G' b=some (.frz o '+')):MeE Q G' q:=by obtain⟨F,o,xs,l,h1,h2,I,B,J⟩:=h;show#[F,o,xs,l,h1,f _ _ _ h2,I.stayT t B,B,J]
def ur.stT(h:ur BA ks)(s:Cn BA G'):ur G' ks:=λq B=>let ⟨h1,h2,h3⟩:=h q B;#[h1,h2,h3.stayT s (Nw h1)]
def MeG.sk(h:MeG d Q BA)(s:Sk BA G'):MeG d Q G':=by obtain⟨ob,ks,h1,h2,B,F,I⟩:=h;show#[ob,ks,s _ _ h1 (.inr #[ob,A5,h2]),h2,B,ur.stT F s.t,λq J=>(I q J).st s.t λb o xs e=>s b _ e (.inl A5)]
def Ny{b:Addr}{o o':HO}(e:o=kO b ob)(h:∃h:Heap,h.get? b=some ob)(n:NP o):False:=by subst e;show Xr h n
def Yz (d:Addr)(Q:Dt->AS->Prop):Jv where
 K:=λA H=>MeG d Q (zF A H)
 same:=λh s=>h.sk λb o e _=>Ff s b o e
 grow:=λ{A A' H} h g=>h.sk λb o e n=>by
  obtain⟨F,B⟩:=zY.mp e;show zv (λz=>?_) B;rcases g b z with q | ⟨o',q1,q2,q3⟩;show F q;rw[B] at q1;cases q1;rcases n with n | ⟨ob,n1,n2⟩;rw[show imm o=false from q3] at n;cases n;show Ny (o':=o) n1 n2 q2
 upd:=λ{A H p o} h hp=>by rw[zH hp];show h
 frz:=λ{A H p o o'} h hp np I=>h.sk λb u e n=>by
  obtain⟨F,B⟩:=zY.mp e
  have J:b≠p:=λz=>by
   subst z;rw[hp] at B;cases B;rcases n with n | ⟨ob,n1,n2⟩;rw[show imm o=false from I] at n;cases n;show Ny (o':=o) n1 n2 np
  show zv F (by rw[zc J];show B)
def andJ (J J':Jv):Jv where
 K:=λA H=>J.K A H/\J'.K A H
 same:=λh s=>#[J.same h.1 s,J'.same h.2 s]
 grow:=λh g=>#[J.grow h.1 g,J'.grow h.2 g]
 upd:=λh a=>#[J.upd h.1 a,J'.upd h.2 a]
 frz:=λh a b c=>#[J.frz h.1 a b c,J'.frz h.2 a b c]
structure IsMemo (J:Jv)(d:Addr)(Q:Dt->AS->Prop):Prop where
 get:∀A H,J.K A H->MeG d Q (zF A H)
 ch:∀A H H',J.K A H->(∀b o,H b=some o->b≠d->H' b=some o)->MeG d Q (zF A H')->J.K A H'
abbrev PN.mo (Pn:PN)(d:Addr)(Q:Dt->AS->Prop):PN:=#[Pn.pn,andJ (Yz d Q) Pn.J]
section
variable{fk fm:Ev->W->Prop}{fs:Ms}{x:Str}{i:Nat}
abbrev pVar (i:Nat):Ev->W->Prop:=λD w=>D[i]?=some (some w)
abbrev pWide (i:Nat):Ev->W->Prop:=λD w=>∃d fs B,D[i]?=some (some (.wd d fs B))/\w = .pen d/\yE fs (Sum.inr "wide" : Key)=none
abbrev mPSeq (f g:Ms):Ms:=λD n k=>f D n { nx:=λB F=>blk g B F k,rt:=λ_ _=>False }
abbrev mPFrz (j:Nat)(fs:Ms):Ms:=λD n k=>onV D j λw=>C0 w λA7=>onP D j (.dn true A7) λB=>fs B n k
abbrev mPEnd (f:AD):Ms:=λD n k=>f D n λw m=>k.rt w m/\k.nx D m
abbrev mMemo (Pn:PN)(fk fm:Ev->W->Prop)(fb:Ms):Ms:=λD n k=>∃ (d:Addr) (Q:Dt->AS->Prop) (kd:Dt) (F:AS),IsMemo Pn.J d Q/\kd.ky/\(∀I l,Q I l->I∈F)/\F.length<=lim/\fk D (.d kd)/\fm D (.pen d)/\
 blk fb D n { nx:=λB _=>fk B (.d kd)/\fm B (.pen d),rt:=λw m=>∃l,w = .fl l/\m=n/\Dt.noLs l=true/\Q kd l }/\∀l,Q kd l->k.rt (.d (.lst l)) n
abbrev dFlz (f:AD):AD:=λD n Q=>f D n λx m=>onL x λl=>Q (.fl l) m
end
abbrev Fs:=List (Key×Dt)
abbrev Kn:=List (AG×Dt)
abbrev FW:=PN->AU->Nat->(Fs->Kn->Nat->Prop)->Prop
section
variable{a b:Expr}{st:Stmt}{A9:List Stmt}{fs:Ms}{gs:Ev->Nat->(Fs->Kn->Nat->Prop)->Prop}{x:Str}{i:Nat}
abbrev mWSeq (f:Ms)(g:Ev->Nat->(Fs->Kn->Nat->Prop)->Prop):Ev->Nat->(Fs->Kn->Nat->Prop)->Prop:=λD n R=>f D n { nx:=λB F=>g B F R,rt:=λ_ _=>False }
abbrev mWRet (B i1 i2 i3 F I:Nat):Ev->Nat->(Fs->Kn->Nat->Prop)->Prop:=λD n R=>onV D B λJ=>onD J λO=>onV D i1 λw1=>onD w1 λU=>onV D i2 λw2=>onD w2 λY=>onV D i3 λw3=>onD w3 λd3=>onV D F λw4=>onD w4 λd4=>onV D I λw5=>onZ w5 λkn=>
 R [(Sum.inr "room",O),(Sum.inr "some",U),(Sum.inr "box",Y),(Sum.inr "worse",d3),(Sum.inr "there",d4)] kn n
abbrev mWCons (f:AD)(g:Ev->Nat->(AU->PN->Nat->Prop)->Prop):Ev->Nat->(AU->PN->Nat->Prop)->Prop:=λD n R=>f D n λw m=>g D m λB Pm F=>R (w::B) Pm F
abbrev mWHead (k:Nat)(F:FW)(Pn:PN)(fs:AC)(gs:Addr->(Dt->AS->Prop)->AC):Ev->Nat->(AU->PN->Nat->Prop)->Prop:=λD n R=>fs D n λI m=>I.length=k/\F Pn I m λf J O=>∃Q,∀d,gs d Q D O λB U=>R (.wd d f J::B) (Pn.mo d Q) U
abbrev mFnW (k:Nat)(F:PN->AU->Mo W)(fs:Ev->Nat->(AU->PN->Nat->Prop)->Prop):AD:=λD n R=>fs D n λB Pm m=>B.length=k/\F Pm B m R
abbrev mWorld (k i:Nat)(F:FW)(Pn:PN)(fs:AC)(gs:Addr->(Dt->AS->Prop)->Ms):Ms:=λD n K=>fs D n λI m=>I.length=k/\F Pn I m λf J O=>∃Q,∀d,onP D i (.wd d f J) λB=>blk (gs d Q) B O { rt:=K.rt,nx:=λ_ _=>False }
abbrev onWd (w:W)(P:Fs->Kn->Prop):Prop:=match w with | .wd _ f B=>P f B | _=>False
abbrev dWGet (fb:AD)(k:Key):AD:=λD n Q=>fb D n λx m=>onWd x λf _=>onO (yE f k) λd=>Q (.d d) m
abbrev dWKn (fb:AD):AD:=λD n Q=>fb D n λx m=>onWd x λf B=>yE f (Sum.inr "known" : Key)=none/\Q (.df B) m
abbrev dInZ (B:Bool)(fk fd:AD):AD:=λD n Q=>fk D n λy n1=>fd D n1 λx n2=>onZ x λA7=>∃st,y = .d (stD st)/\Q (.d (.bl (xr B (yE A7 st).isSome))) n2
abbrev mRelN (j:Nat)(fs:Ms):Ms:=λD n k=>onN D j λB=>fs B n { rt:=k.rt,nx:=λ_ _=>False }
def ltD (a b:Dt):Prop:=HT.lexLt (enD a) (enD b)=true
def YA{a:Dt}:¬ ltD a a:=λh=>by unfold ltD at h;rw[lexI] at h;cases h
def YB{a b c:Dt}(h:ltD a b)(h':ltD b c):ltD a c:=Jc h h'
theorem Nz{r:α->α->Prop}(B:∀x,¬ r x x)(F:∀x y z,r x y->r y z->r x z):∀ {l l':List α},l.Perm l'->l.Pairwise r->l'.Pairwise r->l=l'
 | [],l',p,_,_=>p.nil_eq
 | a::l,[],p,_,_=>by cases p.eq_nil
 | a::l,b::l',p,h,h'=>by
  have e:a=b:=by
   rcases au.mp (p.mem_iff.mp (aq (a:=a) (l:=l))) with z | z;show z;rcases au.mp (p.mem_iff.mpr (aq (a:=b) (l:=l'))) with y | y;show y.symm;show (B a (F _ _ _ ((aR.mp h).1 b y) ((aR.mp h').1 a z))).elim
  subst e;rw[Nz B F (p.cons_inv) (aR.mp h).2 (aR.mp h').2]
abbrev dSortD:AU->Mo W:=λF n Q=>on1 F λx=>onS x λA9=>A9.length<64/\(∃ft,RowsOk ft A9)/\∀B:AS,B.Perm A9->B.Pairwise ltD->Q (.d (.lst B)) n
end
def YC{a c:Int×Int}(h:yp a=yp c):a=c:=by obtain⟨B,F⟩:=a;obtain⟨I,J⟩:=c;simp only[yp,Dt.tup.injEq,dZ,Dt.int.injEq,and_true] at h;rw[h.1,h.2]
def YD{a c:List (Int×Int)}(h:Bi a=Bi c):a=c:=(dD λ_ _ z=>YC z).mp (Dt.tup.inj h)
def YE (g:List (Int×Int)):(Bi g).ky:=#[xJ.mpr λd B=>by obtain⟨q,_,rfl⟩:=aH.mp B;rfl,.inl #[KQ.1,bu.mpr λd B=>by obtain⟨q,_,rfl⟩:=aH.mp B;rfl],A5]
def YF (p q:Int×Int):Dt.cmp (yp p) (yp q)=true:=rfl
theorem NA:∀g h:List (Int×Int),Dt.cmps (g.map yp) (h.map yp)=true
 | [],_=>rfl
 | _::_,[]=>rfl
 | p::g,q::h=>by rw[ax,ax,Dt.cmps,YF,NA g h];rfl
end L3
namespace L2
open PyProof.Rows PySem.W PySem.Calls
end L2
namespace L3
open L2
abbrev onLf (w:W)(P:List AS->Prop):Prop:=match w with | .lf i=>P i | _=>False
abbrev dMinL (fs:AC):AD:=λD n Q=>fs D n λF m=>on1 F λx=>onLf x λB=>0<B.length/\∀ (i:Nat) (l:AS),B[i]?=some l->(∀ (j:Nat) (l':AS),B[j]?=some l'->l.length<=l'.length/\(j<i->l.length<l'.length))->Q (.fl l) m
end L3
namespace L2
open PyProof.Rows
section
variable{A:Ae}{R:Result->AZ->Prop}
def YG{acc:_}(I:Nat->AZ->Prop)(turn:∀n s,I n s->Ag prog w A (pyNext it) (λr s₁=>match r with
   | none=>R (.ok .next) s₁
   | some v=>Ag prog w A (letOwnedTupleGo t3 it v) (λ_ s₂=>Ag prog w A (assign t3 env v) (λ_ s₃=>
     Ag prog w A (forIn f3 true λc r=>if r=true then do let ok <- isTrue c env (eval c env);pure (ForInStep.yield ok) else pure (ForInStep.yield r)) (λok s₄=>
      if ok=true then Ag prog w A (eval elt env) (λx s₅=>
       Ag prog w A (call (.builtin "list.append") [acc,x]) (λ_ s₆=>∃m,m<n/\I m s₆) '%' s₅) '%' s₄
      else ∃m,m<n/\I m s₄) '%' s₃) '%' s₂) '%' s₁) '%' s)(n:Nat)(h:I n s):
  codeAny '/' A (.compLoop ':' 2 it acc env) R s:=by
 show dX A5 I (λn s hI=>?_) n h;show eJ ?_;unfold compTurn;show aa '?'
 cases r with
 | none=>show ae h₁
 | some v=>
  show aa (aE h₁ (λ_ s₂ h₂=>?_) λ_ _ h'=>h'.elim);show aa '>'
  cases ok with
  | false=>show ae #[A5,h₄]
  | true=>
   show aa (aa (aE h₄ (λx s₅ h₅=>aa (aE h₅ (λ_ s₆ h₆=>ae (ae #[A5,h₆])) λ_ _ h'=>h'.elim)) λ_ _ h'=>h'.elim))
def YH{acc:_}(hf:∀x,foldedSetIterable i3 env x=pure x)(I:Nat->AZ->Prop)(turn:∀n s,I n s->Ag prog w A (pyNext it) (λr s₁=>match r with
   | none=>R (.ok .next) s₁
   | some v=>Ag prog w A (letOwnedTupleGo t2 it v) (λ_ s₂=>Ag prog w A (assign t2 env v) (λ_ s₃=>
     Ag prog w A (forIn f2 true λc r=>if r=true then do let ok <- isTrue c env (eval c env);pure (ForInStep.yield ok) else pure (ForInStep.yield r)) (λok s₄=>
      if ok=true then Ag prog w A (eval i3 env) (λx s₅=>Ag prog w A (pyIter x) (λiv s₆=>
       codeAny '/' A (.compStart ':' 2 iv acc env) (λr s₇=>match r with
        | .ok _=>∃m,m<n/\I m s₇
        | .error _=>False) s₆) '%' s₅) '%' s₄
      else ∃m,m<n/\I m s₄) '%' s₃) '%' s₂) '%' s₁) '%' s)(n:Nat)(h:I n s):
  codeAny '/' A (.compLoop ':' 1 it acc env) R s:=by
 show dX A5 I (λn s hI=>?_) n h;show eJ ?_;unfold compTurn;show aa '?'
 cases r with
 | none=>show ae h₁
 | some v=>
  show aa (aE h₁ (λ_ s₂ h₂=>?_) λ_ _ h'=>h'.elim);show aa '>'
  cases ok with
  | false=>show ae #[A5,h₄]
  | true=>
   show aa (aE h₄ (λx s₅ h₅=>?_) λ_ _ h'=>h'.elim);show aa (bw ?_);show wpAny _ _ (foldedSetIterable i3 env x >>= _) _ _ _;rw[hf];show aa (ae ?_);show wpAny _ _ (holding [x] (pyIter x) >>= _) _ _ _;show aa (bQ (aE h₅ (λiv s₆ h₆=>?_) λ_ _ h'=>h'.elim));show aa (wpAny_runOwn (h:=none) ?_);show dS (show codeAny '/' (A.mark none) _ _ s₆ from h₆) λr s₇ h₇=>?_
   cases r with
   | ok f=>show ae #[A5,h₇]
   | error e=>show h₇.elim
def YI{acc:_}(hf:∀x,foldedSetIterable i2 env x=pure x)(I:Nat->AZ->Prop)(turn:∀n s,I n s->Ag prog w A (pyNext it) (λr s₁=>match r with
   | none=>R (.ok .next) s₁
   | some v=>Ag prog w A (letOwnedTupleGo t1 it v) (λ_ s₂=>Ag prog w A (assign t1 env v) (λ_ s₃=>
     Ag prog w A (forIn f1 true λc r=>if r=true then do let ok <- isTrue c env (eval c env);pure (ForInStep.yield ok) else pure (ForInStep.yield r)) (λok s₄=>
      if ok=true then Ag prog w A (eval i2 env) (λx s₅=>Ag prog w A (pyIter x) (λiv s₆=>
       codeAny '/' A (.compStart ':' 1 iv acc env) (λr s₇=>match r with
        | .ok _=>∃m,m<n/\I m s₇
        | .error _=>False) s₆) '%' s₅) '%' s₄
      else ∃m,m<n/\I m s₄) '%' s₃) '%' s₂) '%' s₁) '%' s)(n:Nat)(h:I n s):
  codeAny '/' A (.compLoop ':' 0 it acc env) R s:=by
 show dX A5 I (λn s hI=>?_) n h;show eJ ?_;unfold compTurn;show aa '?'
 cases r with
 | none=>show ae h₁
 | some v=>
  show aa (aE h₁ (λ_ s₂ h₂=>?_) λ_ _ h'=>h'.elim);show aa '>'
  cases ok with
  | false=>show ae #[A5,h₄]
  | true=>
   show aa (aE h₄ (λx s₅ h₅=>?_) λ_ _ h'=>h'.elim);show aa (bw ?_);show wpAny _ _ (foldedSetIterable i2 env x >>= _) _ _ _;rw[hf];show aa (ae ?_);show wpAny _ _ (holding [x] (pyIter x) >>= _) _ _ _;show aa (bQ (aE h₅ (λiv s₆ h₆=>?_) λ_ _ h'=>h'.elim));show aa (wpAny_runOwn (h:=none) ?_);show dS (show codeAny '/' (A.mark none) _ _ s₆ from h₆) λr s₇ h₇=>?_
   cases r with
   | ok f=>show ae #[A5,h₇]
   | error e=>show h₇.elim
def YJ{acc:_}(h1:codeAny '/' A (.compLoop ':' 1 it acc env) R s)(h2:Ag prog w A (pyIter it) (λit' s'=>codeAny '/' A (.compLoop ':' 1 it' acc env) R s') '%' s):
  codeAny '/' A (.compStart ':' 1 it acc env) R s:=by
 show eY ?_;show eZ ?_;unfold compStart;rw[if_neg (by change ¬ ((0 != 0)=true);decide)];show aa (bB ?_);split;show ae #[A5,h1];show aa (cD ?_);show aa (bw ?_);show aa (aE h2 (λit' s' h'=>ae #[A5,h']) λ_ _ h'=>h'.elim)
def YK{acc:_}(h1:codeAny '/' A (.compLoop ':' 2 it acc env) R s)(h2:Ag prog w A (pyIter it) (λit' s'=>codeAny '/' A (.compLoop ':' 2 it' acc env) R s') '%' s):
  codeAny '/' A (.compStart ':' 2 it acc env) R s:=by
 show eY ?_;show eZ ?_;unfold compStart;rw[if_neg (by change ¬ ((0 != 0)=true);decide)];show aa (bB ?_);split;show ae #[A5,h1];show aa (cD ?_);show aa (bw ?_);show aa (aE h2 (λit' s' h'=>ae #[A5,h']) λ_ _ h'=>h'.elim)
end
def inG (J:It)(g:TG)(ti:TT)(tb:(St->Hp->Prop)->St->Hp->Prop)(N:St->Hp->Prop)(G:St)(H:Hp):Prop:=∃W:Nat->Nat->St->Hp->Prop,(∃m,W 0 m G H)/\
 ∀i m B H',W i m B H'->(J.stop i H'/\N B H')\/(J.go i H'/\∃N2:St->Hp->Prop,(∀ I H2,N2 I H2->∃O,O<m/\W (i+1) O I H2)/\∀x H2,J.yld i H' x H2->g x B H2 λF H3=>ti F H3 λU H4=>if U=true then tb N2 F H4 else N2 F H4)
abbrev En (te:TE)(acc:Addr):(St->Hp->Prop)->St->Hp->Prop:=λNx G H=>te G H λv H'=>∃xs,H' acc=some '+'/\xs.length<sizeLine/\Nx G (upd H' acc (.lst (xs++[v])))
def NB (wi:TI)(g:TG)(ti:TT)(wi2:TI)(g2:TG)(ti2:TT)(B:TI)(g3:TG)(F:TT)(te:TE)(A8:List '0'):TE:=λG H Q=>wi G H λJ H1=>∀acc,H1 acc=none->
 inG J g ti (λN G H=>wi2 G H λJ2 H2=>inG J2 g2 ti2 (λN G H=>B G H λJ3 H3=>inG J3 g3 F (En te acc) N G H3) N G H2) (λ_ H=>Q (.ref acc) H) (xw G A8) (upd H1 acc (.lst []))
def NC{g:TG}{tb:(St->Hp->Prop)->St->Hp->Prop}{B:(AZ->Prop)->AZ->Prop}{P:AZ->Prop}(L:∀it,Gs '5' X.A e k tg ifs it (.ref acc) X.env B)(yS:∀ {it:Value} {R:Result->AZ->Prop} {s:AZ},codeAny '5' X.A (.compLoop e k it (.ref acc) X.env) R s->Af X (pyIter it) (λac s'=>codeAny '5' X.A (.compLoop e k ac (.ref acc) X.env) R s') '%' s->codeAny '5' X.A (.compStart e k it (.ref acc) X.env) R s)(hc:X.calm=true)(xX:X.xe=λ_ _=>False)(hi:PI X tg iter wi)(hg:PG X tg g)(ht:PTs X ifs ti)(U:∀pl' s G H (Nx:St->Hp->Prop) (P:AZ->Prop),Inv X (pl++pl') G H s->tb Nx G H->(∀ F H' s',Inv X (pl++pl') F H' s'->Nx F H'->P s')->B P s)(I:Inv X pl G H s)(q:wi G H λJ H2=>inG J g ti tb Nx G H2)(kk:∀ F H' s',Inv X pl F H' s'->Nx F H'->P s'):
  Af X (eval iter X.env) (λx s5=>Af X (pyIter x) (λiv s6=>codeAny '5' X.A (.compStart e k iv (.ref acc) X.env) (λr s7=>match r with | .ok _=>P s7 | .error _=>False) s6) '%' s5) '%' s:=by
 have e9:=hi pl s G H _ I q;rw[xX] at e9;show thn e9 λxv s1 h1=>thn h1 λad s2 h2=>?_;obtain⟨it,fp,tn,J,H2,e,I2,T,Y,f2,W,⟨m0,w0⟩,ab⟩:=h2;subst e;have O:=Gu (X:=X) (pl:=pl) (R:=λr s7=>match r with | .ok _=>P s7 | .error _=>False) (k:=k) (L _) hc xX T (λhn b U=>#[hn b U,(f2 b U).2]) hg ht U ab (λF H' s' I' q'=>kk F H' s' I' q') I2 Y (λb U=>(f2 b U).1) w0;show yS O (T.self X.A 0 _ _ _ Y O)
section
variable{t1 i1 t2 i2 t3 i3:Expr}{f1 f2:AO}{pos:Pos}{w1 w2 w3:TI}{g1 g3:TG}{n1 n2 n3:TT}{Q:VK}
def YL (O:Opn X scope A8 Fam)(hc:X.calm=true)(h1:PI X t1 i1 w1)(ab:∀X',Fam X'->PG X' t1 g1)(ac:∀X',Fam X'->PTs X' f1 n1)(h2:∀X',Fam X'->PI X' t2 i2 w2)(ad:∀X',Fam X'->PG X' t2 g2)(ag:∀X',Fam X'->PTs X' f2 n2)(h3:∀X',Fam X'->PI X' t3 i3 w3)(al:∀X',Fam X'->PG X' t3 g3)(an:∀X',Fam X'->PTs X' f3 n3)(he:∀X',Fam X'->PE X' elt te)(hs:∀x,foldedSetIterable i1 X.env x=pure x)(as:∀X',Fam X'->∀x,foldedSetIterable i2 X'.env x=pure x)(a0:∀X',Fam X'->∀x,foldedSetIterable i3 X'.env x=pure x)(I:'&')(h:NB w1 g1 n1 w2 g2 n2 w3 g3 n3 te A8 G H Q)(Y:EG X A6 G use Qp Q):
  Af X (comprehension ':' scope X.env ipos (newList []) false (eval i1 X.env) use) Qp X.xe s:=
 uB (ob:={ cls:=.type "list",dict:=none,data:=.seq ([]:AN).toArray }) (o0:=λ_=>.lst []) (Fin:=λacc H=>Q (.ref acc) H)
  (B:=λX' acc P s=>wpAny '8' X'.A (eval i2 X'.env) (λx s5=>wpAny '8' X'.A (pyIter x) (λiv s6=>codeAny '8' X'.A (.compStart ':' 1 iv (.ref acc) X'.env) (λr s7=>match r with | .ok _=>P s7 | .error _=>False) s6) '%' s5) '%' s) (tb:=λacc Nx G H=>w2 G H λJ2 H2=>inG J2 g2 n2 (λN G H=>w3 G H λJ3 H3=>inG J3 g3 n3 (En te acc) N G H3) Nx G H2)
  O hc A5 hs (λ_ _ _ _ _ h0 h1=>fE h0 h1) (λX' U _ _ _ _ I F n h=>YI (as X' U) I F n h) (λs Q h=>bh h) (λ_ _=>#[aQ _,[],0,.nil,ar _ A5]) h1 ab ac (λX' U pX wX AX cX xX acc pl s G H Nx P I q k=>
   NC (k:=1) (B:=λP s=>wpAny '8' X'.A (eval i3 X'.env) (λx s5=>wpAny '8' X'.A (pyIter x) (λiv s6=>codeAny '8' X'.A (.compStart ':' 2 iv (.ref acc) X'.env) (λr s7=>match r with | .ok _=>P s7 | .error _=>False) s6) '%' s5) '%' s) (tb:=λN G H=>w3 G H λJ3 H3=>inG J3 g3 n3 (En te acc) N G H3)
    (λit _ _ I F n h=>YH (a0 X' U) I F n h) (λa b=>YJ a b) cX xX (h2 X' U) (ad X' U) (ag X' U) (λa1 s G H Nx P I q k=>
     NC (k:=2) (B:=λP s=>wpAny '8' X'.A (eval elt X'.env) (λx s5=>wpAny '8' X'.A (call (.builtin "list.append") [.ref acc,x]) (λ_ s6=>P s6) '%' s5) '%' s) (tb:=En te acc)
      (λit _ _ I F n h=>YG I F n h) (λa b=>YK a b) cX xX (h3 X' U) (al X' U) (an X' U) (λ_ _ _ _ _ _ I q k=>Gw (he X' U) xX I q k) I q k) I q k) I h (λJ H1 acc q hn=>q acc hn) Y
def YM(B:X.N.Nodup)(F:X.N[ix]?=some nx)(J:X.env.scope.names.lookup nx=some .local)(hc:X.calm=true)(c:CompOk X scope N A8)(h1:QI X t1 i1 w1)(O:∀C s H ex,QG ')' t1 g1)(Y:∀C s H ex,QTs ')' f1 n1)(h2:∀C s H ex,QI ')' t2 i2 w2)(ab:∀C s H ex,QG ')' t2 g2)(ac:∀C s H ex,QTs ')' f2 n2)(h3:∀C s H ex,QI ')' t3 i3 w3)(ad:∀C s H ex,QG ')' t3 g3)(ag:∀C s H ex,QTs ')' f3 n3)(he:∀C s H ex,QE ')' elt te)(al:swapsWithSole [.Name nx px] ':' spos.line X.env=pure true:=by rfl)(hs:∀x,foldedSetIterable i1 X.env x=pure x:=by intro _;rfl)(an:∀C s H ex x,foldedSetIterable i2 ')'.env x=pure x:=by intro _ _ _ _ _;rfl)(as:∀C s H ex x,foldedSetIterable i3 ')'.env x=pure x:=by intro _ _ _ _ _;rfl)(a0:(assignEach [.Name nx px] X.env).map (·.2)=[assign (.Name nx px) X.env]:=by rfl):QS X (.Assign [.Name nx px] ':' spos) (BK (NB w1 g1 n1 w2 g2 n2 w3 g3 n3 te A8) (BJ ix)):=#[λA6 s G H BB I h=>Kv B F J al a0 (λ_=>rfl) λU Qp hf=>YL (Q:=λv H=>BB.nx (G.set ix (some v)) H) (uJ c) hc h1.run (A_ λC s H ex=>(O C s H ex).run) (A_ λC s H ex=>(Y C s H ex).run) (A_ λC s H ex=>(h2 C s H ex).run) (A_ λC s H ex=>(ab C s H ex).run) (A_ λC s H ex=>(ac C s H ex).run) (A_ λC s H ex=>(h3 C s H ex).run) (A_ λC s H ex=>(ad C s H ex).run) (A_ λC s H ex=>(ag C s H ex).run) (A_ λC s H ex=>(he C s H ex).run) hs (A_ λC s H ex=>an C s H ex) (A_ λC s H ex=>as C s H ex) I h hf]
end
end L2
namespace L3
open L2
abbrev CB:=Ev->Nat->AS->(Ev->Nat->AS->Prop)->Prop
def clR (mg:iJ)(ft:Ev->Mo Bool)(fb:CB)(F:Ev)(J:AS)(K:Ev->Nat->AS->Prop):AU->Nat->Prop:=λl n1=>∃I:Nat->Ev->Nat->AS->Prop,I 0 F n1 J/\
 (∀i w D n ds,l[i]?=some w->I i D n ds->mg w D λB=>ft B n λb n2=>onC b (fb B n2 ds (I (i+1))) (I (i+1) B n2 ds))/\∀ D n ds,I l.length D n ds->K D n ds
abbrev apR (B:AD):CB:=λD n ds K=>B D n λx n3=>onD x λd=>ds.length<=lim/\K D n3 (ds++[d])
abbrev inB (B:AC)(mg:iJ)(ft:Ev->Mo Bool)(fb:CB):CB:=λD n ds K=>B D n (clR mg ft fb D ds K)
section
variable{pos:Pos}{A:AL}{m:Nat}{ds:AS}
structure RBd (Pn:PN)(cM:AR)(tb:Addr->(St->Hp->Prop)->St->Hp->Prop)(fb:CB):Prop where
 run:∀ (A:AL) (acc:Addr) (H1:Hp) (σc:St) (ρc:Ev) (G:St) (H:Hp) (D:Ev) (n:Nat) (ds:AS) (BA:Hp) (K:Ev->Nat->AS->Prop) (Nx:St->Hp->Prop),H1 acc=none->(∀k w,k∈cM->ρc[k]?=some (some w)->σc[k]?≠some (some (.ref acc)))->CS Pn A acc H1 cM σc ρc G H D n ds->zq BA (zF (λb=>A b\/b=acc) H)->fb D n ds K->
  (∀ σ2 H2 ρ2 n2 ds2,CS Pn A acc H1 cM σc ρc σ2 H2 ρ2 n2 ds2->zq BA (zF (λb=>A b\/b=acc) H2)->K ρ2 n2 ds2->Nx σ2 H2)->tb acc Nx G H
def YN(he:RE Pn cM fr' te fe):RBd Pn cM (λacc=>En te acc) (apR fe):=#[λA acc H1 σc ρc G H D n ds BA K Nx F na c sG r k=>by
 show he.run _ G H D n _ _ c.env c.pn r ?_;intro w5 m5 v5 H5 hr V5 J _;rw[xD] at hr;obtain⟨d,e5,O,r5⟩:=hr;subst e5;have B:=c.go J.st J.pn;have U:=sG.trans (zr J.st);obtain⟨xs,Y,I⟩:=B.ac;show#[xs,Y,CM (by rw[I.length];show O),k _ _ _ _ _ #[B.env.upd (.inr A5) (λk w hk hw z=>?_) NP.lst A5,B.pn.upd (.inr A5),#[_,zg,?_],?_,?_,B.fx] ?_ r5];obtain⟨f1,f2⟩:=B.fx k hk;rw[f1] at z;rw[f2] at hw;show na k w hk hw z;rw[zH (.inr A5)];show I.append (IsL.one V5.is);rw[zH (.inr A5)];show B.st;show λb o e nn=>by rw[zc (ze e F)];show B.s1 b o e nn
 rw[zH (.inr A5)];show U]
def ND{G D acc H fb K w:_}(hg:RG cM cM g mg)(ht:RT Pn cM ti ft)(hb:RBd Pn cM tb fb)(J:H1 acc=none)(na:∀k w,k∈cM->ρc[k]?=some (some w)->σc[k]?≠some (some (.ref acc)))(c:CS Pn A acc H1 cM σc ρc G H D n ds)(sG:zq BA (zF '-' H))(V2:Val '-' H w x)(r:mg w D λF=>ft F n λb n2=>onC b (fb F n2 ds K) (K F n2 ds))(k:∀ O H2 U n2 Y,CS Pn A acc H1 cM σc ρc O H2 U n2 Y->zq BA (zF '-' H2)->K U n2 Y->Nx O H2):g x G H λB H3=>ti B H3 λok H4=>if ok=true then tb acc Nx B H4 else Nx B H4:=by
 show hg.run _ G H D x w _ _ c.env V2 r λB I r3 E3 f3=>?_;have c3:CS Pn A acc H1 cM σc ρc B H I n ds:=#[E3,c.pn,c.ac,c.st,c.s1,λk hk=>#[(f3 k hk).1.trans (c.fx k hk).1,(f3 k hk).2.trans (c.fx k hk).2]];show ht.run _ B H I n _ _ E3 c.pn r3 λb m3 H4 r4 g4=>?_;have c4:=c3.go g4.st g4.pn;have ab:=sG.trans (zr g4.st)
 cases b with
 | false=>rw[if_neg '#'];show k _ _ _ _ _ c4 ab r4
 | true=>rw[if_pos rfl];show hb.run A acc H1 σc ρc B H4 I m3 ds BA K Nx J na c4 ab r4 k
def NE{fb:_}(hi:RI Pn cM false wi fi)(hg:RG cM cM g mg)(ht:RT Pn cM ti ft)(hb:RBd Pn cM tb fb) :
  RBd Pn cM (λacc Nx G H=>wi G H λJ H2=>inG J g ti (tb acc) Nx G H2) (inB fi mg ft fb):=#[λA acc H1 σc ρc G H D n ds BA K Nx U na c sG r k=>by
 show hi.run _ G H D n _ _ c.env c.pn r λI m5 J2 H5 ⟨I2,a0,a1,a2⟩ Y g5=>?_;have c5:=c.go g5.st g5.pn;have ac:=sG.trans (zr g5.st);show#[λj mm ad H'=>mm=I.length - j/\j<=I.length/\∃ B n' ds,CS Pn A acc H1 cM σc ρc ad H' B n' ds/\zq (zF '-' H5) (zF '-' H')/\I2 j B n' ds,#[I.length,by simp,aQ _,_,_,_,c5,zq.refl _,a0],?_];rintro j mm a7 H6 ⟨rfl,bb,ag,n6,al,c6,s6,ab⟩;by_cases O:j<I.length
 show Or.inr ?_;have F:I[j]?=some I[j]:=am O;obtain⟨an,as⟩:=Y.one j I[j] _ H6 F s6 (λz=>by cases z) λp hp=>c6.env.new hp;show#[an,λa3 H7=>∃ B n' ds,CS Pn A acc H1 cM σc ρc a3 H7 B n' ds/\zq (zF '-' H5) (zF '-' H7)/\I2 (j+1) B n' ds,λbc H2 h=>#[I.length - (j+1),by lia,A5,O,h],λy H7 a4=>?_];obtain⟨S7,V7⟩:=as y H7 a4;show ND hg ht hb U na (c6.go (zq.same S7) (c6.pn.same S7)) (s6.trans (zr (zq.same S7))) V7 (a1 j I[j] ag n6 al F ab) λ_ _ _ _ _ q1 q2 q3=>#[_,_,_,q1,q2,q3]
 show Or.inl ?_;have a5:j=I.length:=by lia
 subst a5;show#[Y.stop _ H6 s6 (λz=>by cases z),k _ _ _ _ _ c6 (ac.trans s6) (a2 _ _ _ ab)]]
abbrev NF (B:AC)(mg:iJ)(ft:Ev->Mo Bool)(fb:CB)(A8:List '0'):AD:=λD n Q=>B D n (clR mg ft fb (uy D A8) [] λ_ F ds=>Q (.d (.lst ds)) F)
def YO{fb:_}(hn:(A8.filterMap id).Nodup)(hi:RI Pn M ow wi fi)(hg:RG '(' '(' g mg)(ht:RT Pn '(' ti ft)(hb:RBd Pn '(' tb fb):RE Pn M true (λG H Q=>wi G H λJ H1=>∀acc,H1 acc=none->inG J g ti (tb acc) (λ_ H=>Q (.ref acc) H) (xw G A8) (upd H1 acc (.lst []))) (NF fi mg ft fb A8):=#[λA G H D n Q R E P hf k=>by
 show hi.run A G H D n _ _ E P hf λl m J H1 ⟨I,i0,it,ie⟩ iv g1=>λacc B=>?_;have E1:=E.stay g1.st
 have c0:CS Pn A acc H1 '(' (xw G A8) (uy D A8) (xw G A8) (L2.upd H1 acc (.lst [])) (uy D A8) m []:=
  #[(E1.cap hn).more (zq.upd (o:=.lst []) B) (Fr.of B) zg NP.lst A5,g1.pn.grow' (g1.pn.same (yL.upd B)) (Fr.of B) zg NP.lst A5,#[[],zg,A5],yy (zq.upd B) (Fr.of B),zq.upd B,λk hk=>#[A5,A5]]
 have na:∀k w,k∈zQ M A8->(uy D A8)[k]?=some (some w)->(xw G A8)[k]?≠some (some (.ref acc)):=λk w hk hw z=>by obtain⟨v,s1,_,s3⟩:=(E1.cap hn).val k w hw;obtain⟨a,e,hA,_⟩:=s3 hk;rw[z] at s1;cases s1;cases e;show E1.new B hA
 show#[λi mm ab H'=>mm=l.length - i/\i<=l.length/\∃ F O ds,CS Pn A acc H1 '(' (xw G A8) (uy D A8) ab H' F O ds/\I i F O ds,#[l.length,by simp,aQ _,_,m,[],c0,i0],?_];rintro i mm ab H' ⟨rfl,as,F,O,ds,c,hI⟩;by_cases ad:i<l.length
 show Or.inr ?_;have U:l[i]?=some l[i]:=am ad;obtain⟨go,yl⟩:=iv.one i l[i] _ H' U c.st (λ_=>c.s1) λp hp=>c.env.new hp;show#[go,λag H2=>∃ F O ds,CS Pn A acc H1 '(' (xw G A8) (uy D A8) ag H2 F O ds/\I (i+1) F O ds,λag H2 h=>#[l.length - (i+1),by lia,A5,ad,h],λx H2 hy=>?_];obtain⟨S2,V2⟩:=yl x H2 hy;show ND hg ht hb B na (c.go (zq.same S2) (c.pn.same S2)) (zq.refl _) V2 (it i l[i] F O ds U hI) λ_ _ _ _ _ q1 _ q3=>#[_,_,_,q1,q3]
 show Or.inl ?_;have an:i=l.length:=by lia
 subst an;obtain⟨xs,Y,al⟩:=c.ac;show#[iv.stop _ H' c.st (λ_=>c.s1),k _ O _ H' (ie F O ds hI) (Val.of #[acc,xs,A5,.inl (zv (E1.new B) Y),al.stay (zq.same (yx λb z=>.inl z))]) (g1.trans #[c.s1,c.pn.less λa z=>.inl z]) λ_=>#[acc,A5,(Fr.of B).back g1.st,#[_,Y,A5],acc,xs,A5,.inl Y,al]]]
def YQ{f1 f2:AO}{B F I:AC}{J O U:iJ}{Y ab ac:Ev->Mo Bool}(ad:X.N.Nodup)(ag:X.N[ix]?=some nx)(al:X.env.scope.names.lookup nx=some .local)(hc:X.calm=true)(cc:CompOk X scope N A8)(h1:JI X Pn M ow t1 i1 B)(an:∀C s H ex,JG ')' '(' '(' t1 J)(as:∀C s H ex,JTs ')' Pn '(' f1 Y)(h2:∀C s H ex,JI ')' Pn '(' false t2 i2 F)(a0:∀C s H ex,JG ')' '(' '(' t2 O)(a1:∀C s H ex,JTs ')' Pn '(' f2 ab)(h3:∀C s H ex,JI ')' Pn '(' false t3 i3 I)(a2:∀C s H ex,JG ')' '(' '(' t3 U)(a3:∀C s H ex,JTs ')' Pn '(' f3 ac)(he:∀C s H ex,JE ')' Pn '(' fr' elt fe)(hn:(A8.filterMap id).Nodup:=by ext)(a4:swapsWithSole [.Name nx px] ':' spos.line X.env=pure true:=by rfl)(hs:∀x,foldedSetIterable i1 X.env x=pure x:=by intro _;rfl)(a5:∀C s H ex x,foldedSetIterable i2 ')'.env x=pure x:=by intro _ _ _ _ _;rfl)(a7:∀C s H ex x,foldedSetIterable i3 ')'.env x=pure x:=by intro _ _ _ _ _;rfl)(bb:(assignEach [.Name nx px] X.env).map (·.2)=[assign (.Name nx px) X.env]:=by rfl):∃te,QS X (.Assign [.Name nx px] ':' spos) (BK te (BJ ix))/\RE Pn M true te (NF B J Y (inB F O ab (inB I U ac (apR fe))) A8):=by
 obtain⟨w1,bc,bd⟩:=h1.ex;obtain⟨g1,bk,bl⟩:=CQ an;obtain⟨n1,bm,bo⟩:=CP as;obtain⟨w2,bs,bt⟩:=Nc h2;obtain⟨g2,bx,b0⟩:=CQ a0;obtain⟨n2,b1,b2⟩:=CP a1;obtain⟨w3,b3,b4⟩:=Nc h3;obtain⟨g3,b5,b6⟩:=CQ a2;obtain⟨n3,b7,b8⟩:=CP a3;obtain⟨te,qe,re⟩:=D_ he;show#[_,YM ad ag al hc cc bc bk bm bs bx b1 b3 b5 b7 qe a4 hs a5 a7 bb,YO hn bd bl bo (NE bt b0 b2 (NE b4 b6 b8 (YN re)))]
def Jg{l:AU}{O:Ev}{mg:iJ}{ft:Ev->Mo Bool}{fb:CB}{I:AS}{K:Ev->Nat->AS->Prop}(xs:List α)(U:α->W)(hl:l=xs.map U)(J:Ev->Prop)(E:α->AS)(ab:I.length+(xs.flatMap E).length<=lim)(j0:J O)(h:∀a∈xs,∀ B,J B->∀ds K',ds.length+(E a).length<=lim->(∀ {F},J F->K' F n (ds++E a))->mg (U a) B λF=>ft F n λb n2=>onC b (fb F n2 ds K') (K' F n2 ds))(fin:∀ {D},J D->K D n (I++xs.flatMap E)):clR mg ft fb O I K l n:=by
 subst hl;show#[λi B Y ds=>Y=n/\J B/\ds=I++(xs.take i).flatMap E,#[A5,j0,by simp],?_,?_];rintro i w B Y ds hw ⟨rfl,hj,rfl⟩;rw[aF] at hw;obtain⟨a,ha,rfl⟩:=aI.mp hw;have e1:(xs.take (i+1)).flatMap E=(xs.take i).flatMap E++E a:=by rw[zj ha,gJ];simp
 have sub:((xs.take i).flatMap E).length+(E a).length<=(xs.flatMap E).length:=by
  have e2:xs.flatMap E=(xs.take (i+1)).flatMap E++(xs.drop (i+1)).flatMap E:=by rw[<- gJ,aV]
  rw[e2,e1];simp only[ay];lia
 show h a (az ha) B hj _ _ (by rw[ay];lia) λ{F} j1=>#[A5,j1,by rw[e1,aC]];rintro B Y ds ⟨rfl,hj,rfl⟩;rw[af,bC];show fin hj
def Bd.up(s:zq BA G'):∀ {B:AU} {vs:AT},(∀ (i:Nat) (w:W) (v:V),B[i]?=some w->vs[i]?=some v->WAt BA BA w v)->∀ (i:Nat) (w:W) (v:V),B[i]?=some w->vs[i]?=some v->WAt G' G' w v:=λh i w v F I=>WAt.up s s (h i w v F I)
def lsW (B:AU):CuW where
 at_:=λT BA a=>∃xs,Rd T a '+'/\xs.length=B.length/\∀i w v,B[i]?=some w->xs[i]?=some v->WAt BA BA w v
 mv:=λ{T T' BA G' a} t s h=>let ⟨xs,h1,h2,h3⟩:=h;#[xs,h1.imp (λh=>t _ h NP.lst) λ⟨o,h⟩=>#[o,t _ h λ_ z=>by cases z],h2,Bd.up s h3]
def NG (mg:iJ)(ft:Ev->Mo Bool)(U:AD)(O:Ev)(Q:AV):AU->Nat->Prop:=λl n1=>l.length<=lim/\∃I:Nat->Ev->Nat->AU->Prop,I 0 O n1 []/\
 (∀i w B J acc,l[i]?=some w->I i B J acc->mg w B λF=>ft F J λb n2=>onC b (U F n2 λx n3=>I (i+1) F n3 (acc++[x])) (I (i+1) F n2 acc))/\
 ∀ B J acc,I l.length B J acc->Q (.cu (lsW acc)) J
abbrev NH (B:AC)(mg:iJ)(ft:Ev->Mo Bool)(F:AD)(A8:List '0'):AD:=λD n Q=>B D n (NG mg ft F (uy D A8) Q)
def YR(hn:(A8.filterMap id).Nodup)(hi:RI Pn M ow wi fi)(hg:RG '(' '(' g mg)(ht:RT Pn '(' ti ft)(he:RE Pn '(' fr' te fe):RE Pn M false (GS wi g ti te A8) (NH fi mg ft fe A8):=#[λA G H D n Q R E P hf k=>by
 show hi.run A G H D n _ _ E P hf λl m J H1 ⟨hz,I,i0,it,ie⟩ iv g1=>λacc O=>?_;have E1:=E.stay g1.st;have E2:=(E1.cap hn).more (zq.upd (o:=.lst []) O) (Fr.of O) zg NP.lst A5;have P2:y8 Pn '-' m (L2.upd H1 acc (.lst [])):=g1.pn.grow' (g1.pn.same (yL.upd O)) (Fr.of O) zg NP.lst A5;have bc:∀k w,k∈zQ M A8->(uy D A8)[k]?=some (some w)->(xw G A8)[k]?≠some (some (.ref acc)):=λk w hk hw z=>by obtain⟨v,s1,_,s3⟩:=(E1.cap hn).val k w hw;obtain⟨a,e,hA,_⟩:=s3 hk;rw[z] at s1;cases s1;cases e;show E1.new O hA
 have key:∀ U F H',EnvR '-' '(' U H' F->(∀k∈zQ M A8,U[k]?=(xw G A8)[k]?/\F[k]?=(uy D A8)[k]?)->∀k w,k∈zQ M A8->F[k]?=some (some w)->U[k]?≠some (some (.ref acc)):=λU F H' E' as k w hk hw z=>by right
 show#[λi mm U H'=>mm=l.length-i/\i<=l.length/\∃ F n' B xs,EnvR '-' '(' U H' F/\y8 Pn '-' n' H'/\I i F n' B/\H' acc=some '+'/\(xs.length=B.length/\∀ (j:Nat) (w:W) (v:V),B[j]?=some w->xs[j]?=some v->WAt (zF '-' H') (zF '-' H') w v)/\B.length<=i/\zq (zF A H1) (zF '-' H')/\zq H1 H'/\(∀k∈zQ M A8,U[k]?=(xw G A8)[k]?/\F[k]?=(uy D A8)[k]?),
  #[l.length,by simp,aQ _,_,m,[],[],E2,P2,i0,zg,#[A5,λj w v z=>by cases z],ak _,yy (zq.upd O) (Fr.of O),zq.upd O,λk hk=>#[A5,A5]],?_]
 rintro i mm U H' ⟨rfl,bd,F,n',B,xs,E',P',hI,a0,⟨ag,a1⟩,bk,st,s1,as⟩;by_cases a3:i<l.length
 show Or.inr ?_;have an:l[i]?=some l[i]:=am a3;obtain⟨go,yl⟩:=iv.one i l[i] _ H' an st (λ_=>s1) λp hp=>E'.new hp
 show#[go,λa2 H2=>∃ F n' B xs,EnvR '-' '(' a2 H2 F/\y8 Pn '-' n' H2/\I (i+1) F n' B/\H2 acc=some '+'/\(xs.length=B.length/\∀ (j:Nat) (w:W) (v:V),B[j]?=some w->xs[j]?=some v->WAt (zF '-' H2) (zF '-' H2) w v)/\B.length<=i+1/\zq (zF A H1) (zF '-' H2)/\zq H1 H2/\(∀k∈zQ M A8,a2[k]?=(xw G A8)[k]?/\F[k]?=(uy D A8)[k]?),
  λa2 H2 h=>#[l.length-(i+1),by lia,A5,a3,h],λx H2 hy=>?_]
 obtain⟨S2,V2⟩:=yl x H2 hy;show hg.run _ U H2 F x l[i] _ _ (E'.stay (zq.same S2)) V2 (it i l[i] F n' B an hI) λal Y r3 E3 f3=>?_;have ab:∀k∈zQ M A8,al[k]?=(xw G A8)[k]?/\Y[k]?=(uy D A8)[k]?:=λk hk=>#[(f3 k hk).1.trans (as k hk).1,(f3 k hk).2.trans (as k hk).2];show ht.run _ al H2 Y n' _ _ E3 (P'.same S2) r3 λb m3 H4 r4 g4=>?_;have ac:=(zq.same S2).trans g4.st
 cases b with
 | false=>
  rw[if_neg '#'];show#[Y,m3,B,xs,E3.stay g4.st,g4.pn,r4,ac.lst a0,#[ag,Bd.up (zr ac) a1],by lia,st.trans (zr ac),s1.trans ac,ab]
 | true=>
  rw[if_pos rfl];show he.run _ al H4 Y m3 _ _ (E3.stay g4.st) g4.pn r4 ?_;intro w5 m5 v5 H5 r5 V5 g5 _;have ad:=ac.trans g5.st;have E5:=(E3.stay g4.st).stay g5.st;have a4:=ad.lst a0;show#[xs,a4,CM '!',Y,m5,B++[w5],xs++[v5],E5.upd (.inr A5) (key al Y H5 E5 ab) NP.lst A5,g5.pn.upd (.inr A5),r5,zg,#[by simp[ag],λj w v e1 e2=>?_],by right,?_,?_,ab];rw[zH (.inr A5)];by_cases hj:j<B.length;rw[bE hj] at e1;rw[bE '!'] at e2;show WAt.up (zr ad) (zr ad) (a1 j w v e1 e2);rw[bp '!'] at e1 e2;rw[ag] at e2;have a7:j-B.length=0:=by have:=(ai.mp e1).1;simp at this;lia
  rw[a7] at e1 e2;simp only[List.getElem?_cons_zero,Option.some.injEq] at e1 e2;subst e1 e2;show V5;rw[zH (.inr A5)];show st.trans (zr ad);show λb o e nn=>by rw[zc (ze e O)];show s1.trans ad b o e nn
 show Or.inl ?_;have bb:i=l.length:=by lia
 subst bb;have a5:yL (zF '-' H') (zF A H'):=yx λb z=>.inl z;show#[iv.stop _ H' st (λ_=>s1),k _ n' _ H' (ie F n' B hI) #[acc,A5,xs,.inl (zv (E1.new O) a0),ag,Bd.up (zq.same a5) a1] (g1.trans #[s1,P'.less λa z=>.inl z]) λz=>by cases z]]
def YS(I:X.calm=true)(cc:CompOk X scope N A8)(hi:JI X Pn M ow tg iter B)(J:∀C s H ex,JG ')' '(' '(' tg mg)(O:∀C s H ex,JTs ')' Pn '(' ifs ft)(U:∀C s H ex,JE ')' Pn '(' fr' elt F)(Y:(A8.filterMap id).Nodup:=by ext)(hs:gM iter X:=by intro _;rfl):JE X Pn M false (.ListComp elt [#[tg,iter,ifs,0]] scope pos) (NH B mg ft F A8):=by
 obtain⟨ti,qi,ri⟩:=hi.ex;obtain⟨g,qg,rg⟩:=CQ J;obtain⟨tt,qt,rt⟩:=CP O;obtain⟨te,qe,re⟩:=D_ U;show#[_,KW I cc qi qg qt qe hs,YR Y ri rg rt re]
abbrev Jh (w:W)(P:CuW->Prop):Prop:=match w with | .cu k=>P k | _=>False
def YT{w:_}:Jh w P = ∃k,w = .cu k/\P k:=propext #[λh=>by cases w <;> first | show False.elim h | show#[_,A5,h],by rintro⟨k,rfl,h⟩;show h]
def YU(xs:List α)(O:α->W)(hl:l=xs.map O)(J:Ev->Prop)(E:α->W)(U:xs.length<=lim)(j0:J I)(h:∀a∈xs,∀ F,J F->∀C:Ev->Nat->W->Prop,(∀ {B},J B->C B n (E a))->mg (O a) F λB=>fe B n λx n3=>C B n3 x)(fin:Q (.cu (lsW (xs.map E))) n):NG mg Ft fe I Q l n:=by
 subst hl;show#[by rw[af];show U,λi F Y acc=>Y=n/\J F/\acc=(xs.take i).map E,#[A5,j0,A5],?_,?_];rintro i w F Y acc hw ⟨rfl,hj,rfl⟩;rw[aF] at hw;obtain⟨a,ha,rfl⟩:=aI.mp hw;show h a (az ha) F hj (λB n3 x=>n3=Y/\J B/\(xs.take i).map E++[x]=(xs.take (i+1)).map E) λ{B} j1=>#[A5,j1,by rw[zj ha,aP];rfl];rintro F Y acc ⟨rfl,hj,rfl⟩;rw[af,bC];show fin
abbrev YV (f:AD):AC:=λD n Q=>f D n λx m=>Jh x λk=>∃B,k=lsW B/\Q B m
def YW(K:AH)(Y:X.K=K)(h:JE X Pn M fr e f):JI X Pn M false tg e (YV f):=by
 obtain⟨te,q,r⟩:=h.ex;show#[_,GT K Y q,'7'];show r.run A G H D n _ _ E P hf ?_;intro w m v H1 I hv g _;rw[YT] at I;obtain⟨_,rfl,ws,rfl,I⟩:=I;obtain⟨O,rfl,xs,F,B,hx⟩:=hv;have J:∀ {A2:AL} {H2:Hp},zq (zF A H1) (zF A2 H2)->Rd H2 O '+':=λs=>F.imp (λh=>zw _ _ (s _ _ h NP.lst)) λ⟨o,h⟩=>#[o,zw _ _ (s _ _ h λ_ z=>by cases z)];show#[O,A5,#[xs,.inl F.sub],k _ m _ H1 I #[λi w A2 H2 U s _ _=>?_,λA2 H2 s _=>#[xs,.inl (J s),by rw[B];show ak _]] g];have hi:i<xs.length:=by rw[B];show (ai.mp U).1
 show#[#[xs,xs[i],.inl (J s),am hi],?_];rintro y H3 ⟨rfl,hy⟩;have:=hy xs (.inl (J s));rw[am hi] at this;cases this;show#[λ_ _ z=>z,WAt.up s s (hx i w _ U (am hi))]
abbrev dMinW (fs:AC):AD:=λD n Q=>fs D n λF m=>on1 F λx=>Jh x λk=>∃B:List AS,k=lsW (B.map W.fl)/\0<B.length/\∀ (i:Nat) (l:AS),B[i]?=some l->(∀ (j:Nat) (l':AS),B[j]?=some l'->l.length<=l'.length/\(j<i->l.length<l'.length))->Q (.fl l) m
end
end L3
namespace L2
open PyProof.Rows PySem.W PySem.Calls
def YX{h:Heap}{v:Value}{x y:Dt}(F:x.eqOk)(B:y.eqOk)(I:Reads h v (PySem.W.kqdP x.toW) as)(J:Reads h v (PySem.W.kqdP y.toW) bs):x=y:=by have:=SeqAt.Reads.unique _ _ _ _ _ (ee 8 _ F).1 I J;show DI ((ef 8 _ _ 8 F B).mp (by rw[this];show (ef 8 _ _ 8 B B).mpr A5))
section
variable{P:Aa}
def YY{A:Around}{E:Value->Shared->Prop}{s:Shared}{L BB:Addr}{m0:Str->Option Value}{vs:List Value}{ft:Bool}{A9:List Dt}{Q:Value->Shared->Prop}(hu:A.units+60<cLine)(ac:s.heap.Ns L m0)(ag:BB≠L)(ho:s.heap.get? BB=some (seqObj "list" vs.toArray n))(hv:Paired (Cv s.heap) vs A9)(hz:A9.length<=sizeLine)(hr:RowsOk ft A9)(h:∀h' c p,List.Perm p (List.range A9.length)->((p.map λi=>A9.getD i .non).Pairwise λa b=>HT.lexLt (enD a) (enD b)=true)->(∀b o,b≠L->b≠BB->s.heap.get? b=some o->h'.get? b=some o)->h'.Ns L m0->
   h'.get? BB=some (seqObj "list" (p.map λi=>vs.getD i .none).toArray c)->Q .none '1'):
  wpAny (model P w) A (call (.builtin "list.sort") [.ref BB]) Q E s:=by
 have a4:=Hv hv;by_cases h2:2<=A9.length
 ·have B:∀p∈(Cb s.heap L).filter (λq=>decide (q.1≠BB)),s.heap.get? p.1=some p.2/\p.1≠L/\p.1≠BB:=λp hp=>by
   have h1:=bK.mp hp;have h2:=yo.mp (show (p.1,p.2)∈Cb s.heap L from h1.1)
   simp_all
  have J:∀b,(#[#v[],{}]:Heap).get? b=none:=λb=>by
   cases e:(#[#v[],{}]:Heap).get? b with
   | none=>rfl
   | some o'=>
    have:=aw e;simp at this
  refine aW gZ #[_,ho,A5] gG ?_ (g8 _);refine Lm (h₀:=(#[#v[],{}]:Heap)) (L:=L) (m:=m0) (news:=(Cb s.heap L).filter (λq=>decide (q.1≠BB))) #[ac,λb o e=>?_,aQ _] (λp hp=>?_) ho ag (J _) (λp hp=>(B p hp).2.2) '!' '!' λe1 h' F N=>?_
  ·simp_all
  ·show#[(B p hp).1,(B p hp).2.1,J _]
  ·have kp:∀b o,b≠L->b≠BB->s.heap.get? b=some o->h'.get? b=some o:=λb o hb hD e=>(N (b,o) (aj _ (bK.mpr #[yo.mpr #[hb,e],aD hD]))).1;have O:Paired (Cv h') vs A9:=Paired.mapP hv λv st r=>r.keep ac ho kp;obtain⟨fs,k1,k2,k3⟩:=Nu O (hr.first h2);refine W.kat_kind (T:=if ft then .type "tuple" else .type "int") (s:='1') k1 '!' (λf hf=>?_) (by cases ft <;> decide) ?_
   ·obtain⟨t1,t2⟩:=k3 f hf;intro A' Q' E' s' a5 hq
    cases ft with
    | false=>
     obtain⟨a,t,rfl⟩:=t1 A5;show dC (typeIs_int s' a t) hq
    | true=>
     obtain⟨a,o,rfl,g,hc⟩:=t2 A5;show dC (T := "tuple") #[o,a5 _ _ g,hc] hq
   ·have hu:G_ A9.length (xB (A9.map enD)):=λi j hi I e=>by
     have e1:=Je (A9:=A9.map enD) (i:=i) (j:=j) (by rwa[af]) (by rwa[af]);have e2:=Je (A9:=A9.map enD) (i:=j) (j:=i) (by rwa[af]) (by rwa[af]);rw[e,aJ (iu _)] at e1;rw[e,aJ (iu _)] at e2;have gi:(A9.map enD).getD i []=enD A9[i]:=by simp[hi]
     have gj:(A9.map enD).getD j []=enD A9[j]:=by simp[I]
     rw[gi,gj] at e1 e2;rcases Jd (a:=enD A9[i]) (b:=enD A9[j]) with h | h | h
     ·show (dh hr.nd).mp (Yy (hr.cmp _ (bj hi) _ (bj I)) h)
     all_goals grind
    have Y:vs.length=A9.length:=by lia
    have al:∀i j,i<A9.length->j<A9.length->ansK (xB (A9.map enD)) i j=HT.lexLt (enD (A9.getD i .non)) (enD (A9.getD j .non)):=λi j hi I=>by have:=Je (A9:=A9.map enD) (i:=i) (j:=j) (by rwa[af]) (by rwa[af]);rw[show ansK (xB (A9.map enD)) i j=decide (xB (A9.map enD) i<xB (A9.map enD) j) from rfl,this];simp[hi,I]
    refine#[xB (A9.map enD),by rw[Y];show hu,λi j hi I e=>?_,λi j hi I C E hC=>?_,λp ab=>?_]
    ·rw[Y] at hi I;obtain⟨a1,b1,c1,o1,a7,r1⟩:=yq O .none .non hi;obtain⟨a2,b2,c2,o2,bb,r2⟩:=yq O .none .non I;rw[b1,b2] at e;cases e;have es:A9.getD i .non=A9.getD j .non:=YX o1 o2 r1 r2;have gi:A9.getD i .non=A9[i]:=by simp[hi]
     have gj:A9.getD j .non=A9[j]:=by simp[I]
     rw[gi,gj] at es;show (dh hr.nd).mp es
    ·rw[Y] at hi I;obtain⟨a1,b1,c1,o1,a7,r1⟩:=yq O .none .non hi;obtain⟨a2,b2,c2,o2,bb,r2⟩:=yq O .none .non I;have mi:A9.getD i .non∈A9:=by simp[hi]
     have mj:A9.getD j .non∈A9:=by simp[I]
     have ad:C (HT.lexLt (enD (A9.getD i .non)) (enD (A9.getD j .non))) '1':=by rw[<- al i j hi I];show hC
     have U:=hr.cmp _ mi _ mj;obtain⟨d1,l1,e1,f1⟩:=hr.first h2 _ mi;obtain⟨d2,l2,e2,f2⟩:=hr.first h2 _ mj;change wpAny _ _ (keyLt' _ (vs.getD i .none) (vs.getD j .none)) C _ _;rw[b1,b2];rw[e1] at c1 o1 r1 U ad;rw[e2] at c2 o2 r2 U ad
     cases r1 with
     | @tuple _ bt an n1 _ _ g1 bx bc bd=>
     cases r2 with
     | @tuple _ b0 as n2 _ _ g2 b3 bk bl=>
     refine W.kat_lt (s:='1') g1 bc g2 bk ?_;have i1:=xQ o1;have i2:=xQ o2;have j1:=xJ.mp (show Dt.hks (d1::l1)=true from c1);have j2:=xJ.mp (show Dt.hks (d2::l2)=true from c2);have:=Nt (P:=P) (w:=w) (A:=A.in1) (s:='1') (Q:=C) (b:=((if ft then Value.type "tuple" else .type "int") != Value.type "tuple")) (by show A.units+1+40<cLine;lia) 0 (λd hd=>#[j1 d hd,i1 d hd]) (λd hd=>#[j2 d hd,i2 d hd]) (show Dt.cmps (d1::l1) (d2::l2)=true from U) bd bl (λhb _ d l' e=>?_) ad
     ·rw[show decide (an.size<as.size)=decide (an.toList.length<as.toList.length) from by simp];show this
     ·cases e;rw[f1]
      cases ft with
      | false=>rfl
      | true=>show absurd hb (by decide)
    ·rw[Y] at ab
     have a0:p.toList.Perm (List.range A9.length):=by have:=ab.perm.toList;simpa using this
     have a3:∀i∈p.toList,i<A9.length:=λi hi=>aL.mp ((a0.mem_iff).mp hi);refine W.KasFin.intro F N (W.UpdF.head λq' bm=>(B q' bm).2.2) λbo c F'' N''=>?_;refine#[_,A5,h bo c p.toList a0 ?_ (λb o hb hD e=>(N'' (b,o) (aj _ (bK.mpr #[yo.mpr #[hb,e],aD hD]))).1) F''.ns (N'' (BB,_) aq).1];have b4:p.size=A9.length:=Lc ab.perm;rw[ce];intro i j hi I bs;rw[af,aM] at hi I;have hk:=ab.lt_of bs '!';rw[dj,dj,eD,eD];have e1:p.getD i 0=p[i]:=by simp[hi]
     have e2:p.getD j 0=p[j]:=by simp[I]
     unfold key at hk;rw[e1,e2] at hk;rw[<- al _ _ (a3 _ '$') (a3 _ '$')];show aD hk
 ·refine aW gZ #[_,ho,A5] gG ?_ (g8 _);refine uM ho '!' λh' c kp hD=>#[_,A5,?_];refine h h' c (List.range A9.length) (fO _) ?_ (λb o _ hb e=>kp b o hb e) ?_ ?_
  ·match A9,h2 with
   | [],_=>show .nil
   | [_],_=>show eV _ _
   | _::_::_,h2=>show absurd '$' h2
  ·obtain⟨o,es,ep,g,k⟩:=ac;show#[o,es,ep,kp _ _ (Ne.symm ag) g,k]
  ·rw[<- a4,uR];show hD
def NI:AT->Hp->VK->Prop:=λxs H Q=>∃l vs A9 ft,xs=[.ref l]/\(Rd H l (.lst vs)\/H l=some (.tup vs))/\IsL H A9 vs/\A9.length<=100000/\RowsOk ft A9/\
 ∀ys B,IsL H B ys->B.Perm A9->(B.Pairwise λa b=>HT.lexLt (enD a) (enD b)=true)->New H (.lst ys) Q
def NJ (hu:X.A.units+64<cLine):CallQ X (.builtin "sorted") NI:=#[by
 intro A6 s G H xs us Q I r h;obtain⟨l,vs,A9,ft,rfl,hl,hsts,hz64,hr,q⟩:=h;obtain⟨u,rfl,ru⟩:=B9 r;cases ru;have hvl:=hsts.length;obtain⟨m0,hns,_⟩:=id I.loc
 have rows0:∀ {A9:AS} {vs:AT} {is:AN},(∀x∈A9,x.hk=true/\x.eqOk/\x.isTup=true)->IsL H A9 vs->yf vs is->Paired (Cv s.heap) is A9:=by
  intro A9
  induction A9 with
  | nil=>intro vs is _ h1 h2;cases h1;cases h2;show .nil
  | cons st A9 ih=>
   intro vs is hk h1 h2;obtain⟨v,vs',rfl,hv,hr⟩:=h1;obtain⟨k1,k2,k3⟩:=hk st '$'
   cases h2 with
   | cons r1 r2=>
    show .cons ?_ (ih (λx hx=>hk x (aj _ hx)) hr r2)
    cases st with
    | tup ll=>
     obtain⟨a,xs,rfl,ha,hx⟩:=id hv;cases r1;show#[a,A5,k1,k2,yT I.hok 8 hv A5 k2]
    | _=>cases k3
 show call_function_entry kind_sorted plain_sorted entry_sorted (args_sorted1 _) ?_;unfold Builtin.«sorted»;show aa (m:=checkCount "sorted" 1 1 _) (ae ?_)
 have go:∀its h1,yf vs its->its.length<=sizeLine->(∀b o,s.heap.get? b=some o->h1.get? b=some o)->wpAny '5' X.A.in1 (do
   let l <- newList its
   let _ <- holding [l] (call (.builtin "list.sort") [l])
   ret l) (λfin s'=>∃v,fin=PySem.Fin.done (Flow.ret v)/\EP X A6 G Q v s') X.xe { s with heap:=h1 }:=by
  intro its h1 rv hz hk
  have none0:∀b,(#[#v[],{}]:Heap).get? b=none:=λb=>by
   cases e:(#[#v[],{}]:Heap).get? b with
   | none=>rfl
   | some o'=>
    have:=aw e;simp at this
  have hil:=rv.length;show aa (ir ?_ hz);have F:Fr (#[#v[],{}]:Heap) X.env.locals s.heap m0:=#[hns,λb o e=>(by right),aQ _];have F1:=(F.keeps hk).push { cls:=.type "list",data:=.seq its.toArray }
  have hDn:s.heap.get? h1.objs.size=none:=by
   cases e:s.heap.get? h1.objs.size with
   | none=>rfl
   | some o=>show absurd (aw (hk _ _ e)) (cI _)
  have hHD:H h1.objs.size=none:=by
   cases e:H h1.objs.size with
   | none=>rfl
   | some o=>
    obtain⟨o',ho'⟩:=Lo (I.hok _ o e);grind
  have hLs:∃o,s.heap.get? X.env.locals=some o:=by obtain⟨o,_,_,h1,_⟩:=hns;show#[o,h1]
  have hDL:h1.objs.size≠X.env.locals:=λz=>by obtain⟨o,e⟩:=hLs;rw[z,e] at hDn;cases hDn
  have kp:∀b o,s.heap.get? b=some o->(h1.push { cls:=.type "list",data:=.seq its.toArray }).get? b=some o:=λb o e=>ah _ (hk b o e);have rows:Paired (Cv (h1.push { cls:=.type "list",data:=.seq its.toArray })) its A9:=Paired.mapP (rows0 hr.key hsts rv) λv x ⟨a,e,k1,k2,as,r⟩=>#[a,e,k1,k2,as,uc (λb o us n' g _ _=>kp b o g) k1 r];show aa (bQ (aE (YY (L:=X.env.locals) (BB:=h1.objs.size) (m0:=m0) (vs:=its) (n:=0) (ft:=ft) (A9:=A9) (s:={ s with heap:=h1.push { cls:=.type "list",data:=.seq its.toArray } }) (Q:=λ_ s'=>EP X A6 G Q (.ref h1.objs.size) s') (by change X.A.units+1+60<cLine;lia) F1.ns hDL (ar _ A5) rows (av hz64 (by rw[cy];decide)) hr λh'' c p hp hup kp2 ns2 hD2=>?_) (λ_ s' x=>ae #[_,A5,x]) λ_ _ e=>e));have hpi:∀i∈p,i<A9.length:=λi hi=>aL.mp ((hp.mem_iff).mp hi);have hplen:p.length=A9.length:=by rw[hp.length_eq,aZ]
  have I':=Lp I hns (ys:=p.map λi=>vs.getD i .non) (λb o hb e=>kp2 b o hb (by grind) (kp b o e)) ns2 hDn hHD hD2 (Lq rv p λi hi=>by have:=hpi i hi;lia) (by rw[af,hplen,cy];lia) s.toks;show#[.ref h1.objs.size,_,I',A5,(q _ (p.map λi=>A9.getD i .non) (Nv hsts hpi) ?_ hup).at hHD];have:=hp.map λi=>A9.getD i .non;rwa[uR] at this
 rcases hl with hl | hl;obtain⟨its,rv,pl,hz⟩:=I.list (.inl hl);have hil:=rv.length;show aa (collect_list pl.isList (go its _ rv '!' λb o q=>?_) (by rw[cy];lia));have hlt:b<s.heap.objs.size:=aw q;rw[gE _ _ _ _ (aY hlt),Heap.get?_push_ne _ _ _ (aY hlt)];show q;obtain⟨its,rv,⟨o,ho,hc,n,hd⟩,hz⟩:=I.tuple (.of hl);have hil:=rv.length;show aa (Xt ho hc hd '!' λh1 hk=>go its h1 rv '!' hk)]
end
end L2
namespace L3
open L2
section
abbrev NK:AU->Mo W:=λF n Q=>on1 F λx=>onS x λA9=>A9.length<=100000/\(∃ft,RowsOk ft A9)/\∀B:AS,B.Perm A9->B.Pairwise ltD->Q (.d (.lst B)) n
def NL:FL Pn true NI NK:=#[λA H xs ws n Q R U b P h k=>by
 simp only[NK,CW,FC] at h;obtain⟨x,rfl,A9,hx,I,⟨ft,Y⟩,h⟩:=h;obtain⟨v,rfl,bb⟩:=CO b
 have J:∃a ys,v = .ref a/\(Rd H a (.lst ys)\/H a=some (.tup ys))/\IsL (zF A H) A9 ys:=by
  rcases hx with rfl | rfl;obtain⟨a,ys,e,h1,h2⟩:=bb;show#[a,ys,e,.inl h1,h2];obtain⟨a,ys,e,h1,h2⟩:=xH bb;show#[a,ys,e,.inr h1,h2]
 obtain⟨a,ys,rfl,ha,J⟩:=J;show#[a,ys,A9,ft,A5,ha,J.stay (zq.same zw),I,Y,λO B hy hp hs p H' np g S=>?_];have nl:Dt.noLs B=true:=Jf (xJ.mpr λd hd=>(Y.key d (hp.mem_iff.mp hd)).1);have F:IsL (zF A H) B O:=CI U.noT nl hy;show k _ n _ H' (h B hp hs) (HP F (zq.same S) (U.new np) g) (Go.same P S) λz=>HQ F S np g]
variable{E:XK}{zu:List Stmt}{pos:Pos}{x:Str}
def YZ(F:FrX C E X)(BB:Dfn X.K X.mg x st ps fA fd)(BA:FnOk X.prog X.w X.K X.mg X.base (CX1 X.prog X.w C) j fA fd ps (spX k Fp))(U:Room kk X.A)(Y:JA X Pn M (e::es) fs)(I:j<=kk:=by ext)(hg:Gl X x:=by rfl)(J:Ah x:=by ext)(he:gy e es X:=by rfl)(O:iI pos es X:=by rfl):
  JX X E Pn M (.Return (some '<') p2::zu) (λD n=>fs D n λB m=>m=n/\B.length=k/\Fp B):=by
 obtain⟨ta,qa,ra⟩:=Y.ex;show#[_,zD #[JJ (DB BA (U.mono I) hg BB.m BB.F.kp BB.b .nil F.pass qa.run J he O)] #[Et],λA G H D n BB E P hf k=>?_];show ra.run A G H D n _ _ E P hf ?_;rintro B m vs H1 ⟨rfl,hk,hF⟩ b g;rw[bU];show#[Pn,A,B,m,(E.stay g.st).al,b,hk,g.pn,hF,λv H' g2=>k v H' (g.trans g2)]
abbrev mWNew (Pn:PN):Ev->Nat->(AU->PN->Nat->Prop)->Prop:=λ_ n R=>∃Q,∀d,R [.pen d] (Pn.mo d Q) n
end
end L3
namespace L2
open PyProof.Rows PySem.W
end L2
namespace L3
open L2
abbrev dTupZ:AU->Mo W:=λB n Q=>on1 B λx=>onZ x λA7=>Q (.d (.tup ((A7.map (·.1)).map stD))) n
end L3
namespace L2
open PyProof.Rows PySem.W
end L2
namespace L3
open L2
abbrev c_:AU->Mo W:=λB n Q=>on1 B λx=>match x with | .dn _ A7=>(A7.map (·.1)).Nodup->Q (.d (.lst (A7.map (·.1)))) n | _=>False
end L3
namespace L2
open PyProof.Rows PySem.W PySem.Calls
end L2
namespace L3
open L2
abbrev d_ (fk fv:AD):AD:=λD n Q=>fk D n λy m=>fv D m λx B=>onD y λkd=>onD x λd=>kd.ky/\Q (.dn false [(kd,d)]) B
abbrev dMovN (i j:Nat):Ms:=λD n k=>onV D j λw=>C0 w λA7=>onP D j (.dn true A7) λB=>onP B i (.dn true A7) λF=>onN F j λI=>k.nx I n
end L3
namespace L2
open PyProof.Rows PySem.W PySem.Calls
section
variable{P:Aa}{E:XK}
open PySem.W
end
end L2
namespace L3
open L2
abbrev dTruZ (f:AD):Ev->Mo Bool:=λD n Q=>f D n λx m=>onZ x λA7=>Q (!A7.isEmpty) m
section
variable{P:Addr}{i:Nat}
abbrev e_ (Pn:PN)(P:Addr)(q:Str)(i:Nat)(f:AD):AD:=λD n Q=>Pn.J=BF P q/\f D n λx m=>onV D i λB=>onZ B λA7=>∃A9:AF,x = .d (.tup (A9.map stD))/\0<A9.length/\(∀st∈A9,∃l,yE A7 st=some (.lst l))/\∀st∈A9,Q (.d (stD st)) m
end
end L3
local macro_rules | `(tactic| left)=>`(tactic| ((try (with_reducible conv=>whnf));repeat (with_reducible refine L3.ZX ?_;try (with_reducible conv=>whnf)));try dsimp only)
local macro_rules | `(tactic| fail"ct")=>`(tactic| (with_reducible refine L3.WD ?_ ?_;(first | decide | assumption | rfl));left)
local macro_rules | `(tactic| fail"cf")=>`(tactic| (with_reducible refine L3.WE ?_ ?_;(first | decide | assumption | rfl));left)
namespace Law
open L2 L3
abbrev lc:AM:=["given","box","better","worse",Ai,"left_alone"]
abbrev ld:AM:=[Ai,"box","worths","better",Aj,"leads"]
abbrev lg:AM:=[Ak,Am]
abbrev lh:AM:=[An,Ak]
abbrev li:AM:=[An,Ak,Ao,Ap]
abbrev lj:AM:=[An,Ak,Ao,"_law_few"]
abbrev lm:AM:=["_law_script"]
abbrev ln:AM:=[Aq,"_law_due_here"]
abbrev lr:AM:=[Aj]
abbrev lu:AM:=[Aj,Ar]
abbrev lv:AM:=[Ao,As,At]
abbrev lw:AM:=[At,Ap]
abbrev lx:AM:=[An,Au]
abbrev ly:AM:=[Ak]
abbrev lz:AM:=[Ai,"box","worth"]
abbrev lA:AM:=[Av,Au]
abbrev lB:AM:=[Aj,Ar,Ai,"held"]
abbrev lC:AM:=[Ak,Av]
abbrev lD:AM:=[An,"_law_most"]
abbrev lE:AM:=[Ai,"box","better"]
abbrev lF:AM:=[Aw,Ao,Ax]
abbrev lG:AM:=[At,Ay]
abbrev lH:AM:=["row","worth","worths"]
abbrev lI:AM:=[Az,At,Ay]
abbrev lJ:AM:=["leads","one","other"]
abbrev lK:AM:=[Az,At,Ao]
abbrev lL:AM:=[Aj,"books"]
abbrev lM:AM:=[Ai,"given"]
abbrev lN:AM:=["at","worth","box"]
abbrev lO:AM:=[As,At]
abbrev lP:AM:=["_law_wish",Ak]
abbrev lQ:AM:=[An]
abbrev lR:AM:=["choices"]
def top (i:Nat):Stmt:=PySem.Challenge.pw_allelse_k54_full_books.main.body.getD i (.Pass #[0,0,0,0])
abbrev NM:Stmt:=top 31
abbrev NN:Stmt:=top 32
abbrev NO:Stmt:=top 14
abbrev NQ:Stmt:=top 15
abbrev uK:Stmt:=top 16
abbrev u9:Stmt:=top 42
abbrev NR:Stmt:=top 17
abbrev NS:Stmt:=top 18
abbrev NT:Stmt:=top 19
abbrev NU:Stmt:=top 21
abbrev NV:Stmt:=top 23
abbrev uk:Stmt:=top 24
abbrev NW:Stmt:=top 26
abbrev NX:Stmt:=top 27
abbrev NY:Stmt:=top 28
abbrev NZ:Stmt:=top 29
abbrev N1:Stmt:=top 33
abbrev N3:Stmt:=top 34
abbrev N4:Stmt:=top 37
abbrev N5:Stmt:=top 38
abbrev N6:Stmt:=top 39
abbrev N7:Stmt:=top 35
abbrev N8:Stmt:=top 36
abbrev N9:Stmt:=top 40
abbrev N_:Stmt:=top 43
abbrev Oa:Stmt:=top 41
abbrev Ob:Stmt:=top 45
abbrev u8:Stmt:=top 44
abbrev uj:Stmt:=top 46
abbrev Oc:Stmt:=top 47
abbrev C1:Stmt:=top 48
def Y0:FnScope lm lm (zb NM):=by fail"f"
def ym:FnScope [An,Au,Aq,Az,"_law_cell","_law_mixed"] lx (zb NN):=by fail"f"
def xj:FnScope [Aj,"many","worths"] lr (zb NO):=by fail"f"
def Y1:FnScope lr lr (zb NQ):=by fail"f"
def um:FnScope lr lr (zb uK):=by fail"f"
def Y2:FnScope [A1,"_law_caught"] [A1] (zb u9):=by fail"f"
def ue:FnScope ["choices","rows","worths"] lR (zb NR):=by fail"f"
def Y3:FnScope lr lr (zb NS):=by fail"f"
def Y4:FnScope lz lz (zb NT):=by fail"f"
def Ji:FnScope [Ai,"given","box","worth"] lM (zb NU):=by fail"f"
def Od:FnScope [Aj,Ar,Ai,"held","left_alone"] lB (zb NV):=by fail"f"
def Y5:FnScope lu lu (zb uk):=by fail"f"
def Oe:FnScope [Ai,"box","better","given"] lE (zb NW):=by fail"f"
def Of:FnScope ["leads","one","other","lead"] lJ (zb NX):=by fail"f"
def FQ:FnScope [Aj,"books","leads","wishes"] lL (zb NY):=by fail"f"
def Og:FnScope lu lu (zb NZ):=by fail"f"
def yk:FnScope [An,"_law_most",Ak,"_law_size","_law_k",Au] lD (zb N1):=by fail"f"
def Oh:FnScope [An,"_law_some"] lQ (zb N3):=by fail"f"
def uL:FnScope [An,Ak,Ao,Ax] lh (zb N4):=by fail"f"
def ud:FnScope [An,Ak,Ao,"_law_few",Ap,Az] lj (zb N5):=by fail"f"
def y6:FnScope [An,Ak,Ao,Ap,Az,"_law_way","_law_where",As] li (zb N6):=by fail"f"
def yQ:FnScope [Ak,Aq,Au,"_law_longer",At] ly (zb N7):=by fail"f"
def Y6:FnScope lw lw (zb N8):=by fail"f"
def zL:FnScope [An,Ak,"_law_kind_here","_law_few",Am,"_law_k",Ap,Ay,"_law_wish"] lh (zb N9):=by fail"f"
def z8:FnScope [Ak,Am,Aq,At,Ap,Ao,Ax,Aw] lg (zb N_):=by fail"f"
def Y7:FnScope ln ln (zb Oa):=by fail"f"
def Y8:FnScope lA lA (zb Ob):=by fail"f"
def yJ:FnScope [Ak,Av,"_law_last",At] lC (zb u8):=by fail"f"
def yt:FnScope [Ak,Aq,Ao,Ax] ly (zb uj):=by fail"f"
def yR:FnScope [Ak,Am,Aq,At,Ay,Ao,Ap] lg (zb Oc):=by fail"f"
def xg:FnScope ["_law_script",An,"_law_turn",Ak,Am,"_law_kind_here","_law_due_here",Aq,Ay,"_law_great_here",Ao,Ax,Aw,"_law_more"] lm (zb C1):=by fail"f"
set_option genInjectivity false in
structure Ad where
 f0:Addr
 d0:Ac
 f1:Addr
 d1:Ac
 f2:Addr
 d2:Ac
 f3:Addr
 d3:Ac
 f4:Addr
 d4:Ac
 f5:Addr
 d5:Ac
 f6:Addr
 d6:Ac
 f7:Addr
 d7:Ac
 f8:Addr
 d8:Ac
 f9:Addr
 d9:Ac
 f10:Addr
 d10:Ac
 f11:Addr
 d11:Ac
 f12:Addr
 d12:Ac
 f13:Addr
 d13:Ac
 f14:Addr
 d14:Ac
 f15:Addr
 d15:Ac
 f16:Addr
 d16:Ac
 f17:Addr
 d17:Ac
 f18:Addr
 d18:Ac
 f19:Addr
 d19:Ac
 f20:Addr
 d20:Ac
 f21:Addr
 d21:Ac
 f22:Addr
 d22:Ac
 f23:Addr
 d23:Ac
 f24:Addr
 d24:Ac
 f25:Addr
 d25:Ac
 f26:Addr
 d26:Ac
 f27:Addr
 d27:Ac
 f28:Addr
 d28:Ac
 f29:Addr
 d29:Ac
 f30:Addr
 d30:Ac
 C_TooMany:Addr
 C_WishError:Addr
 C_HasRing:Addr
 C_IsBetter:Addr
 C_NotSettled:Addr
 C_NotKept:Addr
 C_NoWish:Addr
 C_NoBook:Addr
 C_NoText:Addr
 C_Full:Addr
 C_NoStanding:Addr
 cc:Addr
 PT:Addr
structure Txt (K:AH)(mg:AI)(t:Ad):Prop where
 q0:Dfn K mg "_law_pen" NM lm t.f0 t.d0
 q1:Dfn K mg "_law_take" NN lx t.f1 t.d1
 q2:Dfn K mg "multiplied" NO lr t.f2 t.d2
 q3:Dfn K mg "is_small" NQ lr t.f3 t.d3
 q4:Dfn K mg "must_be_small" uK lr t.f4 t.d4
 q5:Dfn K mg "_law_refused" u9 [A1] t.f5 t.d5
 q6:Dfn K mg "combined" NR lR t.f6 t.d6
 q7:Dfn K mg "standings" NS lr t.f7 t.d7
 q8:Dfn K mg "changed" NT lz t.f8 t.d8
 q9:Dfn K mg "keeps" NU lM t.f9 t.d9
 q10:DfnD K mg "betterings" NV lB [Value.none] t.f10 t.d10
 q11:Dfn K mg "all_betterings" uk lu t.f11 t.d11
 q12:Dfn K mg "full_wish" NW lE t.f12 t.d12
 q13:Dfn K mg "is_led" NX lJ t.f13 t.d13
 q14:Dfn K mg "laid" NY lL t.f14 t.d14
 q15:Dfn K mg "full" NZ lu t.f15 t.d15
 q16:Dfn K mg "_law_room" N1 lD t.f16 t.d16
 q17:Dfn K mg "_law_great" N3 lQ t.f17 t.d17
 q18:Dfn K mg "_law_kind" N4 lh t.f18 t.d18
 q19:Dfn K mg "_law_given" N5 lj t.f19 t.d19
 q20:Dfn K mg "_law_near" N6 li t.f20 t.d20
 q21:Dfn K mg "_law_all" N7 ly t.f21 t.d21
 q22:Dfn K mg "_law_keeps" N8 lw t.f22 t.d22
 q23:Dfn K mg "_law_book" N9 lh t.f23 t.d23
 q24:Dfn K mg "_law_pairs" N_ lg t.f24 t.d24
 q25:Dfn K mg "_law_same" Oa ln t.f25 t.d25
 q26:Dfn K mg "_law_worth" Ob lA t.f26 t.d26
 q27:Dfn K mg "_law_is_wish" u8 lC t.f27 t.d27
 q28:Dfn K mg "_law_all_kinds" uj ly t.f28 t.d28
 q29:Dfn K mg "_law_due" Oc lg t.f29 t.d29
 q30:Dfn K mg "law" C1 lm t.f30 t.d30
 b_ValueError:mg "ValueError" = none
 b_sorted:mg "sorted" = none
 b_tuple:mg "tuple" = none
 b_range:mg "range" = none
 b_all:mg "all" = none
 b_isinstance:mg "isinstance" = none
 b_len:mg "len" = none
 b_list:mg "list" = none
 b_bool:mg "bool" = none
 b_int:mg "int" = none
 b_enumerate:mg "enumerate" = none
 b_abs:mg "abs" = none
 b_str:mg "str" = none
 b_zip:mg "zip" = none
 m_TooMany:mg "TooMany" = some (.ref t.C_TooMany)
 m_WishError:mg "WishError" = some (.ref t.C_WishError)
 m_HasRing:mg "HasRing" = some (.ref t.C_HasRing)
 m_IsBetter:mg "IsBetter" = some (.ref t.C_IsBetter)
 m_NotSettled:mg "NotSettled" = some (.ref t.C_NotSettled)
 m_NotKept:mg "NotKept" = some (.ref t.C_NotKept)
 m_NoWish:mg "NoWish" = some (.ref t.C_NoWish)
 m_NoBook:mg "NoBook" = some (.ref t.C_NoBook)
 m_NoText:mg "NoText" = some (.ref t.C_NoText)
 m_Full:mg "Full" = some (.ref t.C_Full)
 m_NoStanding:mg "NoStanding" = some (.ref t.C_NoStanding)
 er:Errs K mg "TooMany" "WishError" t.C_TooMany t.C_WishError [t.C_HasRing,t.C_IsBetter,t.C_NotSettled,t.C_NotKept,t.C_NoWish,t.C_NoBook,t.C_NoText,t.C_Full,t.C_NoStanding]
 X_TooMany:ExcC K mg "TooMany" t.C_TooMany
 lam:LamT K mg t.cc t.PT
 lamc:t.d30.code = .ref t.cc
 c_MOST_OF_SMALL:∃u,ye (.int 64) u/\mg "MOST_OF_SMALL" = some u
section
variable{P:Aa}{mg:AI}{t:Ad}
def Y9 (T:Txt K mg t):FnOk P w K mg base CX0 1 t.f0 t.d0 lm (EN K):=by
 show T.q0.F.okQ Y0 (λvs H Q E h=>?_) (λab A outer s H vs Q E hr h=>?_);obtain⟨a,ns,rfl,_⟩:=h;rfl;obtain⟨a,ns,rfl,hS,Y,k⟩:=h;show#[_,(yP (u7 (Rq (GC xE #[Xq (KH Rs (qv 0) KF (KG yv)).run] (GC xE yv (GC xE yv Rp))) A5 A5 '$' '#'))),?_];intro p hp;show#[_,A5,_,A5,a,_,A5,(yL.upd hp).seq hS,λc O=>#[c,_,A5,zg,λob=>?_]];have B:p≠c:=λe=>by subst e;rw[zg] at O;cases O
 have I:H c=none:=by rw[zc (Ne.symm B)] at O;show O
 show#[by rw[zc B,zc B,zg],Ba c 0 0,A5,(by change 3<=15;decide),?_];rw[RL]
 have J:Bj '4' none (some 63)=ns.map V.int:=by
  unfold Bj;rw[HT.sIx_none];have U:HT.sIx '4'.length '4'.length (some 63)='4'.length:=by have:=HT.sIx_nat '4'.length '4'.length 63;rw[af] at this ⊢;rw[Nat.min_eq_right Y] at this;show this
  rw[U,eE,iD,bC]
 show k p c _ #[#[0,0,zg,by lia,by lia,by lia],?_,Y] ?_;show#[ob,?_];rw[zc (Ne.symm B),zg];show congrArg (λz=>some (HO.frz ob (HO.lst z))) J;intro b o e;rw[zc (ze e hp),zc (ze e I),zc (ze e I),zc (ze e hp)];show e
def Y_ (T:Txt K mg t):FnOk P w K mg base CX0 1 t.f1 t.d1 lx Nl:=by
 show T.q1.F.okQ ym (λvs H Q E h=>?_) (λa2 A outer s H vs Q E hr h=>?_);obtain⟨p,c,ns,n,zy,rfl,_⟩:=h;rfl
 ·obtain⟨p,c,ns,n,zy,rfl,hP,hn,h1,h2,k⟩:=h;have O:=C6 hr;obtain⟨⟨a,l,hp,ab,an,ac⟩,⟨ob,hc⟩,U⟩:=id hP;have Y:c≠p:=Dy hc hp (by intro z;cases z)
  show#[_,(zD (C9 (DF EJ (x9 O (qv 0) xE '*') yv (zI _)) (zD (xF (i:=2) ym.nd A5 (Or.inl A5) (y4 Ca (x9 O (qv 0) xE '*') (qv 1)))
   (zD (GI O (qv 0) xE (y4 Gy (x9 O (qv 0) xE '*') (qv 1)) A5)
   (yP (u7 (qv 2))))) DH)
   (zD (xF (i:=3) ym.nd A5 (Or.inl A5) (x9 O (qv 0) xE '*'))
   (zD (GI O (qv 0) xE (y4 yZ (qv 3) yv) A5)
   (zD (xF (i:=4) ym.nd A5 (Or.inl A5) (y4 yZ (y4 CC yv (qv 3)) yv))
   (zD (C9 (DF EJ (yr yW (by rfl) T.b_len bA (zB (x9 O (qv 0) xE '*') yu)) yv (zI _)) (yP (xF (i:=4) ym.nd A5 (Or.inl A5) (KI C8 (x9 O (qv 0) xE '*') (y4 Ca (qv 3) (yr yW (by rfl) T.b_len bA (zB (x9 O (qv 0) xE '*') yu))) '*'))) DH)
   (zD (C9 (QW.pt (KB (DF Ky (qv 3) (yr yW (by rfl) T.b_len bA (zB (x9 O (qv 0) xE '*') yu)) (zI _)) (Kz (DF Re (yr GD (by rfl) T.b_abs fS (zB (qv 4) yu)) (y4 Gz yv yv) (zI _))))) (zD (GI O (qv 0) xE (y4 Gy (yr GD (by rfl) T.b_abs fS (zB (qv 4) yu)) (qv 1)) A5)
   (yP (u7 (y4 Ca (yr GD (by rfl) T.b_abs fS (zB (qv 4) yu)) (qv 1))))) DH)
   (zD (xF (i:=5) ym.nd A5 (Or.inl A5) (y4 Ca (y4 Gz (y4 yZ (y4 yZ (y4 Ca (qv 4) yv) (y4 CC yv (qv 3))) yv) yv) yv))
   (zD (xF (i:=5) ym.nd A5 (Or.inl A5) (y4 Ca (y4 Gz (y4 yZ (y4 yZ (qv 5) (y4 CC (y4 CC yv (qv 3)) (qv 3))) yv) yv) yv))
   (yP (u7 (y4 Ca (y4 Gy (qv 5) yv) (qv 1)))))))))))),?_]
  show#[_,A5,p,_,A5,GN hp,_,_,A5,A5,_,A5,EE (λhl=>?_) (λhl=>?_)];have a3:0<l:=be hl;show#[_,A5,p,_,A5,GN hp,_,A5,_,_,A5,A5,(by change (0:Int)<zy;lia),?_];show#[_,A5,p,_,A5,GN hp,_,A5,_,_,A5,A5,#[by change (0:Int)<zy;lia,h2],_,A5,p,_,A5,KL hp _,?_];show#[_,A5,k _ _ (c8 _ '!') (cz _ '!') #[#[a,_,zg,ab,by lia,Int.ediv_nonneg ac '!'],#[ob,by rw[zc Y];show hc],U] IZ]
  ·show#[_,A5,p,_,A5,RM hp,?_];show#[_,A5,_,_,A5,A5,_,A5,p,_,A5,RN hp _,?_];have I:upd H p (.dK (Ba c (a+1) l)) p=some (.dK (Ba c (a+1) l)):=zg;have J:upd H p (.dK (Ba c (a+1) l)) c=some (.frz ob (.lst '4')):=by rw[zc Y];show hc
   generalize as:upd H p (.dK (Ba c (a+1) l))=H1 at I J ⊢;have ad:∀b o,b≠p->H b=some o->H1 b=some o:=as ▸ IZ;show#[_,A5,_,_,A5,A5,.inl #[by lia,by lia],_,_,A5,A5,?_];refine' meet (α:=Int) _ (λzu=>?_) ?_;rotate_left
   
   show#[_,A5,p,_,A5,EM I,_,_,A5,.inl #[_,.inl (.inr #[ob,J]),A5],_,_,A5,A5,_,A5,EE (λhz=>?_) (λhz=>?_)];have ag:0<('4'.length:Int):=be hz;obtain⟨B,al⟩:=RO ns a ag;show#[_,A5,p,_,A5,EM I,_,A5,_,A5,p,_,A5,EM I,_,_,A5,.inl #[_,.inl (.inr #[ob,J]),A5],_,_,A5,A5,ag,c,_,_,_,A5,A5,.inl (.inr #[ob,J]),al,?_];show zu B;show zu (101*a+7)
   ·intro B;have a4:∀ {q:Addr},H1 q=none->p≠q:=λhq=>ze I hq;refine' RQ _ (λzu=>?_) ?_;rotate_left
    ·show#[_,A5,_,A5,p,_,A5,EM I,_,_,A5,.inl #[_,.inl (.inr #[ob,J]),A5],_,_,A5,A5,_,A5,EE (λh3=>?_) (λh3=>?_)];rotate_left;show iteF ?_;show zu;show#[_,A5,_,A5,_,_,A5,A5,#[by ext,by ext,by ext],_,_,A5,A5,_,A5,EE (λh4=>?_) (λh4=>?_)];rotate_left;show zu;have ha:0<=(if B<0 then -B else B):=by split <;> lia
     show#[_,A5,_,A5,_,A5,_,_,A5,A5,#[by change (0:Int)<zy;lia,h2],_,A5,p,_,A5,KL I _,?_];show#[_,A5,_,A5,_,A5,_,_,A5,A5,(by change (0:Int)<zy;lia),k _ _ (c8 _ '!') (cz _ '!') #[#[a+1,_,zg,by lia,by lia,Int.ediv_nonneg ha '!'],#[ob,by rw[zc Y];show J],U] (λb o z e=>IZ b o z (ad b o z e))]
    obtain⟨a0,a1⟩:=RP ab an hn;have a5:=c8 B (show (2147483629:Int)≠0 by ext);have a7:=cz B (show (0:Int)<2147483629 by ext);show#[_,A5,_,_,A5,A5,(by change (0:Int)<2147483629;decide),_,A5,_,_,A5,A5,.inl #[by ext,by ext],_,_,A5,A5,_,_,A5,A5,_,_,A5,A5,#[by ext,by ext,?_],_,_,A5,A5,(by change (0:Int)<2147483647;decide),?_];change (B % 2147483629+30011*a+977).natAbs<2 ^ 64;lia;generalize bb:((B % 2147483629+30011*a+977) ^ (3:Int).toNat:Int)=w1;have w0:=c8 w1 (show (2147483647:Int)≠0 by ext);have w2:=cz w1 (show (0:Int)<2147483647 by ext);show#[_,A5,_,A5,_,_,A5,A5,.inl #[by ext,by ext],_,A5,_,_,A5,A5,.inr #[by lia,by lia],_,_,A5,A5,_,_,A5,A5,_,_,A5,A5,#[by ext,by ext,?_],_,_,A5,A5,(by change (0:Int)<2147483587;decide),?_];change (w1 % 2147483647+69621*a*a+13).natAbs<2 ^ 64;have e1:69621*a*a=69621*(a*a):=Int.mul_assoc _ _ _;have e2:60013*a*a=60013*(a*a):=Int.mul_assoc _ _ _;rw[e2] at a0 a1;rw[e1];lia;show#[_,A5,_,_,A5,A5,#[by ext,by ext],_,A5,_,_,A5,A5,(by change (0:Int)<zy;lia),?_];show k _ _ (c8 _ '!') (cz _ '!') #[#[a+1,l,I,by lia,by lia,ac],#[ob,J],U] ad
def z7 (T:Txt K mg t):FnOk P w K mg base CX0 1 t.f1 t.d1 lx (spV 2 false I_):=FnOk.lift (FnOk.mono (Y_ T) '#') XV
def Za (T:Txt K mg t):FnOk P w K mg base CX0 1 t.f2 t.d2 lr KM:=by
 show T.q2.F.okQ xj (λvs H Q E h=>?_) (λJ A outer s H vs Q E U h=>?_);obtain⟨a,ns,rfl,_⟩:=h;rfl;obtain⟨a,ns,rfl,B,O,k⟩:=h
 show#[_,(zD (xF (i:=1) xj.nd A5 (Or.inl A5) yv)
  (zD (GJ bf A5 (KK (qv 0)) (DG (i:=2) xj.nd A5 (Or.inl A5)) (yP (xF (i:=1) xj.nd A5 (Or.inl A5) (y4 CC (qv 1) (qv 2)))))
  (yP (u7 (qv 1))))),?_]
 show#[_,A5,a,A5,#[_,.of B],Pu (K:=K) (xs:=ns.map V.int) (λi G H2=>H2=H/\∃v,G=[some (.ref a),some (.int (yK (ns.take i))),v]) #[A5,none,A5] (λi G H2 _ ⟨e,_⟩=>e ▸ .of B) ?_ ?_];rintro i y G H2 hi ⟨rfl,v,rfl⟩;rw[aF] at hi;obtain⟨z,I,rfl⟩:=aI.mp hi;have Y:=O z (az I);show#[_,A5,_,A5,_,_,A5,A5,.inr #[by lia,by lia],A5,some (.int z),?_];rw[zj I,xR];rfl;rintro G H2 ⟨rfl,v,rfl⟩;show#[_,A5,?_];rw[af,bC];show k
def Zb (T:Txt K mg t):FnOk P w K mg base CX0 1 t.f2 t.d2 lr (spV 1 false ME):=FnOk.lift (FnOk.mono (Za T) '#') VW
abbrev Zc:FV:=λ_ B n R=>∃rm:AG,B=[.d (stD rm)]/\(∀r∈rm,2<=r/\r<=4)/\R (.d (.bl (decide (yK rm<=64)))) n
def Oi (T:Txt K mg t):FnOk P w K mg base CX0 2 t.f3 t.d3 lr (spV 1 false Zc):=by have G2:=Zb (P:=P) (w:=w) (base:=base) T;show Fun.okW (k:=1) (fr:=false) [] 0 T.q3.F Y1 A5 '#' A5 λB A outer s H E Pn I=>#[_,(zh (zC (Ce EI FF (JE.bo (wE zo<|yC T.q2 G2 I (za (kv 0) zd))) (JE.bo (UY A5 T.c_MOST_OF_SMALL)) (zI _)))),λU n R J=>?_];obtain⟨rm,rfl,O,r⟩:=J;left;show#[rm,A5,O,r]
abbrev Zd:FV:=λ_ B n R=>∃rm:AG,B=[.d (stD rm)]/\(∀r∈rm,2<=r/\r<=4)/\yK rm<=64/\R (.d .non) n
def Ze (T:Txt K mg t):FnOk P w K mg base CX0 3 t.f4 t.d4 lr (spV 1 false Zd):=by have G3:=Oi (P:=P) (w:=w) (base:=base) T;show Fun.okW (k:=2) (fr:=false) [] 0 T.q4.F um A5 '#' A5 λB A outer s H E Pn I=>#[_,(zh (wS zT<|xx (wT yM<|xA (wT zp<|yD (JE.bo (wE zo<|yC T.q3 G3 I (za (kv 0) zd))))) (zh Xs) zS)),λU n R J=>?_];obtain⟨rm,rfl,O,hp,r⟩:=J;left;show#[rm,A5,O,?_];rw[aD hp];left;show r
def Zf (B:AU):Prop:=∃rm:AG,B=[.d (stD rm)]/\(∀r∈rm,2<=r/\r<=4)/\64<yK rm
def Zg (T:Txt K mg t):FnOk P w K mg base (CX1 P w t.C_TooMany) 3 t.f4 t.d4 lr (spX 1 Zf):=by have G3:=Oi (P:=P) (w:=w) (base:=base) T;show okX (k:=2) T.q4.F um A5 λI A outer s H E Pn B=>#[_,(XO IV B.hd T.X_TooMany (xA (yD (JE.bo (yC T.q3 G3 B (za (DU 0) zd)))))),λU n Y J=>?_];obtain⟨rm,rfl,O,hp⟩:=J;show#[_,A5,A5,rm,A5,O,_,A5,by rw[aJ '!'];rfl,A5]
def Zh(T:Txt K mg t):FN P w K mg base t.C_TooMany [t.C_HasRing,t.C_IsBetter,t.C_NotSettled,t.C_NotKept,t.C_NoWish,t.C_NoBook,t.C_NoText,t.C_Full,t.C_NoStanding] k t.f5:=by show XL (a := "_law_asked") (c := "_law_caught") (n := "error") (cx := "TooMany") (wx := "WishError") (xs:=[("HasRing",#[169,40,169,47]),("IsBetter",#[169,49,169,57]),("NotSettled",#[169,59,169,69]),("NotKept",#[169,71,169,78]),("NoWish",#[169,80,169,86]),("NoBook",#[169,88,169,94]),("NoText",#[169,96,169,102]),("Full",#[169,104,169,108]),("NoStanding",#[169,110,169,120])]) T.q5.F T.q5.b Y2 '#' A5 A5 '#' A5 T.er '6' T.b_ValueError T.b_isinstance ?_ '6' (Nat.le_of_ble_eq_true A5) A5;change [mg "HasRing",mg "IsBetter",mg "NotSettled",mg "NotKept",mg "NoWish",mg "NoBook",mg "NoText",mg "Full",mg "NoStanding"]=[some (.ref t.C_HasRing),some (.ref t.C_IsBetter),some (.ref t.C_NotSettled),some (.ref t.C_NotKept),some (.ref t.C_NoWish),some (.ref t.C_NoBook),some (.ref t.C_NoText),some (.ref t.C_Full),some (.ref t.C_NoStanding)];rw[T.m_HasRing,T.m_IsBetter,T.m_NotSettled,T.m_NotKept,T.m_NoWish,T.m_NoBook,T.m_NoText,T.m_Full,T.m_NoStanding]
def Zi (T:Txt K mg t):FnOk P w K mg base CX0 1 t.f6 t.d6 lR (La K):=by
 show T.q6.F.okQ ue (λvs H Q E h=>?_) (λb3 A outer s H vs Q E hr h=>?_);obtain⟨ca,xs,cs,rfl,_⟩:=h;rfl;obtain⟨ca,xs,cs,rfl,a5,hL,bm,a7,k⟩:=h;have ag:=Lb bm a7
 show#[_,(zD (xF (i:=1) ue.nd A5 (Or.inl A5) (KU (zB (GQ yu) yu)))
  (zD (GJ bf A5 (GG (qv 0)) (DG (i:=2) ue.nd A5 (Or.inr A5)) (yP (Sz (ix:=1) ue.nd A5 A5 (N:=lH) (A8:=[none,none,some 2]) A5 (by fail"c") (GG (qv 1)) (λ_ _ _ _=>(DG (i:=0) (show (lH:AM).Nodup by decide +kernel) A5 (Or.inl A5))) (λ_ _ _ _=>GH) (λ_ _ _ _=>(GT K A5 (qv 2))) (λ_ _ _ _=>(DG (i:=1) (show (lH:AM).Nodup by decide +kernel) A5 (Or.inl A5))) (λ_ _ _ _=>GH) (λ_ _ _ _=>(y4 (R9 K A5) (qv 0) (GQ (zB (qv 1) yu)))))))
  (yP (u7 (qv 1))))),?_]
 show#[(by change 0<=sizeLine;decide),λe0 H1 _ g1 S1=>#[(by change 1<=sizeLine;decide),λr0 H2 n2 g2 S2=>?_]];have S02:yL H H2:=λb o e=>S2 _ _ (S1 _ _ e)
 have bo:H r0=none:=by
  cases e:H r0 with
  | none=>rfl
  | some o=>rw[S1 _ _ e] at n2;cases n2
 show#[_,A5,ca,A5,#[xs,.inl (a5.same S02)],Pt (K:=K) (xs:=xs) (λi G H3=>∃ra ys v2,G=[some (.ref ca),some (.ref ra),v2]/\H ra=none/\H3 ra=some (.lst ys)/\IsL H3 ((yg (cs.take i)).map stD) ys/\yL H H3)
  #[r0,_,none,A5,bo,g2,#[_,_,A5,#[e0,_,A5,S2 _ _ g1,A5],A5],S02] (λi G H3 _ ⟨_,_,_,_,_,_,_,S⟩=>.inl (a5.same S)) ?_ ?_]
 rintro i x G H3 hi ⟨ra,ys,v2,rfl,bb,ad,ab,S3⟩;have bs:=(ai.mp hi).1;have ac:i<cs.length:=by rw[<- hL.1];show bs
 obtain⟨wa,bc,bd⟩:=hL.2 i cs[i] (am ac);rw[hi] at bc;cases bc;have al:=a7 cs[i] (bj ac);have a0:cs.take (i+1)=cs.take i++[cs[i]]:=zj (am ac);have bt:=ag i;have a1:=ag (i+1);rw[a0,yF] at a1;have a2:=ab.length;rw[af] at a2;have an:∀J∈yg (cs.take i),J.length<=8:=λJ hr=>by rw[G5 _ _ hr,bi];lia
 generalize cs[i]=ws at bd al a0 a1;generalize a3:yg (cs.take i)=rows at ab bt a1 a2 an;have as:=bd.same S3;show#[_,A5,ra,A5,#[_,.of ad],λacc U=>?_];show SA (xs:=ys) U (λj O H'=>(∃v0 v1,O=[v0,v1,some (.ref wa)])/\(∃zs,H' acc=some (.lst zs)/\IsL H' ((ug (rows.take j) ws).map stD) zs)/\yL H3 H') (λH' z1 z2=>#[#[_,_,A5],#[[],z1,A5],z2]) (λ_ _ _ _ ⟨_,_,S⟩=>.of (S _ _ ad)) ?_ ?_;rintro j y O H4 hy ⟨⟨v0,v1,rfl⟩,⟨zs,I,B⟩,S4⟩;obtain⟨d,hd,bx⟩:=(ab.stay (zq.same S4)).get hy;rw[aF] at hd;obtain⟨J,a4,rfl⟩:=aI.mp hd;obtain⟨rwa,rv,rfl,bk,b0⟩:=bx;obtain rfl:=b0.of_ints;have b4:=(ai.mp a4).1;have b5:=an J (az a4);change GZ _ C7 _ _ _ _ _ _ _ _ _;show KN ?_;show#[_,A5,wa,A5,#[_,.inl (as.same S4)],?_];show SB (xs:=ws.map V.int) (λm O H'=>(∃v1,O=[some (.ref rwa),v1,some (.ref wa)])/\(∃zs,H' acc=some (.lst zs)/\IsL H' ((ug (rows.take j) ws++(ws.take m).map λw=>J++[w]).map stD) zs)/\yL H3 H'/\H' rwa=some (.tup (J.map V.int))) #[#[_,A5],#[zs,I,by simpa using B],S4,bk] (λ_ _ _ _ ⟨_,_,S,_⟩=>.inl (as.same S)) ?_ ?_;rintro m u O H5 hu ⟨⟨v1,rfl⟩,⟨zs,I,B⟩,S5,Y⟩;rw[aF] at hu;obtain⟨wv,bl,rfl⟩:=aI.mp hu;have b6:=(ai.mp bl).1;show R7 #[_,A5,_,A5,(by change 1<=sizeLine;decide),λt1 H6 _ g6 S6=>?_];show#[rwa,t1,_,_,A5,A5,S6 _ _ Y,g6,cS (Kr (by rw[af];change J.length+1<=1000;lia)),λt2 H7 g7 S7=>?_];have S57:yL H5 H7:=λb o e=>S7 _ _ (S6 _ _ e);have b1:=B.length;rw[af,ay,uP,af,bi,bi] at b1;have b7:=uP rows ws;have b2:(min j rows.length)*ws.length<=65536*4:=Nat.mul_le_mul '!' al;show#[zs,S57 _ _ I,bR (show zs.length<=500000 by lia) '#',#[_,A5],#[_,zg,?_],R8 U λb o e=>S57 _ _ (S5 _ _ e),?_];show IsL.stayT (Cn.app (S57 _ _ I)) (uQ _) ?_;rw[zj bl,aP (l₁:=ws.take m),<- aC,aP];show (B.stay (zq.same S57)).append (IsL.one #[t2,_,A5,g7,?_]);rw[aP];show IsL.ints.append (IsL.ints (ns:=[wv]));rw[zc (Dy (S57 _ _ Y) (S57 _ _ I) (by intro z;cases z))];show S57 _ _ Y;rintro O H5 ⟨⟨v1,rfl⟩,⟨zs,I,B⟩,S5,Y⟩;rw[af,bC] at B;show#[#[_,_,A5],#[zs,I,?_],S5];rw[zj a4,SE];show B;rintro O H4 ⟨⟨v0,v1,rfl⟩,⟨zs,I,B⟩,S4⟩;rw[a2,bC] at B;show#[acc,zs,_,A5,?_,I,?_,λb o e=>S4 _ _ (S3 _ _ e)]
 cases e:H acc with
 | none=>rfl
 | some o=>rw[S3 _ _ e] at U;cases U
 rw[a0,yF,a3];show B;rintro G H3 ⟨ra,ys,v2,rfl,bb,ad,ab,S3⟩;rw[hL.1,bC] at ab;show#[_,A5,k ra ys H3 bb ad ab S3]
def Zj (T:Txt K mg t):FnOk P w K mg base CX0 1 t.f6 t.d6 lR (spV 1 true MF):=FnOk.lift (FnOk.mono (Zi T) '#') VZ
inductive F_sts  (Pn:PN):AU->Nat->AV->Prop
 | i {n:Nat} {R:AV} {rm:AG} (hR:RoomOk rm) (h:R (.d (Bh (yg (rm.map zl)))) n)  : F_sts Pn [.d (stD rm)] n R
def Oj (T:Txt K mg t):FnOk P w K mg base CX0 2 t.f7 t.d7 lr (spV 1 true F_sts):=by
 have G6:=Zj (P:=P) (w:=w) (base:=base) T;show Fun.okW (k:=1) (fr:=true) [] 0 T.q7.F Y3 A5 '#' A5 λJ A outer s H E Pn O=>#[_,(zh (zC (wE zo<|yC T.q6 G6 O (za (Cf (N:=["worths"]) (A8:=[none]) A5 (by fail"c") (wI uH<|Cq K A5 (kv 0)) (λ_ _ _ _=>(wG zK<|zm (i:=0) (show (["worths"]:AM).Nodup by decide +kernel))) (λ_ _ _ _=>xZ) (λ_ _ _ _=>(wE W5<|VQ T.b_list T.b_range (zn (kb 0) zt)))) zd)))),λws n R U=>?_];obtain @⟨_,_,rm,B,r⟩:=U;left;show Ei rm (λi=>W.d (.int i)) (by rw[aK];rfl) (λD=>∃a,D=[a]) (λm=>lsD (zl m)) (av B.few '#') #[_,A5] ?_ ?_;rintro m I Y ⟨a,rfl⟩ C hC;have hb:=B.box m I;left;show#[#[by lia,by lia],?_];have e2:lsD (zl m)=Dt.lst (Ch m.toNat):=by unfold lsD zl Ch;rw[aK];rfl
 rw[<- e2];show hC #[_,A5];left;show#[rm.map zl,by rw[aK];rfl,by rw[af];show B.few,λc hc=>?_,r];obtain⟨m,I,rfl⟩:=aH.mp hc;have:=B.box m I;rw[xS];lia
inductive F_chg  (Pn:PN):AU->Nat->AV->Prop
 | i {n:Nat} {R:AV} {st:AG} {b x:Int} (b0:0<=b) (hz:st.length<=1000) (h:R (.d (stD (chg st b x))) n)  : F_chg Pn [.d (stD st),.d (.int b),.d (.int x)] n R
def Ol (T:Txt K mg t):FnOk P w K mg base CX0 1 t.f8 t.d8 lz (spV 3 false F_chg):=by show Fun.okW (k:=0) (fr:=false) [] 0 T.q8.F Y4 A5 '#' A5 λI A outer s H E Pn U=>#[_,(zh (zC (Bb yO uq (JE.bo (Bb yO uq (JE.bo (wE xM<|B4 (kb 0) xK (wO yU<|xL (kb 1)))) (JE.bo (z9 (za (kv 2) zd))))) (JE.bo (wE xM<|B4 (kb 0) (wO yU<|xL (JE.bo (Bb yZ BV (kb 1) (JE.bo zi)))) xK))))),λY n R J=>?_];obtain @⟨_,_,st,b,x,O,B,r⟩:=J;left;show#[M6 B,?_];left;show#[M7 B,?_];rw[M5 O B];show r
inductive F_kps  (Pn:PN):AU->Nat->AV->Prop
 | i {n:Nat} {R:AV} {st:AG} {g:List (Int×Int)} (hg:∀q∈g,0<=q.1/\q.1<st.length) (h:R (.d (.bl (xp st g))) n)  : F_kps Pn [.d (stD st),.d (Bi g)] n R
def Zk (T:Txt K mg t):FnOk P w K mg base CX0 1 t.f9 t.d9 lM (spV 2 false F_kps):=by
 show Fun.okW (k:=0) (fr:=false) [] 2 T.q9.F Ji A5 '#' A5 λab A outer s H E Pn hr=>#[_,(zf (xf bf A5 (wI uH<|Cq K A5 (kv 1)) (wG uD<|uE (n:=2) K A5 A5 (wH zZ<|zx (wG zK<|zm (i:=2) Ji.nd) (wH zZ<|zx (wG zK<|zm (i:=3) Ji.nd) (wH uC xo)))) (zh (wS zT<|xx (wT zp<|yb B0 B8 (JE.bo (xu zA z0 (kb 0) (kb 2) '*')) (kb 3) (zI _)) (zh (zC BN)) zS)))
   (zh (zC BN))),λws n R hF=>?_]
 obtain @⟨_,_,st,g,hg,r⟩:=hF;left;show xh g (λq=>.d (yp q)) (by rw[aK];rfl) (λi D m=>m=n/\(∃J O,D=[some (.d (stD st)),some (.d (Bi g)),J,O])/\xp st (g.take i)=true) #[A5,#[_,_,A5],A5] ?_ ?_;rintro i q D m U ⟨rfl,⟨J,O,rfl⟩,I⟩ C B E hC _ hE;have Y:=hg q (az U);left;show onA Y.1 Y.2 ?_;left;show Do (λh=>?_) (λh=>?_);left;show hE ?_;have e:xp st g=false:=by unfold xp;show List.all_eq_false.mpr #[q,az U,λz=>h (be z)]
 rw[e] at r;show r;left;show hC #[A5,#[_,_,A5],?_];unfold xp at I ⊢;rw[zj U,List.all_append,I];simp[h];rintro D m ⟨rfl,⟨J,O,rfl⟩,I⟩;rw[bC] at I;rw[I] at r;left;show r
def Om{bk:AW}{st:AG}(J:RoomOk rm)(I:uX rm bk)(B:st.length=rm.length){Q:AV}(r:Q (.d (Bh (ux bk st hs))) n):scR (eTp 4 (eCn (eN 0) (eCn (eN 1) (eCn (eN 2) (eCn (eN 3) eNl))))) (FE (Ee (Cp dEq (Cp FI (BH 4) (BH 1)) (BH 3))) (FE (Ee (Cp FH (BH 1) (BH 5))) (Ee (dFn 2 (F_kps Pn) (CK (BH 4) (CK (BH 0) Fi))))))
  (dFn 3 (F_chg Pn) (CK (BH 4) (CK (BH 1) (CK (BH 2) Fi)))) [none,none,none,none,some (.d (stD st)),some (.d (stD hs))] (λks n'=>∃m,ks.length<64/\1<=m/\(∀st∈ks,st.length=m)/\∀l':AF,l'.Perm ks->(l'.Pairwise λa b=>HT.lexLt a b=true)->Q (.d (Bh l')) n') ((bk.map z5).map W.d) n:=by
 have h8:=J.few;have F:∀ks:AF,ks.Nodup->(∀z∈ks,z∈CG bk st hs)->ks.length<=32:=λks h1 h2=>LY I h8 J.box h1 h2;show Xa bk (λx=>W.d (z5 x)) (by rw[aK];rfl) (λD=>∃a b c d,D=[a,b,c,d,some (.d (stD st)),some (.d (stD hs))]) (λx=>uu st x&&!hs.contains x.b) (λx=>chg st x.b x.r) #[_,_,_,_,A5] ?_ (λks h1 h2=>by have:=F ks h1 h2;lia) ?_;rintro x hx ab ⟨a,b,c,d,rfl⟩ C hY O;have U:=I x hx;have b0:=U.b0;have b1:=U.b1;left;show onA b0 '!' ?_;left;show Cj (λY=>?_) (λY=>O (by unfold uu;rw[aJ Y];simp) #[_,_,_,_,A5]);left;show#[hs,A5,?_];left;show WC (λhh=>?_) (λhh=>O (by rw[hh];simp) #[_,_,_,_,A5]);left;show F_kps.i (λq hq=>?_) ?_;have:=U.giv.ok q hq;rw[B];show#[this.1,this.2.1];left;show IB (λhk=>?_) (λhk=>O (by unfold uu;rw[hk];simp) #[_,_,_,_,A5]);left;show F_chg.i b0 '!' #[_,A5,hY ?_ #[_,_,_,_,A5]];unfold uu;rw[aD Y,hk,hh];rfl;intro ks h1 h2;show#[rm.length,by have:=F ks h1 λz hz=>(h2 z).mp hz;lia,J.pos,λz hz=>Fc I B z ((h2 z).mp hz),λl' hp hu=>?_];rw[show l'=ux bk st hs from Uk (Fc I B) hu λz=>(hp.mem_iff).trans (h2 z)];show r
inductive F_bet  (Pn:PN):AU->Nat->AV->Prop
 | i {n:Nat} {R:AV} {rm:AG} {bk:AW} {st hs:AG} {v:W} (hv:v = .d (stD hs)\/(hs=[]/\v = .d .non)) (hR:RoomOk rm) (hB:uX rm bk) (hst:st.length=rm.length) (h:R (.d (Bh (ux bk st hs))) n)  : F_bet Pn [.d (stD rm),.d (y9 bk),.d (stD st),v] n R
def Zl (T:Txt K mg t):FnOk P w K mg base CX0 2 t.f10 t.d10 lB (spV 4 true F_bet):=by
 have G8:=Ol (P:=P) (w:=w) (base:=base) T;have G9:=Zk (P:=P) (w:=w) (base:=base) T
 show FunD.okW (k:=1) (fr:=true) [] 1 T.q10.F Od A5 '#' A5 λU A outer s H E Pn I=>#[_,(zf (wS zz<|zO (i:=4) Od.nd (wE WG<|j_if (wT zp<|U5 (kb 3)) (z9 zd) (kv 3)))
   (zh (zC (W_ T.b_sorted (C6 I) (N:=lc) (A8:=[none,none,none,none,some 2,some 4]) A5 (by fail"c") (wI uH<|Cq K A5 (kv 1)) (λ_ _ _ _=>(wG uD<|uE (n:=4) K A5 A5 (wH zZ<|zx (wG zK<|zm (i:=0) (show (lc:AM).Nodup by decide +kernel)) (wH zZ<|zx (wG zK<|zm (i:=1) (show (lc:AM).Nodup by decide +kernel)) (wH zZ<|zx (wG zK<|zm (i:=2) (show (lc:AM).Nodup by decide +kernel)) (wH zZ<|zx (wG zK<|zm (i:=3) (show (lc:AM).Nodup by decide +kernel)) (wH uC xo))))))) (λ_ _ _ _=>(Di (JW.t (wW Ef<|DV (wT zp<|yb BZ B7 (JE.bo (xu zA z0 (kb 4) (kb 1) '*')) (kb 3) (zI _)) (wW Ef<|DV (wT zp<|yb Rf WP (kb 1) (kb 5) (by with_unfolding_all rfl)) (uh (.inl A5) (wT zp<|yD (JE.bo (wE zo<|yC T.q9 G9 I (za (kv 4) (za (kv 0) zd))))))))))) (λ_ _ _ _=>(wE zo<|yC T.q8 G8 I (za (kv 4) (za (kv 1) (za (kv 2) zd))))))))),λws n R Y=>?_]
 obtain @⟨_,_,rm,bk,st,hs,v,hv,J,O,B,r⟩:=Y;left;rcases hv with rfl | ⟨rfl,rfl⟩;left;show Om J O B r;left;show Om J O B r
structure Gr (V:AF)(g:AG->AF):Prop where
 nd:V.Nodup
 few:V.length<=256
 sub:∀s∈V,∀t∈g s,t∈V
 snd:∀s∈V,(g s).Nodup
 gl:∀s∈V,(g s).length<=32
def ldD (V:AF)(g:AG->AF):List (AG×Dt):=V.map λs=>(s,Bh (g s))
def mkD (V:AF)(c:AG->Int):List (AG×Dt):=V.map λs=>(s,.int (c s))
theorem On{f:AG->Dt}{s:AG}:∀ {V:AF},s∈V->yE (V.map λs=>(s,f s)) s=some (f s)
 | v::V,h=>by
  by_cases e:v=s;simp[yE,e];have:=On (f:=f) ((au.mp h).resolve_left λz=>e z.symm);simpa [yE,e] using this
def fh{V:AF}{c:AG->Int}{t:AG}{x:Int}(h:t∈V):Bp (mkD V c) t (.int x)=mkD V λs=>if s=t then x else c s:=by
 unfold Bp mkD;rw[if_pos (iC.mpr #[(t,.int (c t)),aH.mpr #[t,h,A5],aD A5]),aK];show eM λs _=>?_;by_cases e:s=t;simp[e];simp[e]
def fu{V:AF}{g:AG->AF}:((ldD V g).map λq=>W.d (stD q.1))=V.map λs=>W.d (stD s):=by unfold ldD;rw[aK];rfl
def Oo{s t:AG}(F:uX rm bk)(hs:StOk rm s)(I:t∈ux bk s []):StOk rm t:=by obtain⟨x,J,_,_,rfl⟩:=yX.mp (yc.mp I);have B:=F x J;show IS hs B.b0 B.b1 B.r0 B.r1
def bet_gr(F:RoomOk rm)(B:uX rm bk)(I:(yg (rm.map zl)).length<=256):Gr (yg (rm.map zl)) λs=>ux bk s [] where
 nd:=FK rm
 few:=I
 sub:=λs hs t J=>IR (Oo B (yG _ _ hs) J)
 snd:=λs hs=>Nb (Uu B (yG _ _ hs).len)
 gl:=λs hs=>Um B F.few F.box (yG _ _ hs).len
inductive F_ab  (Pn:PN):AU->Nat->AV->Prop
 | i {n:Nat} {R:AV} {rm:AG} {bk:AW} (hR:RoomOk rm) (hB:uX rm bk) (h:R (.df (ldD (yg (rm.map zl)) λs=>ux bk s [])) n)  : F_ab Pn [.d (stD rm),.d (y9 bk)] n R
def Zm (T:Txt K mg t):FnOk P w K mg base CX0 3 t.f11 t.d11 lu (spV 2 false F_ab):=by
 have G7:=Oj (P:=P) (w:=w) (base:=base) T;have G10:=Zl (P:=P) (w:=w) (base:=base) T;show Fun.okW (k:=2) (fr:=false) [] 0 T.q11.F Y5 A5 '#' A5 λJ A outer s H E Pn B=>#[_,(zh (zC (Xi (Wz (C6 B) (N:=[Ai,Aj,Ar]) (A8:=[none,some 0,some 1]) A5 (by fail"c") (wI Dq<|Dg K A5 (wE zo<|yC T.q7 G7 B (za (kv 0) zd))) (λ_ _ _ _=>(wG zK<|zm (i:=0) (show ([Ai,Aj,Ar]:AM).Nodup by decide +kernel))) (λ_ _ _ _=>xZ) (λ_ _ _ _=>(kb 0)) (λ_ _ _ _=>(Xo T.q10 G10 B (za (kv 1) (za (kv 2) (za (kv 0) zd))))))))),λws n R O=>?_];obtain @⟨_,_,rm,bk,I,U,r⟩:=O;left;show F_sts.i I ?_;left;show Xl (yg (rm.map zl)) (by rw[aK];rfl) (λD=>∃a,D=[a,some (.d (stD rm)),some (.d (y9 bk))]) (λ_=>true) (λs=>Bh (ux bk s [])) (FK rm) (av (Xm I) '#') #[_,A5] ?_ ?_;rintro s hs Y ⟨a,rfl⟩ C hY ab;left;show F_bet.i (.inr #[A5,A5]) I U (yG _ _ hs).len ?_;left;show#[_,A5,hY A5 #[_,A5]];rw[List.filter_eq_self.mpr λ_ _=>rfl];show r
def Bl (b:AW)(a c:AG):Prop:=c∈ux b a []\/a∈ux b c []
noncomputable instance (b:AW) (a c:AG):Decidable (Bl b a c):=Classical.propDecidable _
noncomputable def ui:List AW->AG->AG->Bool
 | [],_,_=>false
 | b::r,a,c=>if Bl b a c then decide (c∈ux b a []) else ui r a c
def xi{a c:AG}:ui (b::r) a c=if Bl b a c then decide (c∈ux b a []) else ui r a c:=rfl
def Op{a c:AG}:Bl b a c↔Bl b c a:=#[Or.symm,Or.symm]
theorem C3{a c:AG}:∀ {x y:List AW},ui (x++y) a c=if (∃b∈x,Bl b a c) then ui x a c else ui y a c
 | [],y=>by simp
 | b::x,y=>by
  rw[cP,xi,xi];by_cases h:Bl b a c;rw[if_pos h,if_pos #[b,by simp,h],if_pos h];rw[if_neg h,if_neg h,C3];have e:(∃B∈b::x,Bl B a c)↔∃B∈x,Bl B a c:=#[λ⟨z,F,q⟩=>(au.mp F).elim (λe=>absurd (e ▸ q) h) λF=>#[z,F,q],λ⟨z,F,q⟩=>#[z,aj _ F,q]];by_cases h2:∃B∈x,Bl B a c;rw[if_pos h2,if_pos (e.mpr h2)];rw[if_neg h2,if_neg λz=>h2 (e.mp z)]
def Du{a c:AG}:ui [b] a c=decide (c∈ux b a []):=by
 rw[xi];split;rfl
 ·rename_i h;show (aJ λz=>h (.inl z)).symm
theorem Oq{a c:AG}:∀ {x:List AW},(ui x a c=true\/ui x c a=true)↔∃b∈x,Bl b a c
 | []=>by simp[ui]
 | b::x=>by
  rw[xi,xi];by_cases h:Bl b a c;rw[if_pos h,if_pos (Op.mp h)];show#[λ_=>#[b,by simp,h],λ_=>?_];rcases h with h | h;show .inl (aD h);show .inr (aD h);rw[if_neg h,if_neg λz=>h (Op.mp z),Oq];show#[λ⟨z,B,q⟩=>#[z,aj _ B,q],λ⟨z,B,q⟩=>(au.mp B).elim (λe=>absurd (e ▸ q) h) λB=>#[z,B,q]]
def Os{a c:AG}(h:ui x a c=true):∃b∈x,c∈ux b a []:=by
 induction x with
 | nil=>cases h
 | cons b x B=>
  rw[xi] at h;split at h;show#[b,by simp,be h];obtain⟨F,h1,h2⟩:=B h;show#[F,aj _ h1,h2]
def Zn{a c:AG}(B:∀F∈bks.take i,¬ Bl F a c)(I:bks[i]?=some b)(h:Bl b a c):ui bks a c=decide (c∈ux b a []):=by
 obtain⟨hi,e⟩:=ai.mp I
 have J:bks=bks.take i++b::bks.drop (i+1):=by
  conv=>lhs;rw[<- aV i bks]
  rw[cK hi,e]
 rw[J,C3,if_neg λ⟨z,h1,h2⟩=>B z h1 h2,xi,if_pos h]
def fy(h:b∈x)(a c:AG):ui (x++b::y) a c=ui (x++y) a c:=by
 rw[C3,C3];split;rfl
 ·rename_i n;rw[xi,if_neg λz=>n #[b,h,z]]
def fC(a c:AG):ui (x++[]::y) a c=ui (x++y) a c:=by
 rw[C3,C3];split;rfl;rw[xi,if_neg];rintro (z | z);cases yc.mp z;cases yc.mp z
def Jj (rm:AG)(bk:AW)(f:AG->AG->Bool):Prop:=∀a∈yg (rm.map zl),∀c,c∈ux bk a []↔f a c=true
def f_{a c:AG}(h:Jj rm bk (ui x))(B:a∈yg (rm.map zl))(F:c∈yg (rm.map zl)):ui (bk::y) a c=ui (x++y) a c:=by
 rw[C3];have e:Bl bk a c↔∃b∈x,Bl b a c:=by rw[<- Oq];show or_congr (h a B c) (h c F a)
 change (if Bl bk a c then decide (c∈ux bk a []) else ui y a c)=_;by_cases q:Bl bk a c;rw[if_pos q,if_pos (e.mp q),bS,b9];show h a B c;rw[if_neg q,if_neg λz=>q (e.mpr z)]
def BP (st:AG)(b:Int):List (Int×Int):=((List.range st.length).filter λk:Nat=>decide ((k:Int)≠b)).map λk:Nat=>((k:Int),zy st k)
def Br (st:AG)(b v:Int):Wi:=#[BP st b,b,v,zy st b]
noncomputable def uW (rm:AG)(f:AG->AG->Bool):AW:=(yg (rm.map zl)).flatMap λst=>(List.range rm.length).flatMap λb:Nat=>((List.range (zy rm b).toNat).filter λv:Nat=>f st (chg st b v)).map λv:Nat=>Br st b v
def Eo{f:AG->AG->Bool}:x∈uW rm f↔∃st∈yg (rm.map zl),∃b:Nat,b<rm.length/\∃v:Nat,(v:Int)<zy rm b/\f st (chg st b v)=true/\x=Br st b v:=by
 unfold uW;simp only[fW,aL,aH,bK];constructor;rintro⟨st,h1,b,h2,v,⟨F,B⟩,rfl⟩;show#[st,h1,b,h2,v,by lia,B,A5];rintro⟨st,h1,b,h2,v,F,B,rfl⟩;show#[st,h1,b,h2,v,#[by lia,B],A5]
def FR{st:AG}{b:Int}{q:Int×Int}:q∈BP st b↔0<=q.1/\q.1<st.length/\q.1≠b/\q.2=zy st q.1:=by
 unfold BP;simp only[aH,bK,aL,b9];constructor;rintro⟨k,⟨h1,h2⟩,rfl⟩;show#[by simp,by simpa using h1,h2,A5];rintro⟨h1,h2,B,F⟩;show#[q.1.toNat,#[by lia,by rw[bF h1];show B],?_];rw[bF h1,<- F]
def Zo{st:AG}{b:Int}(h:StOk rm st):Giv rm (BP st b):=by
 show#[λq B=>?_,?_];obtain⟨h1,h2,_,F⟩:=FR.mp B;have:=h.box _ h1 (by rw[<- h.len];show h2);rw[F];show#[h1,by rw[<- h.len];show h2,this.1,this.2];unfold BP;show bN.mpr ?_;have:(List.range st.length).Pairwise (· < ·):=dQ;show (this.sublist List.filter_sublist).imp λh=>by change (_:Int)<_;lia
def Jk{st a:AG}{b:Int}(J:StOk rm a)(hs:StOk rm st):xp a (BP st b)=true↔∀k:Int,0<=k->k<rm.length->k≠b->zy a k=zy st k:=by
 unfold xp;rw[bu];constructor;intro h k k0 k1 kb;have:=h (k,zy st k) (FR.mpr #[k0,by rw[hs.len];show k1,kb,A5]);show be this;intro h q B;obtain⟨h1,h2,F,I⟩:=FR.mp B;show aD (by rw[I];show h _ h1 (by rw[<- hs.len];show h2) F)
def Zp{s t:AG}(B:s.length=t.length)(h:∀c:Int,0<=c->c<s.length->zy s c=zy t c):s=t:=by show iB B λi h1 h2=>?_;have:=h (i:Int) '!' '!';unfold zy at this;simpa [h1,h2] using this
def Ot{st a:AG}{b:Int}(B:StOk rm a)(hs:StOk rm st)(F:xp a (BP st b)=true)(I:zy a b=zy st b):a=st:=by
 have h:=(Jk B hs).mp F;show Zp (by rw[B.len,hs.len]) λc J O=>?_;by_cases e:c=b;rw[e];show I;show h c J (by rw[<- B.len];show O) e
def NxF (rm:AG)(f:AG->AG->Bool):Prop:=∀a∈yg (rm.map zl),∀c,f a c=true->∃b v:Nat,b<rm.length/\(v:Int)<zy rm b/\zy a b≠v/\c=chg a b v
def Ep(I:∀b∈x,uX rm b):NxF rm (ui x):=λa ha c h=>by
 obtain⟨b,J,O⟩:=Os h;obtain⟨w,U,F,_,rfl⟩:=yX.mp (yc.mp O);have B:=I b J w U;have Y:zy a w.b=w.w:=by unfold uu at F;rw[aO] at F;show be F.1
 have:=B.b0;have:=B.b1;have:=B.r0;have:=B.r1;have:=B.w0;show#[w.b.toNat,w.r.toNat,by lia,?_,?_,?_];rw[bF B.r0,bF B.b0];show B.r1;rw[bF B.r0,bF B.b0,Y];show λz=>B.ne z.symm;rw[bF B.r0,bF B.b0]
def Jl{f:AG->AG->Bool}(hf:NxF rm f):uX rm (uW rm f):=λx hx=>by
 obtain⟨st,B,b,hb,v,hv,J,rfl⟩:=Eo.mp hx;have O:=yG _ _ B;have F:=O.box (b:Int) '!' '!'
 have U:zy st b≠v:=by
  obtain⟨I,v',h1,h2,h3,h4⟩:=hf st B _ J;have hl:st.length=rm.length:=O.len;have e:zy (chg st b v) I=zy (chg st I v') I:=by rw[h4]
  rw[uz '!' '!' '!',uz '!' '!' '!',if_pos rfl] at e;by_cases Y:(I:Int)=b;rw[if_pos Y] at e;rw[<- Y,e];show h3;rw[if_neg Y] at e;show absurd e h3
 show#[Zo O,by change (0:Int)<=b;lia,by change (b:Int)<_;lia,λq hq=>(FR.mp hq).2.2.1,by change (0:Int)<=v;lia,hv,F.1,F.2,λz=>U z.symm]
def Zq{f:AG->AG->Bool}(hf:NxF rm f)(hp:bk.Perm (uW rm f)):Jj rm bk f:=λa F c=>by
 have I:=yG _ _ F;constructor;intro h;obtain⟨w,hw,B,_,rfl⟩:=yX.mp (yc.mp h);obtain⟨st,J,b,U,v,Y,O,rfl⟩:=Eo.mp (hp.mem_iff.mp hw);unfold uu at B;rw[aO] at B;have e:a=st:=Ot I (yG _ _ J) B.2 (be B.1);subst e;show O;intro h;obtain⟨b,v,U,Y,_,rfl⟩:=hf a F c h;show yc.mpr (yX.mpr #[Br a b v,hp.mem_iff.mpr (Eo.mpr #[a,F,b,U,v,Y,h,A5]),?_,by simp,A5]);unfold uu;rw[aO];show#[aD A5,(Jk I I).mpr λ_ _ _ _=>rfl]
def FS{st B:AG}{b I v J:Nat}(hs:StOk rm st)(F:StOk rm B)(h:Br st b v=Br B I J):st=B/\b=I/\v=J:=by
 unfold Br at h;injection h with h1 h2 Y O;have U:b=I:=by lia
 subst U;show#[(Ot F hs ?_ O.symm).symm,A5,by lia];rw[h1];show (Jk F F).mpr λ_ _ _ _=>rfl
def Jm{f:AG->AG->Bool}:(uW rm f).Nodup:=by
 unfold uW;rw[cF,fR];have I:∀ {st},st∈yg (rm.map zl)->StOk rm st:=λh=>yG _ _ h;have F:∀ {st:AG} {x:Wi},x∈((List.range rm.length).flatMap λb:Nat=>((List.range (zy rm b).toNat).filter λv:Nat=>f st (chg st b v)).map λv:Nat=>Br st b v)->∃b v:Nat,x=Br st b v:=λh=>by simp only[fW,aH] at h;obtain⟨b,_,v,_,rfl⟩:=h;show#[b,v,A5]
 show#[λst B=>?_,?_];rw[fR];show#[λb _=>bN.mpr ?_,?_];have:(List.range (zy rm b).toNat).Pairwise (· < ·):=dQ;show (this.sublist List.filter_sublist).imp λh z=>by have:=(FS (I B) (I B) z).2.2;lia
 have:(List.range rm.length).Pairwise (· < ·):=dQ;show this.imp λh x J y O z=>?_;simp only[aH] at J O;obtain⟨v,_,rfl⟩:=J;obtain⟨Y,_,rfl⟩:=O;have:=(FS (I B) (I B) z).2.1;lia;have:=cF.mp (FK rm);show this.imp_of_mem λha hb U x J y O z=>?_;obtain⟨b,v,rfl⟩:=F J;obtain⟨b',Y,rfl⟩:=F O;show U (FS (I ha) (I hb) z).1
def Ou(h:z5 x=z5 y):x=y:=by obtain⟨g,b,r,w⟩:=x;obtain⟨g',I,J,w'⟩:=y;simp only[z5,Dt.tup.injEq,dZ,Dt.int.injEq,and_true] at h;obtain⟨h1,h2,B,F⟩:=h;rw[YD (show Bi g=Bi g' from by unfold Bi;rw[h1]),h2,B,F]
def Zr (x:Wi):(z5 x).hk=true:=by change (Dt.hks [_,_,_,_])=true;simp only[Dt.hks,cB,aO];show#[(YE x.g).1,A5,A5,A5]
def Zs(h:WishOk rm x):(z5 x).eqOk:=by
 have:PySem.W.kqdOk 8 (Dt.tup [z5 x]).toW=true:=(Sb (rm:=rm) (ds:=[z5 x]) λd B=>by rw[ao.mp B];show#[x,A5,h]).1;have F:PySem.W.kqdOk 7 (z5 x).toW=true:=by simp only[Dt.toW,Dt.toWs,PySem.W.kqdOk,cj,List.all_nil,cB] at this ⊢;show this
 show Em F 8 '#'
def Ov{l:AW}(hl:uX rm l)(nd:l.Nodup):RowsOk true (l.map z5) where
 key:=λx hx=>by obtain⟨g,hg,rfl⟩:=aH.mp hx;show#[Zr g,Zs (hl g hg),A5]
 cmp:=λx hx y hy=>by obtain⟨g,_,rfl⟩:=aH.mp hx;obtain⟨k,_,rfl⟩:=aH.mp hy;change Dt.cmps [_,_,_,_] [_,_,_,_]=true;simp only[Dt.cmps,cB,aO];show#[NA _ _,A5,A5,A5]
 first:=λh2 x hx=>by obtain⟨g,hg,rfl⟩:=aH.mp hx;show#[_,_,A5,A5]
 nd:=by rw[cF] at *;show bN.mpr (nd.imp λhne z=>hne (Ou z))
theorem Jn{B:Type}{f:α->B}:∀ {r:List α} {l:List B},l.Perm (r.map f)->∃k:List α,l=k.map f/\k.Perm r
 | [],l,h=>#[[],h.eq_nil,.nil]
 | a::r,l,h=>by obtain⟨F,I,rfl⟩:=List.append_of_mem (h.mem_iff.mpr (List.mem_map_of_mem (f:=f) (aq (a:=a) (l:=r))));have h2:(F++I).Perm (r.map f):=(List.perm_middle.symm.trans h).cons_inv;obtain⟨k,e,J⟩:=Jn h2;obtain⟨k1,k2,rfl,rfl,rfl⟩:=List.append_eq_map_iff.mp e;show#[k1++a::k2,by simp,List.perm_middle.trans (J.cons a)]
def Dv (rm:AG)(f:AG->AG->Bool)(bk:AW):Prop:=bk.Perm (uW rm f)/\(bk.map z5).Pairwise ltD
theorem xz{B:Type}{f g:α->List B}:∀ {l:List α},(∀a∈l,f a=g a)->l.flatMap f=l.flatMap g
 | [],_=>rfl
 | a::l,h=>by rw[fL,fL,h a '$',xz λb F=>h b (aj _ F)]
def Zt{f F:AG->AG->Bool}(h:∀a∈yg (rm.map zl),∀c∈yg (rm.map zl),f a c=F a c):uW rm f=uW rm F:=by unfold uW;show xz λst B=>xz λb I=>?_;have J:=yG _ _ B;have O:=aL.mp I;congr 1;show List.filter_congr λv U=>h st B _ (IR (IS J '!' '!' '!' ?_));have:=aL.mp U;lia
def Ow{f F:AG->AG->Bool}(h:Dv rm f bk)(h':Dv rm F B)(e:∀a∈yg (rm.map zl),∀c∈yg (rm.map zl),f a c=F a c):bk=B:=by have hp:(bk.map z5).Perm (B.map z5):=(h.1.trans ((Zt e) ▸ h'.1.symm)).map _;have:=Nz (λ_=>YA) (λ_ _ _=>YB) hp h.2 h'.2;show (dD λ_ _ z=>Ou z).mp this
def Zu(B:∀b∈x,uX rm b)(h:Dv rm (ui x) bk):uX rm bk/\Jj rm bk (ui x):=#[λw F=>Jl (Ep B) w (h.1.mem_iff.mp F),Zq (Ep B) h.1]
theorem Ox{B:Type}{P:α->Bool}{g:α->B}:∀l:List α,(l.flatMap λx=>if P x=true then [g x] else [])=(l.filter P).map g
 | []=>rfl
 | a::l=>by rw[fL,List.filter_cons,Ox l];cases P a <;> rfl
theorem Jo{B:Type}{f:α->List B}{k:Nat}:∀ {l:List α},(∀a∈l,(f a).length<=k)->(l.flatMap f).length<=l.length*k
 | [],_=>by simp
 | a::l,h=>by rw[fL,ay,aS,Nat.add_mul];have:=h a '$';have:=Jo λb F=>h b (aj a F);lia
def Jp{f:AG->AG->Bool}(B:RoomOk rm)(hp:yK rm<=64):(uW rm f).length<=2048:=by
 have h1:(yg (rm.map zl)).length<=64:=by
  have:=xV rm λn I=>by have:=B.box n I;lia
  lia
 have h2:(uW rm f).length<=(yg (rm.map zl)).length*32:=Jo λst J=>by
  show av (Jo (k:=4) λb O=>?_) ?_;rw[af];show av (List.length_filter_le _ _) ?_;rw[aZ];have F:=aL.mp O;have:=(B.box (zy rm b) (by unfold zy;simp[F])).2;lia;rw[aZ];have:=B.few;lia
 lia
inductive F_fw  (Pn:PN):AU->Nat->AV->Prop
 | i {n:Nat} {R:AV} {st:AG} {b v:Int} (b0:0<=b) (b1:b<st.length) (h8:st.length<=8) (h:R (.d (z5 (Br st b v))) n)  : F_fw Pn [.d (stD st),.d (.int b),.d (.int v)] n R
def Zv (T:Txt K mg t):FnOk P w K mg base CX0 1 t.f12 t.d12 lE (spV 3 false F_fw):=by
 show Fun.okW (k:=0) (fr:=false) [] 1 T.q12.F Oe A5 '#' A5 λJ A outer s H E Pn hr=>#[_,(zf (wS zz<|zO (i:=3) Oe.nd (xY yi CZ (by rfl) T.b_tuple bD (zn (JE.bo (Cf (N:=lN) (A8:=[none,none,some 1]) A5 (by fail"c") (wI MY<|Mw A5 T.b_enumerate (za (kv 0) zd)) (λ_ _ _ _=>(wG uD<|uE (n:=2) K A5 A5 (wH zZ<|zx (wG zK<|zm (i:=0) (show (lN:AM).Nodup by decide +kernel)) (wH zZ<|zx (wG zK<|zm (i:=1) (show (lN:AM).Nodup by decide +kernel)) (wH uC xo))))) (λ_ _ _ _=>(Di (wT zp<|yb B0 B8 (kb 0) (kb 2) (zI _)))) (λ_ _ _ _=>(z9 (za (kv 0) (za (kv 1) zd)))))) zt)))
   (zh (zC (z9 (za (kv 3) (za (kv 1) (za (kv 2) (za (xu zA z0 (kb 0) (kb 1) '*') zd)))))))),λws n R O=>?_]
 obtain @⟨_,_,st,b,v,U,Y,h8,r⟩:=O;left;show FJ (List.range st.length) (λi:Nat=>W.d (.tup [.int (i:Int),.int (zy st i)])) (MG st) (λD=>∃B I,D=[B,I,some (.d (.int b))]) (λi:Nat=>decide ((i:Int)≠b)) (λi:Nat=>yp ((i:Int),zy st i)) (by rw[aZ];show av h8 '#') #[_,_,A5] ?_ ?_;rintro i hi ab ⟨B,I,rfl⟩ C hY hN;left;show Do (λh=>?_) (λh=>?_);left;show hY (aD h) #[_,_,A5];show hN (aJ λz=>z h) #[_,_,A5];left;show onA U Y ?_;left;rw[show ((List.range st.length).filter λi:Nat=>decide ((i:Int)≠b)).map (λi:Nat=>yp ((i:Int),zy st i))=(BP st b).map yp by unfold BP;rw[aK];rfl];show r
noncomputable def ldW (rm:AG)(bk:AW):W:=.df (ldD (yg (rm.map zl)) λs=>ux bk s [])
def FT{a:AG}(h:a∈yg (rm.map zl)):yE (ldD (yg (rm.map zl)) λs=>ux bk s []) a=some (Bh (ux bk a [])):=On h
def FU{a:AG}(I:RoomOk rm)(B:uX rm bk)(h:a∈yg (rm.map zl)):(Bh (ux bk a [])).eqOk:=Su (n:=rm.length) λd F=>by obtain⟨s,hs,rfl⟩:=aH.mp F;show#[s,A5,(Oo B (yG _ _ h) hs).len]
def FX{a:AG}{l:AF}:stD a∈l.map stD↔a∈l:=by
 constructor;intro h;obtain⟨x,h1,h2⟩:=aH.mp h;have:x.map Dt.int=a.map Dt.int:=by simpa [stD] using h2
 rwa[<- (dD λ_ _ z=>by cases z;rfl).mp this];show List.mem_map_of_mem
inductive F_led  (Pn:PN):AU->Nat->AV->Prop
 | i {n:Nat} {R:AV} {rm:AG} {bks:List AW} {a c:AG} (hR:RoomOk rm) (hB:∀b∈bks,uX rm b) (ha:a∈yg (rm.map zl)) (hc:c∈yg (rm.map zl)) (h:R (.d (.bl (ui bks a c))) n)  : F_led Pn [.cu (lsW (bks.map (ldW rm))),.d (stD a),.d (stD c)] n R
def Zw (T:Txt K mg t):FnOk P w K mg base CX0 1 t.f13 t.d13 lJ (spV 3 false F_led):=by
 show Fun.okW (k:=0) (fr:=false) [] 1 T.q13.F Of A5 '#' A5 λas A outer s H E Pn O=>#[_,(zf (xf bf A5 (YW K A5 (kv 0)) (wG zK<|zm (i:=3) Of.nd) (zh (wS zT<|xx (JW.t (wW uI<|BT (wT zp<|yb (HC O.units) IH (kb 2) (JE.bo (IT (C6 O) (kb 3) (kb 1) '*')) (by with_unfolding_all rfl)) (uh (.inr A5) (wT zp<|yb (HC O.units) IH (kb 1) (JE.bo (IT (C6 O) (kb 3) (kb 2) '*')) (by with_unfolding_all rfl))))) (zh (zC (Ce (HC O.units) IH (kb 2) (JE.bo (IT (C6 O) (kb 3) (kb 1) '*')) (by with_unfolding_all rfl)))) zS)))
   (zh (zC BN))),λws n R hF=>?_]
 obtain @⟨_,_,rm,bks,a,c,hR,hB,U,hc,r⟩:=hF;left;show#[_,A5,?_];show xh bks (ldW rm) A5 (λi D m=>m=n/\(∃v,D=[some (.cu (lsW (bks.map (ldW rm)))),some (.d (stD a)),some (.d (stD c)),v])/\∀b∈bks.take i,¬ Bl b a c) #[A5,#[none,A5],by simp] ?_ ?_;rintro i b D m Y ⟨rfl,⟨v,rfl⟩,hn⟩ C B E hC _ hE;have ag:=az Y;unfold ldW;left;have I:=hB b ag;show#[a,A5,?_]
 (with_reducible show CY (FT U) ?_)
 left;show#[xn,FU hR I U,λq hq=>?_];rw[FX] at hq
 have fin:Bl b a c->∀J:Bool,(J=true↔c∈ux b a [])->E (.d (.bl J)) m:=λhs J h2=>by
  show hE ?_;have e:ui bks a c=J:=by rw[Zn hn Y hs,bS,h2,b9]
  rw[e] at r;show r
 show IB (λal=>?_) (λab=>?_);left;show#[a,A5,?_]
 (with_reducible show CY (FT U) ?_)
 left;show#[xn,FU hR I U,λJ h2=>?_];rw[FX] at h2;show fin (.inl (hq.mp al)) J h2;left;show#[c,A5,?_]
 (with_reducible show CY (FT hc) ?_)
 left;show#[xn,FU hR I hc,λq3 h3=>?_];rw[FX] at h3;show IB (λan=>?_) (λac=>?_);left;show#[a,A5,?_]
 (with_reducible show CY (FT U) ?_)
 left;show#[xn,FU hR I U,λJ h2=>?_];rw[FX] at h2;show fin (.inr (h3.mp an)) J h2;left;show hC #[A5,#[_,A5],λb' ad=>?_];rw[zj Y] at ad;rcases aA.mp ad with z | z;show hn b' z;rw[ao.mp z];rintro (y | y);rw[hq.mpr y] at ab;cases ab;rw[h3.mpr y] at ac;cases ac;rintro D m ⟨rfl,⟨v,rfl⟩,hn⟩;rw[bC] at hn;left
 have e:ui bks a c=false:=by
  cases h:ui bks a c with
  | false=>rfl
  | true=>
   obtain⟨b,Y,hc⟩:=Os h;show absurd (.inl hc) (hn b Y)
 rw[e] at r;show r
inductive F_laid  (Pn:PN):AU->Nat->AV->Prop
 | i {n:Nat} {R:AV} {rm:AG} {bks:List AW} (hR:RoomOk rm) (hp:yK rm<=64) (hB:∀b∈bks,uX rm b) (hl:bks.length<=100) (h:∀bk,Dv rm (ui bks) bk->R (.d (y9 bk)) n)  : F_laid Pn [.d (stD rm),.d (.lst (bks.map y9))] n R
theorem Zx (T:Txt K mg t):FnOk P w K mg base CX0 4 t.f14 t.d14 lL (spV 2 false F_laid):=by
 have G4:=Ze (P:=P) (w:=w) (base:=base) T;have G7:=Oj (P:=P) (w:=w) (base:=base) T;have G8:=Ol (P:=P) (w:=w) (base:=base) T;have G11:=Zm (P:=P) (w:=w) (base:=base) T;have G12:=Zv (P:=P) (w:=w) (base:=base) T;have G13:=Zw (P:=P) (w:=w) (base:=base) T
 show Fun.okW (k:=3) (fr:=false) [] 2 T.q14.F FQ A5 '#' A5 λa4 A outer s H E Pn U=>#[_,(zf (VH (wE zo<|yC T.q4 G4 U (za (kv 0) zd)))
   (zf (wS zz<|zO (i:=2) FQ.nd (YS (N:=[Ar,Aj]) (A8:=[none,some 0]) A5 (by fail"c") (wI Dq<|Dg K A5 (kv 1)) (λ_ _ _ _=>(wG zK<|zm (i:=0) (show ([Ar,Aj]:AM).Nodup by decide +kernel))) (λ_ _ _ _=>xZ) (λ_ _ _ _=>(wE zo<|yC T.q11 G11 U (za (kv 1) (za (kv 0) zd))))))
   (zf (wS zz<|VB (i:=3) (YQ (ix:=3) FQ.nd A5 A5 (N:=ld) (A8:=[none,none,none,none,some 0,some 2]) A5 (by fail"c") (wI Dq<|Dg K A5 (wE zo<|yC T.q7 G7 U (za (kv 0) zd))) (λ_ _ _ _=>(wG zK<|zm (i:=0) (show (ld:AM).Nodup by decide +kernel))) (λ_ _ _ _=>xZ) (λ_ _ _ _=>(wI MY<|Mw A5 T.b_enumerate (za (kv 4) zd))) (λ_ _ _ _=>(wG uD<|uE (n:=2) K A5 A5 (wH zZ<|zx (wG zK<|zm (i:=1) (show (ld:AM).Nodup by decide +kernel)) (wH zZ<|zx (wG zK<|zm (i:=2) (show (ld:AM).Nodup by decide +kernel)) (wH uC xo))))) (λ_ _ _ _=>xZ) (λ_ _ _ _=>(wI xa<|ya A5 T.b_range (zn (kb 2) zt))) (λ_ _ _ _=>(wG zK<|zm (i:=3) (show (ld:AM).Nodup by decide +kernel))) (λ_ _ _ _=>(Di (wT zp<|yD (JE.bo (wE zo<|yC T.q13 G13 U (za (kv 5) (za (kv 0) (za (wE zo<|yC T.q8 G8 U (za (kv 0) (za (kv 1) (za (kv 3) zd)))) zd)))))))) (λ_ _ _ _=>(wE zo<|yC T.q12 G12 U (za (kv 0) (za (kv 1) (za (kv 3) zd)))))))
   (zh (zC (xY yi CZ (by rfl) T.b_tuple bD (zn (JE.bo (z6 (NJ U.units) NL (by rfl) T.b_sorted eQ (zn (kb 3) zt))) zt))))))),λws n R hF=>?_]
 obtain @⟨_,_,rm,bks,J,hp,hB,hl,r⟩:=hF;left;have h8:=J.few
 have a3:(yg (rm.map zl)).length<=64:=by
  have:=xV rm λn hn=>by have:=J.box n hn;lia
  lia
 show#[rm,A5,J.box,hp,?_];left;show YU bks (λb=>.d (y9 b)) (by rw[aK];rfl) (λD=>∃v,D=[v,some (.d (stD rm))]) (ldW rm) (av hl '#') #[_,A5] ?_ ?_;rintro b hb Y ⟨v,rfl⟩ C hC;left;show F_ab.i J (hB b hb) ?_;show hC #[_,A5];left;show F_sts.i J ?_;have O:=Jp (f:=ui bks) J hp;have e1:((yg (rm.map zl)).flatMap λst=>(List.range rm.length).flatMap λb:Nat=>(List.range (zy rm b).toNat).flatMap λv:Nat=>if ui bks st (chg st b v)=true then [z5 (Br st b v)] else [])=(uW rm (ui bks)).map z5:=by unfold uW;rw[List.map_flatMap];show xz λst _=>?_;rw[List.map_flatMap];show xz λb _=>?_;rw[Ox,aK];rfl
 left;show Jg (yg (rm.map zl)) (λso=>.d (stD so)) (by rw[aK];rfl) (λD=>∃v1 v2 v3 B,D=[v1,v2,v3,B,some (.d (stD rm)),some (.cu (lsW (bks.map (ldW rm))))]) _ (by rw[e1,af];show av (by simp;show O) '#') #[_,_,_,_,A5] ?_ ?_;rintro so ab Y ⟨v1,v2,v3,B,rfl⟩ ds K' ad hK;have hS:=yG _ _ ab;left;show Jg (List.range rm.length) (λb:Nat=>W.d (.tup [.int (b:Int),.int (zy rm b)])) (MG rm) (λD=>∃v2 v3 B,D=[some (.d (stD so)),v2,v3,B,some (.d (stD rm)),some (.cu (lsW (bks.map (ldW rm))))]) _ ad #[_,_,_,A5] ?_ λ{D} ⟨v2,v3,B,e⟩=>hK #[_,_,_,_,e];rintro b hb Y ⟨v2,v3,B,rfl⟩ a5 K2 ag al;have an:=aL.mp hb;have a7:=J.box (zy rm b) (by unfold zy;simp[an]);left;show#[#[by lia,by lia],?_];show Jg (List.range (zy rm b).toNat) (λv:Nat=>W.d (.int (v:Int))) (Eb _) (λD=>∃B,D=[some (.d (stD so)),some (.d (.int (b:Int))),some (.d (.int (zy rm b))),B,some (.d (stD rm)),some (.cu (lsW (bks.map (ldW rm))))]) _ ag #[_,A5] ?_ λ{D} ⟨B,e⟩=>al #[_,_,_,e];rintro v hv Y ⟨B,rfl⟩ bb K3 ac I;have bc:=aL.mp hv;have as:so.length<=8:=by rw[hS.len];show h8
 left;show F_chg.i '!' '!' ?_;left;show F_led.i J hB ab (IR (IS hS '!' '!' '!' '!')) ?_;left
 cases hc:ui bks so (chg so b v) with
 | true=>
  rw[hc] at ac I;left;show F_fw.i '!' (by rw[hS.len];lia) as ?_;left;show#[by simp at ac;lia,I #[_,A5]]
 | false=>
  rw[hc] at I;left;have:=I #[some (.d (.int (v:Int))),A5];rw[if_neg '#',bU] at this;show this
 rintro D ⟨v1,v2,v3,B,rfl⟩;left;rw[fj,e1];show#[by rw[af];show av O '#',#[_,Ov (Jl (Ep hB)) Jm],λl' a0 a1=>?_];left;obtain⟨bk,rfl,a2⟩:=Jn a0;show r bk #[a2,a1]
inductive F_full  (Pn:PN):AU->Nat->AV->Prop
 | i {n:Nat} {R:AV} {rm:AG} {b:AW} (hR:RoomOk rm) (hp:yK rm<=64) (hB:uX rm b) (h:∀bk,Dv rm (ui [b]) bk->R (.d (y9 bk)) n)  : F_full Pn [.d (stD rm),.d (y9 b)] n R
def Zy (T:Txt K mg t):FnOk P w K mg base CX0 5 t.f15 t.d15 lu (spV 2 false F_full):=by have G14:=Zx (P:=P) (w:=w) (base:=base) T;show Fun.okW (k:=4) (fr:=false) [] 0 T.q15.F Og A5 '#' A5 λB A outer s H E Pn I=>#[_,(zh (zC (wE zo<|yC T.q14 G14 I (za (kv 0) (za (BC (za (kv 1) zd)) zd))))),λws n R J=>?_];obtain @⟨_,_,rm,b,O,hp,U,r⟩:=J;left;show F_laid.i (bks:=[b]) O hp (λx Y=>by rw[ao.mp Y];show U) '$' λbk h=>?_;show r bk h
def Jq (B:AU):Prop:=∃rm x,B=[.d (stD rm),.d x]/\(∀r∈rm,2<=r/\r<=4)/\64<yK rm
def Zz (T:Txt K mg t):FnOk P w K mg base (CX1 P w t.C_TooMany) 4 t.f14 t.d14 lL (spX 2 Jq):=by have X_must_be_small:=Zg (P:=P) (w:=w) (base:=base) T;show okX (k:=3) T.q14.F FQ A5 λB A outer s H E Pn I=>#[_,(XQ IV T.q4 X_must_be_small I (za (DU 0) zd)),λU n Y J=>?_];obtain⟨rm,x,rfl,O,hp⟩:=J;show#[_,A5,A5,A5,rm,A5,O,hp]
def Jr (B:AU):Prop:=∃rm x,B=[.d (stD rm),.d x]/\(∀r∈rm,2<=r/\r<=4)/\64<yK rm
def ZA (T:Txt K mg t):FnOk P w K mg base (CX1 P w t.C_TooMany) 5 t.f15 t.d15 lu (spX 2 Jr):=by have Jq:=Zz (P:=P) (w:=w) (base:=base) T;show okX (k:=4) T.q15.F Og A5 λB A outer s H E Pn I=>#[_,(YZ IV T.q14 Jq I (za (DU 0) (za (BC (za (DU 1) zd)) zd))),λU n Y J=>?_];obtain⟨rm,x,rfl,O,hp⟩:=J;show#[_,A5,_,A5,A5,A5,rm,_,A5,O,hp]
inductive F_mkR  (Pn:PN):AU->Nat->AV->Prop
 | i {n:Nat} {R:AV} {p:Addr} {most:Int} (hP:IsQ Pn p) (hm:most=64) (h:∀rm m,RoomOk rm->yK rm<=64->m<=n+20->R (.d (stD rm)) m) (hn:n+30<=1000000:=by lia):F_mkR Pn [.pen p,.d (.int most)] n R
def ZB (T:Txt K mg t):FnOk P w K mg base CX0 2 t.f16 t.d16 lD (spV 2 false F_mkR):=by
 have G1:=z7 (P:=P) (w:=w) (base:=base) T
 show Fun.okW (k:=1) (fr:=false) [] 4 T.q16.F yk A5 '#' A5 λad A outer s H E Pn O=>#[_,(zf (wS zT<|xx (wT zp<|yb BZ B7 '@' (JE.bo zi) (zI _)) (zh (zC (xu C8 Eh (JE.bo (BC (za (z9 (za zi (za zi (za zi (za zi (za zi (za zi zd))))))) (za (z9 (za zi (za zi (za zi zd)))) (za (z9 (za zi (za zi (za zi (za zi zd))))) (za (z9 (za zi (za zi (za zi (za zi zd))))) (za (z9 (za zi (za zi (za zi (za zi (za zi zd)))))) zd))))))) '@' '*'))) zS)
   (zf (wS zz<|zO (i:=2) yk.nd (z9 zd))
   (zf (wS zz<|zO (i:=3) yk.nd zi)
   (zf (xf bf A5 (wI xa<|ya A5 T.b_range (zn (JE.bo (Bb yZ BV (JE.bo zi) '@')) zt)) (wG zK<|zm (i:=4) yk.nd) (zf (wS zz<|zO (i:=5) yk.nd (Bb yZ BV (JE.bo zi) '@'))
   (zh (wS zT<|xx (wT zp<|yb EI FF (JE.bo (Bb CC MT (kb 3) (kb 5))) (kb 1) (zI _)) (zf (wS zz<|zO (i:=2) yk.nd (Bb yO uq (kb 2) (JE.bo (z9 (za (kv 5) zd)))))
   (zh (wS zz<|zO (i:=3) yk.nd (Bb CC MT (kb 3) (kb 5))))) zS))))
   (zh (zC (kv 2))))))),λws n R hF=>?_]
 obtain @⟨_,_,p,ac,Y,hm,r,hn⟩:=hF;left;subst hm;show tk Y λag w0 w1=>?_;left;show Cj (λ_=>?_) (λ_=>?_);left;show tk Y λx x0 x1=>?_;left;show IC (L:=[_,_,_,_,_]) x0 x1 λy hy=>?_;simp only[au,ck,or_false] at hy;left;rcases hy with rfl | rfl | rfl | rfl | rfl;show r [2,2,2,2,2,2] _ #[by ext,by ext,by ext] '#' '!';show r [4,4,4] _ #[by ext,by ext,by ext] '#' '!';show r [2,4,2,4] _ #[by ext,by ext,by ext] '#' '!';show r [3,3,3,2] _ #[by ext,by ext,by ext] '#' '!';show r [4,2,2,2,2] _ #[by ext,by ext,by ext] '#' '!';left;show tk Y λt t0 t1=>?_;left;show#[#[by lia,by lia],CV (λi D m=>m=n+2+i/\i<=5/\∃J v4 v5,D=[some (.pen p),some (.d (.int 64)),some (.d (stD J)),some (.d (.int (yK J))),v4,v5]/\(∀r∈J,2<=r/\r<=4)/\yK J<=64/\(0<i->J≠[])) #[by lia,by lia,[],none,none,A5,by simp,by ext,by lia] ?_ ?_];rintro i D m hi ⟨rfl,ab,J,v4,v5,rfl,I,hp,U⟩ C B E hC _ _;have al:=Wd (ns:=J) λr O=>by have:=I r O;lia
 have h8:J.length<=8:=MK I '!';left;show tk Y λx x0 x1=>?_;left;show#[.inr #[by lia,by lia],?_];left;show Cj (λh=>?_) (λh=>?_);left;show#[len1 (av h8 '#'),?_];rw[cat1];left;show#[.inr #[by lia,by lia],?_];left;rw[<- xR]
 show hC #[by lia,by lia,J++[2+x],_,_,A5,λr O=>by
  rcases aA.mp O with z | z;show I r z;rw[ao.mp z];lia,by rw[xR];show h,λ_=>by simp]
 left;show hC #[by lia,by lia,J,_,_,A5,I,hp,λ_ z=>?_];subst z;have e1:yK ([]:AG)=1:=rfl;rw[e1] at h;lia;rintro D m ⟨rfl,ab,J,v4,v5,rfl,I,hp,U⟩;left;show r J _ #[U '!',MK I '!',I] hp '!'
inductive F_great  (Pn:PN):AU->Nat->AV->Prop
 | i {n:Nat} {R:AV} {p:Addr} (hP:IsQ Pn p) (h:∀rm,RoomOk rm->64<yK rm->R (.d (stD rm)) (n+1)) (hn:n+5<=1000000:=by lia):F_great Pn [.pen p] n R
def ZC (T:Txt K mg t):FnOk P w K mg base CX0 2 t.f17 t.d17 lQ (spV 1 false F_great):=by
 have G1:=z7 (P:=P) (w:=w) (base:=base) T
 show Fun.okW (k:=1) (fr:=false) [] 1 T.q17.F Oh A5 '#' A5 λI A outer s H E Pn J=>#[_,(zf (wS zz<|zO (i:=1) Oh.nd (BC (za (z9 (za zi (za zi (za zi (za zi (za zi (za zi (za zi zd)))))))) (za (z9 (za zi (za zi (za zi (za zi (za zi (za zi (za zi (za zi zd))))))))) (za (z9 (za zi (za zi (za zi (za zi zd))))) (za (z9 (za zi (za zi (za zi (za zi zd))))) (za (z9 (za zi (za zi (za zi (za zi zd))))) (za (z9 (za zi (za zi (za zi (za zi zd))))) zd))))))))
   (zh (zC (xu C8 Eh (kb 1) (JE.bo (wE zo<|yC T.q1 G1 J (za (kv 0) (za zi zd)))) '*')))),λws n R O=>?_]
 obtain @⟨_,_,p,U,r,hn⟩:=O;left;show tk U λx Y x1=>?_;left;show IC (L:=[_,_,_,_,_,_]) Y x1 λy B=>?_;simp only[au,ck,or_false] at B;left;rcases B with rfl | rfl | rfl | rfl | rfl | rfl;show r [2,2,2,2,2,2,2] #[by ext,by ext,by ext] '#';show r [2,2,2,2,2,2,2,2] #[by ext,by ext,by ext] '#';show r [4,4,4,4] #[by ext,by ext,by ext] '#';show r [3,3,3,3] #[by ext,by ext,by ext] '#';show r [4,2,4,4] #[by ext,by ext,by ext] '#';show r [3,3,2,4] #[by ext,by ext,by ext] '#'
inductive F_kind  (Pn:PN):AU->Nat->AV->Prop
 | i {n:Nat} {R:AV} {p:Addr} {rm:AG} (hP:IsQ Pn p) (hR:RoomOk rm) (h:∀b x y:Int,0<=b->b<rm.length->0<=x->x<zy rm b->0<=y->y<zy rm b->x≠y->R (.d (.tup [.int b,.int x,.int y])) (n+3)) (hn:n+10<=1000000:=by lia):F_kind Pn [.pen p,.d (stD rm)] n R
def Oy (T:Txt K mg t):FnOk P w K mg base CX0 2 t.f18 t.d18 lh (spV 2 false F_kind):=by
 have G1:=z7 (P:=P) (w:=w) (base:=base) T
 show Fun.okW (k:=1) (fr:=false) [] 2 T.q18.F uL A5 '#' A5 λab A outer s H E Pn J=>#[_,(zf (wS zz<|zO (i:=2) uL.nd (wE zo<|yC T.q1 G1 J (za (kv 0) (za (z6 yW BD (by rfl) T.b_len bA (zn (kb 1) zt)) zd))))
   (zf (wS zz<|zO (i:=3) uL.nd (wE zo<|yC T.q1 G1 J (za (kv 0) (za (xu zA z0 (kb 1) (kb 2) '*') zd))))
   (zh (zC (z9 (za (kv 2) (za (kv 3) (za (Bb Ca MU (JE.bo (Bb yZ BV (JE.bo (Bb yZ BV (kb 3) (JE.bo zi))) (JE.bo (wE zo<|yC T.q1 G1 J (za (kv 0) (za (Bb Rc WH (JE.bo (xu zA z0 (kb 1) (kb 2) '*')) (JE.bo zi)) zd)))))) (JE.bo (xu zA z0 (kb 1) (kb 2) '*'))) zd)))))))),λws n R hF=>?_]
 obtain @⟨_,_,p,rm,O,U,r,hn⟩:=hF;left;have h8:=U.few;have h0:=eK.mpr U.ne;left;rw[af];show tk O λb B I=>?_;have hb:=ES U.box (b:=b) B I;left;show onA B I ?_;left;show tk O λx x0 Y=>?_;left;show onA B I ?_;left;show tk O λy y0 y1=>?_;left;show onA B I ?_;left;show#[by lia,?_];left;show r b x _ B I x0 Y (c8 _ '!') (cz _ '!') ?_;generalize zy rm b=M at hb Y y1;have:M=2\/M=3\/M=4:=by lia
 rcases this with rfl | rfl | rfl <;> lia
inductive F_mkGv  (Pn:PN):AU->Nat->AV->Prop
 | i {n:Nat} {R:AV} {p:Addr} {rm:AG} {box few:Int} (hP:IsQ Pn p) (hR:RoomOk rm) (hf:1<=few) (hf2:few<=10) (h:∀g m,Giv rm g->(∀q∈g,q.1≠box)->m<=n+20->R (.d (Bi g)) m) (hn:n+40<=1000000:=by lia):F_mkGv Pn [.pen p,.d (stD rm),.d (.int box),.d (.int few)] n R
def uZ (T:Txt K mg t):FnOk P w K mg base CX0 2 t.f19 t.d19 lj (spV 4 false F_mkGv):=by
 have G1:=z7 (P:=P) (w:=w) (base:=base) T
 show Fun.okW (k:=1) (fr:=false) [4] 2 T.q19.F ud A5 '#' A5 λag A outer s H E Pn hr=>#[_,(zf (wS Dr<|Dj (i:=4) ud.nd (BC zd))
   (zf (xf bf A5 (wI xa<|ya A5 T.b_range (zn (JE.bo (z6 yW BD (by rfl) T.b_len bA (zn (kb 1) zt))) zt)) (wG zK<|zm (i:=5) ud.nd) (zh (wS zT<|xx (JW.t (wW Ef<|DV (wT zp<|yb B0 B8 (kb 5) (kb 2) (zI _)) (uh (.inl A5) (wT zp<|yb EJ u_gt (JE.bo (wE zo<|yC T.q1 G1 hr (za (kv 0) (za (kv 3) zd)))) (JE.bo zi) (zI _))))) (zh (wS IO<|Ir 4 (z9 (za (kv 5) (za (wE zo<|yC T.q1 G1 hr (za (kv 0) (za (xu zA z0 (kb 1) (kb 5) '*') zd))) zd))))) zS)))
   (zh (zC (xY yi CZ (by rfl) T.b_tuple bD (zn (kb 4) zt)))))),λws n R hF=>?_]
 obtain @⟨_,_,p,rm,U,ab,hP,hR,hf,al,r,hn⟩:=hF;left;have h8:=hR.few;rw[af];show#[#[by lia,by lia],CV (λi D m=>m<=n+2*i/\i<=rm.length/\∃g v5,D=[some (.pen p),some (.d (stD rm)),some (.d (.int U)),some (.d (.int ab)),some (.d (.lst (g.map yp))),v5]/\Giv rm g/\(∀q∈g,q.1≠U)/\(∀q∈g,q.1<(i:Int))/\g.length<=i) #[by lia,aQ _,[],_,A5,#[by simp,.nil],by simp,by simp,by simp] ?_ ?_]
 ·rintro i D m hi ⟨hm,ac,g,v5,rfl,Y,I,J,ad⟩ C B E hC _ _;have an:=ES hR.box (b:=(i:Int)) '!' '!';left;show Do (λhb=>?_) (λ_=>?_);rotate_left;left;show hC #[by lia,by lia,g,_,A5,Y,I,λq O=>by have:=J q O;lia,by lia];left;show tk hP λt t0 t1=>?_;left;show Cj (λ_=>?_) (λ_=>?_);rotate_left;left;show hC #[by lia,by lia,g,_,A5,Y,I,λq O=>by have:=J q O;lia,by lia];left;show onA '!' '!' ?_;left;show tk hP λu u0 u1=>?_;left;show#[by rw[af];show bR (by lia:_<=8) '#',hC #[by lia,by lia,g++[((i:Int),u)],_,by rw[aP];rfl,Y.snoc J '!' '!' u0 u1,λq O=>?_,λq O=>?_,by rw[ay];simp;lia]];rcases aA.mp O with z | z;show I q z;rw[ao.mp z];show hb;rcases aA.mp O with z | z;have:=J q z;lia;rw[ao.mp z];change (i:Int)<((i+1:Nat):Int);lia
 rintro D m ⟨hm,ac,g,v5,rfl,Y,I,J,ad⟩;left;show r g m Y I '!'
def ZD{g:List (Int×Int)}(h:Giv rm g):Giv rm (g.take k++g.drop (k+1)):=by
 have hs:(g.take k++g.drop (k+1)).Sublist g:=by
  have e:=aV k g
  conv=>rhs;rw[<- e]
  show List.Sublist.append (List.Sublist.refl _) ?_;rw[<- eF];show ez 1 _
 show#[λq B=>h.ok q (hs.subset B),h.up.sublist hs]
def ZE{g:List (Int×Int)}{q:Int×Int}{x:Int}(h:Giv rm g)(B:g[k]?=some q)(I:0<=x)(J:x<zy rm q.1):Giv rm (g.take k++[(q.1,x)]++g.drop (k+1)):=by
 have e:g=g.take k++[q]++g.drop (k+1):=by rw[<- zj B,aV]
 have O:(g.take k++[(q.1,x)]++g.drop (k+1)).map (·.1)=g.map (·.1):=by
  conv=>rhs;rw[e]
  simp
 show#[λF U=>?_,?_];rcases aA.mp U with z | z;rcases aA.mp z with z | z;show h.ok F (bH z);rw[ao.mp z];have:=h.ok q (az B);show#[this.1,this.2.1,I,J];show h.ok F (bO z);have h2:(g.map (·.1)).Pairwise (· < ·):=bN.mpr h.up;rw[<- O] at h2;show bN.mp h2
def ZF{g:List (Int×Int)}:∀q∈g.take k++g.drop (k+1),∃B∈g,q.1=B.1:=λq F=>#[q,(aA.mp F).elim bH bO,A5]
def ZG{g:List (Int×Int)}{p:Int×Int}{x:Int}(hp:g[k]?=some p):∀q∈g.take k++[(p.1,x)]++g.drop (k+1),∃B∈g,q.1=B.1:=λq F=>by
 rcases aA.mp F with z | z;rcases aA.mp z with z | z;show#[q,bH z,A5];rw[ao.mp z];show#[p,az hp,A5];show#[q,bO z,A5]
inductive F_near  (Pn:PN):AU->Nat->AV->Prop
 | i {n:Nat} {R:AV} {p:Addr} {rm:AG} {box:Int} {g:List (Int×Int)} (hP:IsQ Pn p) (hR:RoomOk rm) (hG:Giv rm g) (h:∀g' m,Giv rm g'->(∀q∈g',∃q2∈g,q.1=q2.1)->m<=n+2->R (.d (Bi g')) m) (hn:n+10<=1000000:=by lia):F_near Pn [.pen p,.d (stD rm),.d (.int box),.d (Bi g)] n R
def ZH (T:Txt K mg t):FnOk P w K mg base CX0 2 t.f20 t.d20 li (spV 4 false F_near):=by
 have G1:=z7 (P:=P) (w:=w) (base:=base) T
 show Fun.okW (k:=1) (fr:=false) [] 4 T.q20.F y6 A5 '#' A5 λac A outer s H E Pn O=>#[_,(zf (wS zT<|xx (wT zp<|yb (ER O.units) FG (kb 3) (JE.bo (z9 zd)) (zI _)) (zh (zC (kv 3))) zS)
   (zf (wS zz<|zO (i:=4) y6.nd (wE zo<|yC T.q1 G1 O (za (kv 0) (za (z6 yW BD (by rfl) T.b_len bA (zn (kb 3) zt)) zd))))
   (zf (wS zz<|zO (i:=5) y6.nd (wE zo<|yC T.q1 G1 O (za (kv 0) (za zi zd))))
   (zf (wS zT<|xx (wT zp<|yb BZ B7 (kb 5) (JE.bo zi) (zI _)) (zh (zC (Bb yO uq (JE.bo (wE xM<|B4 (kb 3) xK (wO yU<|xL (kb 4)))) (JE.bo (wE xM<|B4 (kb 3) (wO yU<|xL (JE.bo (Bb yZ BV (kb 4) (JE.bo zi)))) xK))))) zS)
   (zf (wS zT<|xx (wT zp<|yb BZ B7 (kb 5) (JE.bo zi) (zI _)) (zf (Ip (xu zA z0 (kb 3) (kb 4) '*') (wG uD<|uE (n:=2) K A5 A5 (wH zZ<|zx (wG zK<|zm (i:=6) y6.nd) (wH zZ<|zx (wG zK<|zm (i:=7) y6.nd) (wH uC xo)))))
   (zh (zC (Bb yO uq (JE.bo (Bb yO uq (JE.bo (wE xM<|B4 (kb 3) xK (wO yU<|xL (kb 4)))) (JE.bo (z9 (za (z9 (za (kv 6) (za (Bb Ca MU (JE.bo (Bb yZ BV (kb 7) (JE.bo zi))) (JE.bo (xu zA z0 (kb 1) (kb 6) '*'))) zd))) zd))))) (JE.bo (wE xM<|B4 (kb 3) (wO yU<|xL (JE.bo (Bb yZ BV (kb 4) (JE.bo zi)))) xK)))))) zS)
   (zh (zC (kv 3)))))))),λws n R hF=>?_]
 obtain @⟨_,_,p,rm,ad,g,Y,hR,J,r,hn⟩:=hF;left;have h8:=GV J hR.few;show#[KQ.1,xn (ns:=[]),λc hc=>?_];left
 cases c with
 | true=>
  left;show r g _ J (λq I=>#[q,I,A5]) '!'
 | false=>
  have U:g≠[]:=λz=>by subst z;show absurd (hc.mpr A5) '#'
  have ab:=eK.mpr U;left;rw[af];show tk Y λa a0 a1=>?_;obtain⟨k,rfl⟩:∃k:Nat,a=(k:Int):=#[a.toNat,by lia];have hk:k<g.length:=by lia
  obtain⟨q,I⟩:∃q,g[k]?=some q:=#[g[k],am hk];have e1:uv (g.map yp) none (some (k:Int))=(g.take k).map yp:=by rw[Dk,ML]
  have e2:uv (g.map yp) (some ((k:Int)+1)) none=(g.drop (k+1)).map yp:=by rw[Dk,show ((k:Int)+1)=((k+1:Nat):Int) by lia,Xe]
  have l1:(g.take k).length<=100:=by rw[bi];lia
  have l2:(g.drop (k+1)).length<=100:=by rw[eI];lia
  left;show tk Y λw w0 w1=>?_;left;show Cj (λ_=>?_) (λ_=>?_);left;rw[e1,e2];show#[by rw[af,af];show av (by lia:_<=200) '#',?_];rw[<- aP];show r _ _ (ZD J) ZF '!';left;show Cj (λ_=>?_) (λ_=>?_);have B:=J.ok q (az I);have ag:=ES hR.box (b:=q.1) B.1 B.2.1;left;show onG I ?_;left;show onA B.1 B.2.1 ?_;left;show#[by lia,?_];left;rw[e1];show#[by rw[af];show av (g9 l1 (ak 1)) '#',?_];left;rw[e2];show#[by rw[ay,af,af];show av (g9 (g9 l1 (ak 1)) l2) '#',?_];have e3:(g.take k).map yp++[Dt.tup [Dt.int q.1,Dt.int ((q.2+1) % zy rm q.1)]]++(g.drop (k+1)).map yp=(g.take k++[(q.1,(q.2+1) % zy rm q.1)]++g.drop (k+1)).map yp:=by rw[aP,aP];rfl
  rw[e3];show r _ _ (ZE J I (c8 _ '!') (cz _ '!')) (ZG I) '!';left;show r g _ J (λq I=>#[q,I,A5]) '!'
inductive F_allR  (Pn:PN):AU->Nat->AV->Prop
 | i {n:Nat} {R:AV} {rm:AG} (hR:RoomOk rm) (h:R (.d (Bh (yg (rm.map zl)))) n)  : F_allR Pn [.d (stD rm)] n R
def ZI (T:Txt K mg t):FnOk P w K mg base CX0 1 t.f21 t.d21 ly (spV 1 false F_allR):=by
 show Fun.okW (k:=0) (fr:=false) [3] 4 T.q21.F yQ A5 '#' A5 λag A outer s H E Pn hr=>#[_,(zf (wS zz<|zO (i:=1) yQ.nd (BC (za (z9 zd) zd)))
   (zf (xf bf A5 (wI uH<|Cq K A5 (kv 0)) (wG zK<|zm (i:=2) yQ.nd) (zf (wS Dr<|Dj (i:=3) yQ.nd (BC zd))
   (zf (xf bf A5 (wI Dq<|Dg K A5 (kv 1)) (wG zK<|zm (i:=4) yQ.nd) (zh (wS MZ<|MI 3 (Cf (N:=lO) (A8:=[none,some 4]) A5 (by fail"c") (wI xa<|ya A5 T.b_range (zn (kb 2) zt)) (λ_ _ _ _=>(wG zK<|zm (i:=0) (show (lO:AM).Nodup by decide +kernel))) (λ_ _ _ _=>xZ) (λ_ _ _ _=>(Bb yO uq (kb 1) (JE.bo (z9 (za (kv 0) zd)))))))))
   (zh (wS W3<|Wc (i:=1) 3 yQ.nd A5 (Or.inl A5))))))
   (zh (zC (kv 1))))),λws n R hF=>?_]
 obtain @⟨_,_,rm,hR,r⟩:=hF;left;have hb:=hR.box;show xh rm (λi=>.d (.int i)) (by rw[aK];rfl) (λi D m=>m=n/\∃v2 v3 v4,D=[some (.d (stD rm)),some (.d (Bh (yg ((rm.take i).map zl)))),v2,v3,v4]) #[A5,none,none,none,A5] ?_ ?_;rintro i a D m ha ⟨rfl,v2,v3,v4,rfl⟩ C B E hC _ _;have hm:=hb a (az ha);obtain⟨w,rfl⟩:∃w:Nat,a=(w:Int):=#[a.toNat,by lia];have O:=MJ hR.few hb i;have U:∀I∈yg ((rm.take i).map zl),I.length<=8:=λI J=>by rw[G5 _ _ J,af,bi];have:=hR.few;lia
 have Y:yg ((rm.take (i+1)).map zl)=(yg ((rm.take i).map zl)).flatMap λI=>(zl (w:Int)).map λx=>I++[x]:=by rw[zj ha,aP,ax,dU,yF];rfl
 generalize yg ((rm.take i).map zl)=rows at O Y U;left;show xh rows (λI=>.d (stD I)) (by rw[aK];rfl) (λj D m'=>m'=m/\∃v4,D=[some (.d (stD rm)),some (.d (Bh rows)),some (.d (.int (w:Int))),some (.d (Bh ((rows.take j).flatMap λI=>(zl (w:Int)).map λx=>I++[x]))),v4]) #[A5,_,A5] ?_ ?_;rintro j I D m' J ⟨rfl,v4,rfl⟩ C2 B2 E2 ac _ _;have h8:=U I (az J);left;show#[#[by lia,by lia],?_];have ad:(List.range w).map (λk:Nat=>I++[(k:Int)])=(zl (w:Int)).map λx=>I++[x]:=by unfold zl;rw[aK,bg];rfl
 have ab:w<=4:=by lia
 have hz:((rows.take j).flatMap λI=>(zl (w:Int)).map λx=>I++[x]).length<=262144:=by
  rw[List.length_flatMap]
  have e0:∀l:AF,((l.map λI=>((zl (w:Int)).map λx=>I++[x]).length).sum)=l.length*w:=λl=>by
   induction l with
   | nil=>simp
   | cons y l ih=>rw[ax,List.sum_cons,ih,af,xS,aS,Nat.succ_mul,bg,Nat.add_comm]
  rw[e0,bi];show av (Nat.mul_le_mul (av (iy _ _) O) ab) '#'
 rw[bg,Eb];show Ei (List.range w) (λk:Nat=>W.d (.int (k:Int))) A5 (λD=>∃v,D=[v,some (.d (stD I))]) (λk=>stD (I++[(k:Int)])) (by rw[aZ];show av ab '#') #[_,A5] ?_ ?_;rintro k hk al ⟨v,rfl⟩ C hC;left;show#[len1 (av h8 '#'),?_];rw[cat1];show hC #[_,A5];left;show#[by rw[af,af,aZ];show av (g9 hz ab) '#',?_];show ac #[A5,some (.d (stD I)),?_];rw[zj J,gJ,List.flatMap_singleton,<- ad];simp only[Bh,aP,aK];rfl;rintro D m' ⟨rfl,v4,rfl⟩;rw[bC,<- Y];left;show hC #[A5,_,_,_,A5];rintro D m ⟨rfl,v2,v3,v4,rfl⟩;rw[bC];left;show r
inductive F_keepsL  (Pn:PN):AU->Nat->AV->Prop
 | i {n:Nat} {R:AV} {st:AG} {g:List (Int×Int)} (hg:∀q∈g,0<=q.1/\q.1<st.length) (hl:g.length<=100) (h:R (.d (.bl (xp st g))) n)  : F_keepsL Pn [.d (stD st),.d (Bi g)] n R
def ZJ (T:Txt K mg t):FnOk P w K mg base CX0 1 t.f22 t.d22 lw (spV 2 false F_keepsL):=by
 show Fun.okW (k:=0) (fr:=false) [] 0 T.q22.F Y6 A5 '#' A5 λI A outer s H E Pn hr=>#[_,(zh (zC (z6 (GE A5) IM (by rfl) T.b_all fT (zn (JE.bo (Cf (N:=lv) (A8:=[none,none,some 0]) A5 (by fail"c") (wI uH<|Cq K A5 (kv 1)) (λ_ _ _ _=>(wG uD<|uE (n:=2) K A5 A5 (wH zZ<|zx (wG zK<|zm (i:=0) (show (lv:AM).Nodup by decide +kernel)) (wH zZ<|zx (wG zK<|zm (i:=1) (show (lv:AM).Nodup by decide +kernel)) (wH uC xo))))) (λ_ _ _ _=>xZ) (λ_ _ _ _=>(Ce BZ B7 (JE.bo (xu zA z0 (kb 2) (kb 0) '*')) (kb 1) (zI _))))) zt)))),λws n R J=>?_];obtain @⟨_,_,st,g,O,U,r⟩:=J;left;show Ei g (λq=>.d (yp q)) (by rw[aK];rfl) (λD=>∃a b,D=[a,b,some (.d (stD st))]) (λq=>.bl (decide (zy st q.1=q.2))) (av U '#') #[_,_,A5] ?_ ?_;rintro q Y ab ⟨a,b,rfl⟩ C hC;have B:=O q Y;left;show onA B.1 B.2 ?_;left;show hC #[_,_,A5];left;show#[g.map λq=>decide (zy st q.1=q.2),by rw[aK];rfl,?_];have ea:(g.map λq=>decide (zy st q.1=q.2)).all id=xp st g:=by unfold xp;rw[List.all_map];rfl
 rw[ea];show r
def eqW{bk:AW}:(Dt.lst (bk.map z5)).eqOk/\(Dt.tup (bk.map z5)).eqOk:=by
 have e:(Dt.toWs (bk.map z5)).all (PySem.W.kqdOk 7)=true:=by
  induction bk with
  | nil=>rfl
  | cons x l B=>simp only[ax,Dt.toWs,cj,B,KZ x,cB]
 show#[e,e]
inductive F_book  (Pn:PN):AU->Nat->AV->Prop
 | i {n:Nat} {R:AV} {p:Addr} {rm:AG} (hP:IsQ Pn p) (hR:RoomOk rm) (h:∀ (bk:AW) (b x y:Int) (m:Nat),uX rm bk->bk.length<=12->0<=b->b<rm.length->0<=x->x<zy rm b->0<=y->y<zy rm b->x≠y->m<=n+600->R (.d (.tup [y9 bk,.tup [.int b,.int x,.int y]])) m) (hn:n+700<=1000000:=by lia):F_book Pn [.pen p,.d (stD rm)] n R
def ZK (T:Txt K mg t):FnOk P w K mg base CX0 3 t.f23 t.d23 lh (spV 2 false F_book):=by
 have G1:=z7 (P:=P) (w:=w) (base:=base) T;have G18:=Oy (P:=P) (w:=w) (base:=base) T;have G19:=uZ (P:=P) (w:=w) (base:=base) T;have G20:=ZH (P:=P) (w:=w) (base:=base) T
 show Fun.okW (k:=2) (fr:=false) [4] 7 T.q23.F zL A5 '#' A5 λbs A outer s H E Pn O=>#[_,(zf (wS zz<|zO (i:=2) zL.nd (wE zo<|yC T.q18 G18 O (za (kv 0) (za (kv 1) zd))))
   (zf (wS zz<|zO (i:=3) zL.nd (Bb yZ BV (JE.bo zi) '@'))
   (zf (wS Dr<|Dj (i:=4) zL.nd (BC zd))
   (zf (xf bf A5 (wI xa<|ya A5 T.b_range (zn '@' zt)) (wG zK<|zm (i:=5) zL.nd) (zf (wS zz<|zO (i:=6) zL.nd (wE zo<|yC T.q19 G19 O (za (kv 0) (za (kv 1) (za (xu zA z0 (kb 2) (JE.bo zi) '*') (za (kv 3) zd))))))
   (zf (wS zT<|xx (JW.t (wW Ef<|DV (wT zp<|yb (RZ O.units) WN (kb 4) (JE.bo (BC zd)) (zI _)) (uh (.inl A5) (wT zp<|yb EJ u_gt '@' (JE.bo zi) (zI _))))) (zh (wS zz<|zO (i:=6) zL.nd (wE zo<|yC T.q20 G20 O (za (kv 0) (za (kv 1) (za (xu zA z0 (kb 2) (JE.bo zi) '*') (za (xu zA z0 (JE.bo (xu C8 Eh (kb 4) (JE.bo (wE zo<|yC T.q1 G1 O (za (kv 0) (za (z6 yW BD (by rfl) T.b_len bA (zn (kb 4) zt)) zd)))) '*')) (JE.bo zi) '*') zd))))))) zS)
   (zh (wS IO<|Ir 4 (Bb yO uq (JE.bo (z9 (za (kv 6) zd))) (kb 2)))))))
   (zf (xf bf A5 (wI xa<|ya A5 T.b_range (zn '@' zt)) (wG zK<|zm (i:=5) zL.nd) (zf (wS zz<|zO (i:=7) zL.nd (wE zo<|yC T.q18 G18 O (za (kv 0) (za (kv 1) zd))))
   (zf (wS zz<|zO (i:=8) zL.nd (Bb yO uq (JE.bo (z9 (za (wE zo<|yC T.q19 G19 O (za (kv 0) (za (kv 1) (za (xu zA z0 (kb 7) (JE.bo zi) '*') (za (kv 3) zd))))) zd))) (kb 7)))
   (zh (wS W2<|Wa 4 (wE zo<|yC T.q1 G1 O (za (kv 0) (za (Bb yZ BV (JE.bo (z6 yW BD (by rfl) T.b_len bA (zn (kb 4) zt))) (JE.bo zi)) zd))) (kv 8))))))
   (zh (zC (z9 (za (xY yi CZ (by rfl) T.b_tuple bD (zn (kb 4) zt)) (za (kv 2) zd)))))))))),λws n R hF=>?_]
 obtain @⟨_,_,p,rm,U,hR,r,hn⟩:=hF;left;show F_kind.i U hR λb x y b0 b1 x0 x1 y0 y1 ab=>?_;left;show tk U λf f0 f1=>?_;left;show tk U λc c0 c1=>?_;left;show#[#[by lia,by lia],CV (λi D m=>m<=n+5+30*i/\i<=8/\∃bk v5 v6 v7 v8,D=[some (.pen p),some (.d (stD rm)),some (.d (.tup [.int b,.int x,.int y])),some (.d (.int (2+f))),some (.d (.lst (bk.map z5))),v5,v6,v7,v8]/\(∀w∈bk,WishOk rm w/\w.b=b)/\bk.length=i) #[by lia,by lia,[],none,none,none,none,A5,by simp,A5] ?_ ?_]
 ·rintro i D m hi ⟨hm,an,bk,v5,v6,v7,v8,rfl,Y,I⟩ C B E hC _ _;left;show F_mkGv.i U hR '!' '!' λg m2 hG J as=>?_;left
  have fin:∀ (g:List (Int×Int)) (n1:Nat),Giv rm g->(∀q∈g,q.1≠b)->n1<=m+25->C [some (.pen p),some (.d (stD rm)),some (.d (.tup [.int b,.int x,.int y])),some (.d (.int (2+f))),some (.d (.lst (bk.map z5++[z5 #[g,b,x,y]]))),some (.d (.int (i:Int))),some (.d (Bi g)),v7,v8] n1:=λg n1 hG J bt=>hC #[by lia,by lia,bk++[#[g,b,x,y]],_,_,_,_,by rw[aP];rfl,λw hw=>by
   rcases aA.mp hw with z | z;show Y w z;rw[ao.mp z];show#[#[hG,b0,b1,J,x0,x1,y0,y1,ab],A5],by rw[ay,I];rfl]
  have ac:(bk.map z5).length<lim:=by rw[af];show bR (by lia:_<=8) '#'
  show#[eqW.1,Wl (ns:=[]),λc hc=>?_];left
  cases c with
  | true=>
   (with_reducible show WE A5 ?_)
   left;show#[(show 1+3<=lim by ext),ac,fin g m2 hG J '!']
  | false=>
   have ab:bk≠[]:=λz=>by subst z;show absurd (hc.mpr A5) '#'
   have bm:=eK.mpr ab
   (with_reducible show WD A5 ?_)
   left;show tk U λu u0 u1=>?_;left;show Cj (λ_=>?_) (λ_=>?_);rotate_left;left;show#[(show 1+3<=lim by ext),ac,fin g (m2+1) hG J '!'];left;rw[show atI [Dt.int b,Dt.int x,Dt.int y] 0=some (Dt.int b) from rfl];left;rw[af];show tk U λa a0 a1=>?_;obtain⟨k,rfl⟩:∃k:Nat,a=(k:Int):=#[a.toNat,by lia];have hk:k<bk.length:=by lia
   left;show onG (x:=bk[k]) (am hk) ?_;left;show F_near.i U hR (Y _ (bj hk)).1.giv λg' m3 a2 ad bx=>?_;left;show#[(show 1+3<=lim by ext),ac,fin g' m3 a2 (λq hq=>by obtain⟨q2,h2,e⟩:=ad q hq;have:=Y _ (bj hk);rw[e,<- this.2];show this.1.apart q2 h2) '!']
 rintro D m ⟨hm,an,bk,v5,v6,v7,v8,rfl,Y,I⟩;left;show tk U λe e0 e1=>?_;left;show#[#[by lia,by lia],CV (λi D m'=>m'<=m+1+30*i/\i<=5/\∃bk v5 v6 v7 v8,D=[some (.pen p),some (.d (stD rm)),some (.d (.tup [.int b,.int x,.int y])),some (.d (.int (2+f))),some (.d (.lst (bk.map z5))),v5,v6,v7,v8]/\uX rm bk/\bk.length=c.toNat+i) #[by lia,by lia,bk,_,_,_,_,A5,λw hw=>(Y w hw).1,I] ?_ ?_];rintro i D m' hi ⟨a3,a4,bk,v5,v6,v7,v8,rfl,Y,I⟩ C B E hC _ _;have ag:bk.length<=12:=by lia
 left;show F_kind.i U hR λb2 x2 y2 a5 a7 bb bc bd bl al=>?_;left;rw[show atI [Dt.int b2,Dt.int x2,Dt.int y2] 0=some (Dt.int b2) from rfl];left;show F_mkGv.i U hR '!' '!' λg m2 hG J as=>?_;left;show#[(show 1+3<=lim by ext),?_];left;rw[af];show tk U λa a0 a1=>?_;left;show#[#[a0,by lia,bR ag '#'],?_];have e0:B6 (bk.map z5) a.toNat (Dt.tup ([Bi g]++[Dt.int b2,Dt.int x2,Dt.int y2]))=(B6 bk a.toNat #[g,b2,x2,y2]).map z5:=Wh z5 bk a.toNat #[g,b2,x2,y2];rw[e0]
 show hC #[by lia,by lia,B6 bk a.toNat #[g,b2,x2,y2],_,_,_,_,A5,λw hw=>by
  rcases aA.mp hw with z | z;show Y w (bH z);rcases au.mp z with z | z;rw[z];show#[hG,a5,a7,J,bb,bc,bd,bl,al];show Y w (bO z),by rw[Wj];lia]
 rintro D m' ⟨a3,a4,bk,v5,v6,v7,v8,rfl,Y,I⟩;left;show r bk b x y _ Y '!' b0 b1 x0 x1 y0 y1 ab '!'
def kyP (q:AG×List Int):Dt:=.tup [stD q.1,stD q.2]
def kvP (q:AG×List Int):Dt×Dt:=(kyP q,.bl true)
def HD{a c:AG}(h:stD a=stD c):a=c:=(dD (λ_ _ z=>by cases z;rfl)).mp (show a.map Dt.int=c.map Dt.int by simpa [stD] using h)
def Oz{p q:AG×List Int}(h:kyP p=kyP q):p=q:=by unfold kyP at h;simp only[Dt.tup.injEq,dZ,and_true] at h;show Prod.ext (HD (congrArg Dt.tup h.1)) (HD (congrArg Dt.tup h.2))
def ZL (q:AG×List Int):(kyP q).ky:=by
 have k1:∀B:AG,(stD B).hk=true:=λB=>xJ.mpr λd I=>by obtain⟨i,_,rfl⟩:=aH.mp I;rfl
 show#[?_,?_,A5];change Dt.hks [_,_]=true;simp only[Dt.hks,k1,cB];show .inl #[?_,A5];change PySem.W.kqdOk 8 (Dt.tup [_,_]).toW=true;have k2:∀B:AG,PySem.W.kqdOk 7 (stD B).toW=true:=λB=>by have:=xn (ns:=B);have h:PySem.W.kqdOk 8 (stD B).toW=true:=this;simp only[stD,Dt.toW,PySem.W.kqdOk] at h ⊢;rw[bu] at h ⊢;intro x F;rw[uS,aK] at F;obtain⟨i,_,rfl⟩:=aH.mp F;rfl
 simp only[Dt.toW,Dt.toWs,PySem.W.kqdOk,cj,List.all_nil,cB,aO];show#[k2 q.1,k2 q.2]
def lookP (ks:List (AG×List Int))(q:AG×List Int):(yE (ks.map kvP) (kyP q)).isSome=decide (q∈ks):=by
 unfold yE kvP;rw[el,List.find?_map,el,bS,List.find?_isSome,b9];constructor;rintro⟨x,h1,h2⟩;rwa[<- show x=q from Oz (be h2)];show λh=>#[q,h,aD A5]
def putP (ks:List (AG×List Int))(q:AG×List Int):Bp (ks.map kvP) (kyP q) (.bl true)=(if q∈ks then ks else ks++[q]).map kvP:=by
 have e:(ks.map kvP).any (λkv=>decide (kv.1=kyP q))=decide (q∈ks):=by rw[bS,iG,iC,b9];show#[λ⟨x,h1,h2⟩=>by rwa[<- show x=q from Oz (be h2)],λh=>#[q,h,aD A5]]
 unfold Bp;rw[e];by_cases h:q∈ks
 ·rw[if_pos (aD h),if_pos h,aK];show eM λx _=>?_;change (if (kvP x).1=kyP q then ((kvP x).1,Dt.bl true) else kvP x)=kvP x;split <;> rfl
 rw[if_neg (by simpa using h),if_neg h,aP];rfl
def Js (rm:AG)(bk:AW)(ks:List (AG×List Int)):Prop:=ks.Nodup/\∀a c,(a,c)∈ks↔a∈yg (rm.map zl)/\c∈ux bk a []
def DR{a c:AG}:c∈ux bk a []↔∃w∈bk,uu a w=true/\c=chg a w.b w.r:=by unfold ux;rw[yc,yX];simp
inductive F_pairs  (Pn:PN):AU->Nat->AV->Prop
 | i {n:Nat} {R:AV} {rm:AG} {bk:AW} (hR:RoomOk rm) (hp:yK rm<=64) (hB:uX rm bk) (hl:bk.length<=2048) (h:∀ks,Js rm bk ks->ks.length<=300000->R (.dn false (ks.map kvP)) n)  : F_pairs Pn [.d (stD rm),.d (y9 bk)] n R
def ZM (T:Txt K mg t):FnOk P w K mg base CX0 2 t.f24 t.d24 lg (spV 2 true F_pairs):=by
 have G21:=ZI (P:=P) (w:=w) (base:=base) T;have G22:=ZJ (P:=P) (w:=w) (base:=base) T
 show Fun.okW (k:=1) (fr:=true) [2] 6 T.q24.F z8 A5 '#' A5 λa5 A outer s H E Pn hr=>#[_,(zf (wS Dr<|Dj (i:=2) z8.nd Yn)
   (zf (xf bf A5 (wI Dq<|Dg K A5 (wE zo<|yC T.q21 G21 hr (za (kv 0) zd))) (wG zK<|zm (i:=3) z8.nd) (zh (xf bf A5 (wI uH<|Cq K A5 (kv 1)) (wG uD<|uE (n:=4) K A5 A5 (wH zZ<|zx (wG zK<|zm (i:=4) z8.nd) (wH zZ<|zx (wG zK<|zm (i:=5) z8.nd) (wH zZ<|zx (wG zK<|zm (i:=6) z8.nd) (wH zZ<|zx (wG zK<|zm (i:=7) z8.nd) (wH uC xo)))))) (zh (wS zT<|xx (JW.t (wW Ef<|DV (wT zp<|yb BZ B7 (JE.bo (xu zA z0 (kb 3) (kb 5) '*')) (kb 7) (zI _)) (uh (.inl A5) (wT zp<|yD (JE.bo (wE zo<|yC T.q22 G22 hr (za (kv 3) (za (kv 4) zd)))))))) (zh (Yo 2 hr.units (JE.bo (z9 (za (kv 3) (za (Bb yO uq (JE.bo (Bb yO uq (JE.bo (wE xM<|B4 (kb 3) xK (wO yU<|xL (kb 5)))) (JE.bo (z9 (za (kv 6) zd))))) (JE.bo (wE xM<|B4 (kb 3) (wO yU<|xL (JE.bo (Bb yZ BV (kb 5) (JE.bo zi)))) xK))) zd)))) BN)) zS)))))
   (zh (wS W1<|VA 2)))),λws n R hF=>?_]
 obtain @⟨_,_,rm,bk,hR,hp,hB,hl,r⟩:=hF;left
 have a1:(yg (rm.map zl)).length<=64:=by
  have:=xV rm λn hn=>by have:=hR.box n hn;lia
  lia
 show F_allR.i hR ?_;left;show xh (yg (rm.map zl)) (λI=>.d (stD I)) (by rw[aK];rfl) (λi D m=>m=n/\∃ks v3 v4 v5 v6 v7,D=[some (.d (stD rm)),some (.d (y9 bk)),some (.dn false (ks.map kvP)),v3,v4,v5,v6,v7]/\ks.Nodup/\ks.length<=3000*i/\∀a c,(a,c)∈ks↔a∈(yg (rm.map zl)).take i/\c∈ux bk a []) #[A5,[],_,_,_,_,_,A5,fM,by simp,by simp] ?_ ?_
 ·rintro i I D m Y ⟨rfl,ks,v3,v4,v5,v6,v7,rfl,J,ab,O⟩ C B E hC _ _;obtain⟨hi,a2⟩:=ai.mp Y;have al:=az Y;have hS:=yG _ _ al;have a3:I∉(yg (rm.map zl)).take i:=λz=>by have hn:=FK rm;have:=List.nodup_append.mp (by rw[<- zj Y];show hn.sublist (cV _ _):((yg (rm.map zl)).take i++[I]).Nodup);show this.2.2 I z I '$' A5
  left;show xh bk (λx=>.d (z5 x)) (by rw[aK];rfl) (λj D m2=>m2=m/\∃ks v4 v5 v6 v7,D=[some (.d (stD rm)),some (.d (y9 bk)),some (.dn false (ks.map kvP)),some (.d (stD I)),v4,v5,v6,v7]/\ks.Nodup/\ks.length<=3000*i+j/\∀a c,(a,c)∈ks↔(a∈(yg (rm.map zl)).take i/\c∈ux bk a [])\/a=I/\∃w∈bk.take j,uu a w=true/\c=chg a w.b w.r) #[A5,ks,_,_,_,_,A5,J,by simpa using ab,λa c=>by rw[O];simp] ?_ ?_
  ·rintro j x D m2 hx ⟨rfl,ks,v4,v5,v6,v7,rfl,J,ab,O⟩ C2 B2 E2 ad _ _;have a7:=(ai.mp hx).1;have hX:=hB x (az hx);have an:x.b<I.length:=by rw[hS.len];show hX.b1
   have ag:=hX.b0;have h8:I.length<=8:=by rw[hS.len];show hR.few
   have ac:uu I x=false->C2 [some (.d (stD rm)),some (.d (y9 bk)),some (.dn false (ks.map kvP)),some (.d (stD I)),some (.d (Bi x.g)),some (.d (.int x.b)),some (.d (.int x.r)),some (.d (.int x.w))] m2:=λhg=>ad #[A5,ks,_,_,_,_,A5,J,by lia,λa c=>by
    rw[O,zj hx];show or_congr_right (and_congr_right λe=>?_);subst e;constructor;rintro⟨w,U,q⟩;show#[w,cC _ U,q];rintro⟨w,U,q⟩;rcases aA.mp U with U | U;show#[w,U,q];rw[ao.mp U,hg] at q;cases q.1]
   left;show onA ag an ?_;left;show Cj (λU=>?_) (λU=>?_);rotate_left;left;show ac (by unfold uu;rw[aJ U,Bool.false_and]);left;show F_keepsL.i (λq hq=>by have:=hX.giv.ok q hq;rw[hS.len];lia) (GV hX.giv hR.few) ?_
   cases hk:xp I x.g with
   | false=>
    left;show ac (by unfold uu;rw[hk,Bool.and_false])
   | true=>
    have hg:uu I x=true:=by unfold uu;rw[hk,aD U];rfl
    left;show#[M6 '!',?_];left;show#[M7 '!',?_];rw[M5 ag '!'];left
    have a4:(if (I,chg I x.b x.r)∈ks then ks else ks++[(I,chg I x.b x.r)]).length<=ks.length+1:=by
     split;lia;simp
    show#[ZL (I,chg I x.b x.r),by rw[af];show bR (by lia:_<=300000) '#',?_];rw[show (Dt.tup [stD I,Dt.tup ((chg I x.b x.r).map Dt.int)])=kyP (I,chg I x.b x.r) from rfl,putP];show ad #[A5,_,_,_,_,_,A5,?_,by lia,λa c=>?_]
    ·split;show J
     ·rename_i as;show List.nodup_append.mpr #[J,by simp,λp hp q hq e=>as (by rw[ao.mp hq] at e;rw[<- e];show hp)]
    ·have hm:(a,c)∈(if (I,chg I x.b x.r)∈ks then ks else ks++[(I,chg I x.b x.r)])↔(a,c)∈ks\/(a,c)=(I,chg I x.b x.r):=by
      split
      ·rename_i a0;show#[.inl,λh=>h.elim id λe=>by rw[e];show a0]
      rw[aA,ao]
     rw[hm,O,zj hx];constructor;rintro ((h | ⟨rfl,w,U,q⟩) | e);show .inl h;show .inr #[A5,w,cC _ U,q];cases e;show .inr #[A5,x,by simp,hg,A5];rintro (h | ⟨rfl,w,U,q⟩);show .inl (.inl h);rcases aA.mp U with U | U;show .inl (.inr #[A5,w,U,q]);rw[ao.mp U] at q;show .inr (by rw[q.2])
  rintro D m2 ⟨rfl,ks,v4,v5,v6,v7,rfl,J,ab,O⟩;have bb:=hl;show hC #[A5,ks,_,_,_,_,_,A5,J,by lia,λa c=>?_];rw[O,bC,zj Y,<- DR];simp only[aA,ao];constructor;rintro (⟨h1,h2⟩ | ⟨h1,h2⟩);show#[.inl h1,h2];show#[.inr h1,h2];rintro⟨h1 | h1,h2⟩;show .inl #[h1,h2];show .inr #[h1,h2]
 rintro D m ⟨rfl,ks,v3,v4,v5,v6,v7,rfl,J,ab,O⟩;rw[bC] at O;left;show r ks #[J,O] '!'
def Dp:Nat->Dt->Prop
 | 0,_=>False
 | _+1,.int _=>True
 | k+1,.tup l=>l.length<=100000/\∀d∈l,Dp k d
 | _+1,_=>False
abbrev OA (k:Nat):FV:=λ_ B n R=>match k with
 | 0=>False
 | k+1=>∃x,B=[.d x,.d x]/\Dp (k+1) x/\R (.d (.bl true)) n
def ZN (l:AS):Bm l l=l.map λd=>W.d (.tup [d,d]):=by show em λi=>?_;rw[MH,aF];cases l[i]? <;> rfl
def ZO (T:Txt K mg t)(k:Nat):FnOk P w K mg base CX0 k t.f25 t.d25 ln (spV 2 false (OA k)):=by
 induction k
 show XZ λ_ _ _ _ z=>z
 rename_i k G25
 show Fun.okW (k:=k) (fr:=false) [] 0 T.q25.F Y7 A5 '#' A5 λO A outer s H E Pn I=>#[_,(zf (wS zT<|xx (wT zp<|yD (JE.bo (wE yB<|Nn (kb 1) T.b_isinstance T.b_tuple T.b_list))) (zf (wS zT<|xx (JW.t (wW uI<|BT (wT zp<|yb B0 B8 (JE.bo (wE yB<|yz (by rfl) T.b_isinstance T.b_tuple (kb 0))) (JE.bo (wE yB<|yz (by rfl) T.b_isinstance T.b_tuple (kb 1))) (zI _)) (uh (.inr A5) (wT yM<|xA (wT zp<|yD (JE.bo (wE yB<|Nn (kb 0) T.b_isinstance T.b_tuple T.b_list))))))) (zh (zC BN)) zS)
   (zh (zC (wE x4<|CL (JE.bo (Ce BZ B7 (JE.bo (z6 yW BD (by rfl) T.b_len bA (zn (kb 0) zt))) (JE.bo (z6 yW BD (by rfl) T.b_len bA (zn (kb 1) zt))) (zI _))) (DW (z6 (GE A5) IM (by rfl) T.b_all fT (zn (JE.bo (Cf (N:=lG) (A8:=[none,none]) A5 (by fail"c") (wI WZ<|Vw A5 T.b_zip (za (kv 0) (za (kv 1) zd))) (λ_ _ _ _=>(wG uD<|uE (n:=2) K A5 A5 (wH zZ<|zx (wG zK<|zm (i:=0) (show (lG:AM).Nodup by decide +kernel)) (wH zZ<|zx (wG zK<|zm (i:=1) (show (lG:AM).Nodup by decide +kernel)) (wH uC xo))))) (λ_ _ _ _=>xZ) (λ_ _ _ _=>(wE zo<|yC T.q25 G25 I (za (kv 0) (za (kv 1) zd)) (ak _))))) zt))))))) zS)
   (zf (wS zT<|xx (JW.t (wW uI<|BT (wT zp<|yD (JE.bo (wE yB<|yI (by rfl) T.b_isinstance T.b_bool (kb 0)))) (uh (.inr A5) (wT zp<|yD (JE.bo (wE yB<|yI (by rfl) T.b_isinstance T.b_bool (kb 1))))))) (zh (zC (wE x4<|CL (JE.bo (wE yB<|yI (by rfl) T.b_isinstance T.b_bool (kb 0))) (wE x4<|CL (JE.bo (wE yB<|yI (by rfl) T.b_isinstance T.b_bool (kb 1))) (DW (Ce (ER I.units) FG (kb 0) (kb 1) (zI _))))))) zS)
   (zh (zC (wE x4<|CL (JE.bo (Ce BZ B7 (JE.bo (wE yB<|MB (by rfl) T.b_isinstance T.b_str (kb 0))) (JE.bo (wE yB<|MB (by rfl) T.b_isinstance T.b_str (kb 1))) (zI _))) (DW (Ce (ER I.units) FG (kb 0) (kb 1) (zI _)))))))),λws n R U=>?_]
 obtain⟨x,rfl,B,r⟩:=U
 cases x with
 | int i=>
  left;rw[show decide (Fx (Dt.int i)=Fx (Dt.int i))=true from aD rfl];left;show#[A5,A5,λc Y=>?_];obtain rfl:c=true:=Y.mpr A5;show r
 | tup l=>
  left;rw[show (!decide ((Dt.tup l).isTup=(Dt.tup l).isTup))=false by rw[aD rfl];rfl];left;rw[show decide ((l.length:Int)=(l.length:Int))=true from aD rfl];left;show#[A5,?_];show Ei l (λd=>W.d (.tup [d,d])) (ZN l) (λD=>∃a b,D=[a,b]) (λ_=>.bl true) (av B.1 '#') #[_,_,A5] ?_ ?_;rintro d J ab ⟨a,b,rfl⟩ C hC;left
  cases k with
  | zero=>show (B.2 d J).elim
  | succ k=>show#[d,A5,B.2 d J,hC #[_,_,A5]]
  left;show#[l.map λ_=>true,by rw[aK];rfl,?_];rw[show (l.map λ_=>true).all id=true by rw[List.all_map];simp];show r
 | lst l=>show B.elim
 | non=>show B.elim
 | bl b=>show B.elim
 | str b=>show B.elim
 | dct=>show B.elim
def ZP (T:Txt K mg t):FnOk P w K mg base CX0 5 t.f25 t.d25 ln (spV 2 false (OA 5)):=ZO T 5
def OB(F:bk.length<=100000)(I:∀w∈bk,w.g.length<=100000):Dp 5 (y9 bk):=by
 show#[by rw[af];show F,λd B=>?_];obtain⟨w,J,rfl⟩:=aH.mp B;show#[(by decide:4<=100000),λd B=>?_];simp only[au,ck,or_false] at B;rcases B with rfl | rfl | rfl | rfl
 ·show#[by rw[af];show I w J,λd B=>?_];obtain⟨q,_,rfl⟩:=aH.mp B;show#[(by decide:2<=100000),λd B=>?_];simp only[au,ck,or_false] at B;rcases B with rfl | rfl <;> show trivial
 all_goals show trivial
inductive F_worth  (Pn:PN):AU->Nat->AV->Prop
 | i {n:Nat} {R:AV} {i k:Int} (h0:0<=i) (h1:i<k) (h:R (.d (.bl true)) n)  : F_worth Pn [.d (.int i),.d (.int k)] n R
def ZQ (T:Txt K mg t):FnOk P w K mg base CX0 1 t.f26 t.d26 lA (spV 2 false F_worth):=by show Fun.okW (k:=0) (fr:=false) [] 0 T.q26.F Y8 A5 '#' A5 λB A outer s H E Pn O=>#[_,(zh (zC (wE x4<|CL (JE.bo (wE yB<|VP (by rfl) T.b_isinstance T.b_int (kb 0))) (wE x4<|CL (JE.bo (wE WF<|U2 (JE.bo (wE yB<|yI (by rfl) T.b_isinstance T.b_bool (kb 0))))) (DW (wE W6<|VS EI Ky FF u_lt (JE.bo zi) (kb 0) (kb 1))))))),λU n R I=>?_];obtain @⟨_,_,i,k,J,h1,r⟩:=I;left;rw[show (!(Dt.int i).isBl)=true from rfl];left;rw[aD J];left;rw[aD h1];show r
inductive F_isW  (Pn:PN):AU->Nat->AV->Prop
 | i {n:Nat} {R:AV} {rm:AG} {x:Wi} (hR:RoomOk rm) (hx:WishOk rm x) (h:R (.d (.bl true)) n)  : F_isW Pn [.d (stD rm),.d (z5 x)] n R
def ZR (T:Txt K mg t):FnOk P w K mg base CX0 2 t.f27 t.d27 lC (spV 2 false F_isW):=by
 have G26:=ZQ (P:=P) (w:=w) (base:=base) T
 show Fun.okW (k:=1) (fr:=false) [] 2 T.q27.F yJ A5 '#' A5 λad A outer s H E Pn Y=>#[_,(zf (wS zT<|xx (JW.t (wW uI<|BT (wT yM<|xA (wT zp<|yD (JE.bo (wE yB<|yz (by rfl) T.b_isinstance T.b_tuple (kb 1))))) (wW uI<|BT (wT zp<|yb B0 B8 (JE.bo (z6 yW BD (by rfl) T.b_len bA (zn (kb 1) zt))) (JE.bo zi) (zI _)) (uh (.inr A5) (wT yM<|xA (wT zp<|yD (JE.bo (wE yB<|yz (by rfl) T.b_isinstance T.b_tuple (JE.bo (xu zA z0 (kb 1) (JE.bo zi) '*')))))))))) (zh (zC BN)) zS)
   (zf (wS zz<|zO (i:=2) yJ.nd (j_un Rg WI (JE.bo zi)))
   (zf (xf bf A5 (wI uH<|Cq K A5 (xu zA z0 (kb 1) (JE.bo zi) '*')) (wG zK<|zm (i:=3) yJ.nd) (zf (wS zT<|xx (JW.t (wW uI<|BT (wT yM<|xA (wT zp<|yD (JE.bo (wE yB<|yz (by rfl) T.b_isinstance T.b_tuple (kb 3))))) (wW uI<|BT (wT zp<|yb B0 B8 (JE.bo (z6 yW BD (by rfl) T.b_len bA (zn (kb 3) zt))) (JE.bo zi) (zI _)) (wW uI<|BT (wT yM<|xA (wT zp<|yD (JE.bo (wE zo<|yC T.q26 G26 Y (za (xu zA z0 (kb 3) (JE.bo zi) '*') (za (z6 yW BD (by rfl) T.b_len bA (zn (kb 0) zt)) zd)))))) (uh (.inr A5) (wT zp<|yb EI FF (JE.bo (xu zA z0 (kb 3) (JE.bo zi) '*')) (kb 2) (zI _))))))) (zh (zC BN)) zS)
   (zf (wS zT<|xx (JW.t (wW uI<|BT (wT zp<|yb BZ B7 (JE.bo (xu zA z0 (kb 3) (JE.bo zi) '*')) (JE.bo (xu zA z0 (kb 1) (JE.bo zi) '*')) (zI _)) (uh (.inr A5) (wT yM<|xA (wT zp<|yD (JE.bo (wE zo<|yC T.q26 G26 Y (za (xu zA z0 (kb 3) (JE.bo zi) '*') (za (xu zA z0 (kb 0) (JE.bo (xu zA z0 (kb 3) (JE.bo zi) '*')) '*') zd))))))))) (zh (zC BN)) zS)
   (zh (wS zz<|zO (i:=2) yJ.nd (xu zA z0 (kb 3) (JE.bo zi) '*'))))))
   (zf (wS zT<|xx (JW.t (wW uI<|BT (wT yM<|xA (wT zp<|yD (JE.bo (wE zo<|yC T.q26 G26 Y (za (xu zA z0 (kb 1) (JE.bo zi) '*') (za (z6 yW BD (by rfl) T.b_len bA (zn (kb 0) zt)) zd)))))) (uh (.inr A5) (wT yM<|xA (wT zp<|yD (JE.bo (wE zo<|yC T.q26 G26 Y (za (xu zA z0 (kb 1) (JE.bo zi) '*') (za (xu zA z0 (kb 0) (JE.bo (xu zA z0 (kb 1) (JE.bo zi) '*')) '*') zd))))))))) (zh (zC BN)) zS)
   (zh (zC (wE x4<|CL (JE.bo (wE zo<|yC T.q26 G26 Y (za (xu zA z0 (kb 1) (JE.bo zi) '*') (za (xu zA z0 (kb 0) (JE.bo (xu zA z0 (kb 1) (JE.bo zi) '*')) '*') zd)))) (DW (Ce B0 B8 (JE.bo (xu zA z0 (kb 1) (JE.bo zi) '*')) (JE.bo (xu zA z0 (kb 1) (JE.bo zi) '*')) (zI _)))))))))),λws n R hF=>?_]
 obtain @⟨_,_,rm,x,hR,J,r⟩:=hF;left;have O:=J.b0;have U:=J.b1;rw[show (!decide (((([Dt.tup (List.map yp x.g),Dt.int x.b,Dt.int x.r,Dt.int x.w]:AS).length:Nat):Int)=4))=false from rfl];left;rw[show atI [Dt.tup (List.map yp x.g),Dt.int x.b,Dt.int x.r,Dt.int x.w] 0=some (Bi x.g) from rfl];left;have i1:atI [Bi x.g,Dt.int x.b,Dt.int x.r,Dt.int x.w] 1=some (.int x.b):=rfl;have i2:atI [Bi x.g,Dt.int x.b,Dt.int x.r,Dt.int x.w] 2=some (.int x.r):=rfl;have i3:atI [Bi x.g,Dt.int x.b,Dt.int x.r,Dt.int x.w] 3=some (.int x.w):=rfl;show xh x.g (λq=>.d (yp q)) (by rw[aK];rfl) (λi D m=>m=n/\∃l v3,D=[some (.d (stD rm)),some (.d (z5 x)),some (.d (.int l)),v3]/\∀q∈x.g.drop i,l<q.1) #[A5,-1,_,A5,λq hq=>by have:=J.giv.ok q (bO hq);lia] ?_ ?_;rintro i q D m hq ⟨rfl,l,v3,rfl,hl⟩ C B E hC _ _;have ab:=az hq;have I:=J.giv.ok q ab;obtain⟨hi,eq⟩:=ai.mp hq;have hd:x.g.drop i=q::x.g.drop (i+1):=by rw[cK hi,eq]
 have ag:=hl q (by rw[hd];simp);have j0:atI [Dt.int q.1,Dt.int q.2] 0=some (.int q.1):=rfl;have j1:atI [Dt.int q.1,Dt.int q.2] 1=some (.int q.2):=rfl;left;rw[show (!decide ((([Dt.int q.1,Dt.int q.2]:AS).length:Int)=2))=false from rfl];left;rw[j0];left;show F_worth.i I.1 (by rw[af];show I.2.1) ?_;left;rw[j0];left;rw[aJ (by lia:¬ q.1<=l)];left;rw[j0];left;rw[i1];left;rw[aJ (J.apart q ab)];left;rw[j1];left;rw[j0];left;show onA I.1 I.2.1 ?_;left;show F_worth.i I.2.2.1 I.2.2.2 ?_;left;rw[j0];left;show hC #[A5,_,_,A5,λq2 ac=>(aR.mp (hd ▸ J.giv.up.sublist (ez i _))).1 q2 ac];rintro D m ⟨rfl,l,v3,rfl,hl⟩;left;rw[i1];left;show F_worth.i O (by rw[af];show U) ?_;left;rw[i2];left;rw[i1];left;show onA O U ?_;left;show F_worth.i J.r0 J.r1 ?_;left;rw[i3];left;rw[i1];left;show onA O U ?_;left;show F_worth.i J.w0 J.w1 ?_;left;rw[i2];left;rw[i3];left;rw[show (!decide (x.r=x.w))=true by rw[aJ J.ne];rfl];show r
inductive F_kinds  (Pn:PN):AU->Nat->AV->Prop
 | i {n:Nat} {R:AV} {rm:AG} (hR:RoomOk rm) (h:∀bk,uX rm bk->bk.length<=128->R (.d (y9 bk)) n)  : F_kinds Pn [.d (stD rm)] n R
def ZS (T:Txt K mg t):FnOk P w K mg base CX0 1 t.f28 t.d28 ly (spV 1 false F_kinds):=by
 show Fun.okW (k:=0) (fr:=false) [1] 3 T.q28.F yt A5 '#' A5 λag A outer s H E Pn hr=>#[_,(zf (wS Dr<|Dj (i:=1) yt.nd (BC zd))
   (zf (xf bf A5 (wI xa<|ya A5 T.b_range (zn (JE.bo (z6 yW BD (by rfl) T.b_len bA (zn (kb 0) zt))) zt)) (wG zK<|zm (i:=2) yt.nd) (zh (xf bf A5 (wI xa<|ya A5 T.b_range (zn (JE.bo (xu zA z0 (kb 0) (kb 2) '*')) zt)) (wG zK<|zm (i:=3) yt.nd) (zh (wS MZ<|MI 1 (Cf (N:=lF) (A8:=[none,some 2,some 3]) A5 (by fail"c") (wI xa<|ya A5 T.b_range (zn (JE.bo (xu zA z0 (kb 0) (kb 2) '*')) zt)) (λ_ _ _ _=>(wG zK<|zm (i:=0) (show (lF:AM).Nodup by decide +kernel))) (λ_ _ _ _=>(Di (wT zp<|yb B0 B8 (kb 0) (kb 2) (zI _)))) (λ_ _ _ _=>(z9 (za (z9 zd) (za (kv 1) (za (kv 2) (za (kv 0) zd))))))))))))
   (zh (zC (xY yi CZ (by rfl) T.b_tuple bD (zn (kb 1) zt)))))),λws n R hF=>?_]
 obtain @⟨_,_,rm,hR,r⟩:=hF;left;have h8:=hR.few;rw[af];show#[#[by lia,by lia],CV (λi D m=>m=n/\∃bk O I,D=[some (.d (stD rm)),some (.d (.lst (bk.map z5))),O,I]/\uX rm bk/\bk.length<=16*i) #[A5,[],_,_,A5,by intro x hx;simp at hx,by simp] ?_ ?_];rintro i D m hi ⟨rfl,bk,O,I,rfl,J,U⟩ C B E hC _ _;have Y:i<rm.length:=by lia
 have al:=hR.box (zy rm i) (by unfold zy;simp[Y]);left;show onA '!' '!' ?_;left;show#[#[by lia,by lia],CV (λj D m2=>m2=m/\∃bk I,D=[some (.d (stD rm)),some (.d (.lst (bk.map z5))),some (.d (.int (i:Int))),I]/\uX rm bk/\bk.length<=16*i+4*j) #[A5,bk,_,A5,J,by lia] ?_ ?_];rintro j D m2 hj ⟨rfl,bk,I,rfl,J,U⟩ C2 B2 E2 ab _ _;left;show onA '!' '!' ?_;left;have ac:(j:Int)<zy rm i:=by lia
 show#[#[by lia,by lia],?_];rw[Eb];have hf:((List.range (zy rm i).toNat).filter λy:Nat=>decide ((y:Int)≠j)).length<=4:=av (List.length_filter_le _ _) (by rw[aZ];lia);show FJ (List.range (zy rm i).toNat) (λy:Nat=>W.d (.int (y:Int))) A5 (λD=>∃v,D=[v,some (.d (.int (i:Int))),some (.d (.int (j:Int)))]) (λy:Nat=>decide ((y:Int)≠j)) (λy:Nat=>z5 #[[],i,j,y]) (by rw[aZ];show av (by lia:_<=4) '#') #[_,A5] ?_ ?_;rintro y hy an ⟨v,rfl⟩ C hY hN;left;show Do (λh=>?_) (λh=>?_);left;show hY (aD h) #[_,A5];show hN (aJ λz=>z h) #[_,A5];left;show#[by rw[af,af];show av (by lia:_<=200) '#',?_];show ab #[A5,bk++((List.range (zy rm i).toNat).filter λy:Nat=>decide ((y:Int)≠j)).map λy:Nat=>#[[],i,j,y],_,by rw[aP,aK];rfl,?_,by rw[ay,af];lia];intro w hw;rcases aA.mp hw with z | z;show J w z;obtain⟨y,hy,rfl⟩:=aH.mp z;obtain⟨h1,h2⟩:=bK.mp hy;have as:=aL.mp h1;have ad:=be h2;show#[#[by simp,.nil],by change (0:Int)<=i;lia,by change (i:Int)<_;lia,by simp,by change (0:Int)<=j;lia,ac,by change (0:Int)<=y;lia,by change (y:Int)<zy rm i;lia,λz=>ad z.symm];rintro D m2 ⟨rfl,bk,I,rfl,J,U⟩;show hC #[A5,bk,_,_,A5,J,by lia];rintro D m ⟨rfl,bk,O,I,rfl,J,U⟩;left;show r bk J '!'
theorem OC:∀ {n:Nat},b<n->(List.range n).filter (λk=>decide (k=b))=[b]
 | 0,h=>absurd h '!'
 | n+1,h=>by
  rw[List.range_succ,dE];by_cases e:n=b;subst e;have B:(List.range n).filter (λk=>decide (k=n))=[]:=List.filter_eq_nil_iff.mpr λk F=>by have:=aL.mp F;rw[aJ '!'];decide
  rw[B];simp;rw[OC '!',List.filter_cons,aJ e];rfl
def OD{a:AG}{b v:Nat}(B:b<a.length)(F:zy a b≠v):(List.range a.length).filter (λk:Nat=>decide (zy a k≠zy (chg a b v) k))=[b]:=by
 rw[<- OC B];show List.filter_congr λk _=>?_;rw[uz '!' '!' '!'];by_cases e:k=b;subst e;rw[if_pos rfl,aD F,aD rfl];rw[if_neg '!',aJ e,aJ (λz=>z A5)]
noncomputable def Dw (q:AG×List Int):Wi:=Br q.1 (((List.range q.1.length).filter λk:Nat=>decide (zy q.1 k≠zy q.2 k)).headD 0) (zy q.2 (((List.range q.1.length).filter λk:Nat=>decide (zy q.1 k≠zy q.2 k)).headD 0))
def Jt{a:AG}{b v:Nat}(B:b<a.length)(F:zy a b≠v):Dw (a,chg a b v)=Br a b v:=by unfold Dw;rw[OD B F];change Br a b (zy (chg a b v) b)=_;rw[uz '!' '!' '!',if_pos rfl]
def Dx{ks:List (AG×List Int)}(I:uX rm bk)(B:Js rm bk ks){q:AG×List Int}(J:q∈ks):StOk rm q.1/\ui [bk] q.1 q.2=true/\∃b v:Nat,b<rm.length/\(v:Int)<zy rm b/\zy q.1 b≠v/\q.2=chg q.1 b v:=by
 obtain⟨h1,h2⟩:=(B.2 q.1 q.2).mp J;have F:ui [bk] q.1 q.2=true:=by rw[Du];show aD h2
 show#[yG _ _ h1,F,Ep (λb O=>by rw[ao.mp O];show I) _ h1 _ F]
def ZT{ks:List (AG×List Int)}(Y:uX rm bk)(B:Js rm bk ks):(ks.map Dw).Perm (uW rm (ui [bk])):=by
 have I:∀ {q},q∈ks->∃b v:Nat,b<rm.length/\(v:Int)<zy rm b/\q.2=chg q.1 b v/\Dw q=Br q.1 b v:=λ{q} F=>by obtain⟨hS,_,b,v,h1,h2,J,O⟩:=Dx Y B F;show#[b,v,h1,h2,O,?_];have e:=Jt (a:=q.1) (by rw[hS.len];show h1) J;rw[<- O] at e;show e
 show (List.perm_ext_iff_of_nodup ?_ Jm).mpr λx=>?_;rw[cF,bN];show (cF.mp B.1).imp_of_mem λ{q q'} F ab ac z=>ac ?_;obtain⟨b,v,_,_,e1,e2⟩:=I F;obtain⟨U,v',_,_,ad,ag⟩:=I ab;rw[e2,ag] at z;obtain⟨z1,z2,z3⟩:=FS (Dx Y B F).1 (Dx Y B ab).1 z;show Prod.ext z1 ?_;rw[e1,ad,z1,z2,z3];rw[aH,Eo];constructor;rintro⟨q,F,rfl⟩;obtain⟨b,v,h1,h2,J,O⟩:=I F;show#[q.1,((B.2 q.1 q.2).mp F).1,b,h1,v,h2,?_,O];rw[<- J];show (Dx Y B F).2.1;rintro⟨a,ha,b,hb,v,hv,h,rfl⟩;have hS:=yG _ _ ha;have F:(a,chg a b v)∈ks:=(B.2 _ _).mpr #[ha,by rw[Du] at h;show be h];show#[_,F,Jt (by rw[hS.len];show hb) λz=>?_];obtain⟨_,_,U,v',h1,h2,J,O⟩:=Dx Y B F;have e:zy (chg a b v) U=zy (chg a U v') U:=by rw[show chg a b v=chg a U v' from O]
 have hl:=hS.len;rw[uz '!' '!' '!',uz '!' '!' '!',if_pos rfl] at e;by_cases eb:(U:Int)=b;rw[if_pos eb,<- z,<- eb] at e;show J e;rw[if_neg eb] at e;show J e
inductive F_due  (Pn:PN):AU->Nat->AV->Prop
 | i {n:Nat} {R:AV} {rm:AG} {bk:AW} (hR:RoomOk rm) (hp:yK rm<=64) (hB:uX rm bk) (hl:bk.length<=2048) (h:∀w,Dv rm (ui [bk]) w->R (.d (y9 w)) n)  : F_due Pn [.d (stD rm),.d (y9 bk)] n R
def ZU (T:Txt K mg t):FnOk P w K mg base CX0 3 t.f29 t.d29 lg (spV 2 false F_due):=by
 have G24:=ZM (P:=P) (w:=w) (base:=base) T
 show Fun.okW (k:=2) (fr:=false) [2] 5 T.q29.F yR A5 '#' A5 λa2 A outer s H E Pn hr=>#[_,(zf (wS Dr<|Dj (i:=2) yR.nd (BC zd))
   (zf (xf bf A5 (Yv (Ys (wE zo<|yC T.q24 G24 hr (za (kv 0) (za (kv 1) zd))))) (wG uD<|uE (n:=2) K A5 A5 (wH zZ<|zx (wG zK<|zm (i:=3) yR.nd) (wH zZ<|zx (wG zK<|zm (i:=4) yR.nd) (wH uC xo)))) (zf (wS zz<|zO (i:=5) yR.nd (xu C8 Eh (JE.bo (Cf (N:=lI) (A8:=[none,some 3,some 4]) A5 (by fail"c") (wI xa<|ya A5 T.b_range (zn (JE.bo (z6 yW BD (by rfl) T.b_len bA (zn (kb 3) zt))) zt)) (λ_ _ _ _=>(wG zK<|zm (i:=0) (show (lI:AM).Nodup by decide +kernel))) (λ_ _ _ _=>(Di (wT zp<|yb B0 B8 (JE.bo (xu zA z0 (kb 1) (kb 0) '*')) (JE.bo (xu zA z0 (kb 2) (kb 0) '*')) (zI _)))) (λ_ _ _ _=>(kv 0)))) (JE.bo zi) '*'))
   (zf (wS zz<|zO (i:=6) yR.nd (xY yi CZ (by rfl) T.b_tuple bD (zn (JE.bo (Cf (N:=lK) (A8:=[none,some 3,some 5]) A5 (by fail"c") (wI xa<|ya A5 T.b_range (zn (JE.bo (z6 yW BD (by rfl) T.b_len bA (zn (kb 3) zt))) zt)) (λ_ _ _ _=>(wG zK<|zm (i:=0) (show (lK:AM).Nodup by decide +kernel))) (λ_ _ _ _=>(Di (wT zp<|yb B0 B8 (kb 0) (kb 2) (zI _)))) (λ_ _ _ _=>(z9 (za (kv 0) (za (xu zA z0 (kb 1) (kb 0) '*') zd)))))) zt)))
   (zh (wS IO<|Ir 2 (z9 (za (kv 6) (za (kv 5) (za (xu zA z0 (kb 4) (kb 5) '*') (za (xu zA z0 (kb 3) (kb 5) '*') zd))))))))))
   (zh (zC (xY yi CZ (by rfl) T.b_tuple bD (zn (JE.bo (z6 (NJ hr.units) NL (by rfl) T.b_sorted eQ (zn (kb 2) zt))) zt)))))),λws n R hF=>?_]
 obtain @⟨_,_,rm,bk,hR,hp,Y,hl,r⟩:=hF;left;show F_pairs.i hR hp Y hl λks O a3=>?_;left;intro _;have h8:=hR.few;have I:=ZT Y O;have ab:ks.length<=2048:=by have:=I.length_eq;rw[af] at this;rw[this];show Jp hR hp
 show xh ks (λq=>.d (kyP q)) (by rw[aK];rfl) (λi D m=>m=n/\∃v3 v4 v5 v6,D=[some (.d (stD rm)),some (.d (y9 bk)),some (.d (.lst (((ks.take i).map Dw).map z5))),v3,v4,v5,v6]) #[A5,_,_,_,_,A5] ?_ ?_;rintro i q D m hq ⟨rfl,v3,v4,v5,v6,rfl⟩ C B E hC _ _;have ac:=az hq;have a4:=(ai.mp hq).1;obtain⟨hS,_,b,v,hb,hv,J,e⟩:=Dx Y O ac;have ad:=hS.len;obtain⟨a,c⟩:=q;dsimp only at hS ad J e;subst e;have a5:(chg a b v).length=a.length:=GW '!' '!';unfold kyP;left;rw[af];show#[#[by lia,by lia],?_];rw[bg,Eb];show FJ (List.range a.length) (λk:Nat=>W.d (.int (k:Int))) A5 (λD=>∃U,D=[U,some (.d (stD a)),some (.d (stD (chg a b v)))]) (λk:Nat=>decide (zy a k≠zy (chg a b v) k)) (λk:Nat=>.int (k:Int)) (by rw[aZ];show av (by lia:a.length<=8) '#') #[_,A5] ?_ ?_;rintro k hk ag ⟨U,rfl⟩ C hY hN;have al:=aL.mp hk;left;show onA '!' '!' ?_;left;show onA '!' '!' ?_;left;show Do (λh=>?_) (λh=>?_);show hY (aD h) #[_,A5];show hN (aJ λz=>z h) #[_,A5];rw[OD '!' J];left;rw[show atI (List.map (λk:Nat=>Dt.int (k:Int)) [b]) 0=some (Dt.int (b:Int)) from rfl];left;rw[af];show#[#[by lia,by lia],?_];rw[bg,Eb];show FJ (List.range a.length) (λk:Nat=>W.d (.int (k:Int))) A5 (λD=>∃U,D=[U,some (.d (stD a)),some (.d (.int (b:Int)))]) (λk:Nat=>decide ((k:Int)≠b)) (λk:Nat=>yp ((k:Int),zy a k)) (by rw[aZ];show av (by lia:a.length<=8) '#') #[_,A5] ?_ ?_;rintro k hk ag ⟨U,rfl⟩ C hY hN;have al:=aL.mp hk;left;show Do (λh=>?_) (λh=>?_);left;show onA '!' '!' ?_;left;show hY (aD h) #[_,A5];show hN (aJ λz=>z h) #[_,A5];rw[show ((List.range a.length).filter λk:Nat=>decide ((k:Int)≠b)).map (λk:Nat=>yp ((k:Int),zy a k))=(BP a b).map yp by unfold BP;rw[aK];rfl];left;show onA '!' '!' ?_;rw[uz '!' '!' '!',if_pos rfl];left;show onA '!' '!' ?_;left;show#[by rw[af,af,bi];show bR (by lia:_<=2048) '#',?_];show hC #[A5,some (.d (stD a)),some (.d (stD (chg a b v))),some (.d (.int (b:Int))),some (.d (Bi (BP a b))),?_];rw[zj hq,aP,aP,ax,dU,ax,dU,Jt '!' J];rfl;rintro D m ⟨rfl,v3,v4,v5,v6,rfl⟩;rw[bC];left;have an:(uW rm (ui [bk])).Nodup:=Jm;have as:uX rm (ks.map Dw):=λw hw=>Jl (Ep λb hb=>by rw[ao.mp hb];show Y) w (I.mem_iff.mp hw);show#[by rw[af,af];show av ab '#',#[_,Ov as (I.symm.nodup an)],λl' a0 a1=>?_];left;obtain⟨w,rfl,hw⟩:=Jn a0;show r w #[hw.trans I,a1]
def ZV{B:Type}{BA:Prop}(C:α->B->Prop)(P:α->B->Prop)(h:(∀a b,C a b->P a b)->BA)(r:∀a b,C a b->P a b):BA:=h r
def ZW (T:Txt K mg t)(O:base.BuiltinsAt mg t.PT):FnOk P w K mg base CX0 8 t.f30 t.d30 lm (El K t.PT):=by
 have Jr:=ZA (P:=P) (w:=w) (base:=base) T;have G15:=Zy (P:=P) (w:=w) (base:=base) T;have G0:FnOk P w K mg base CX0 1 t.f0 t.d0 lm (EN K):=Y9 T;have G1:=z7 (P:=P) (w:=w) (base:=base) T;have G16:=ZB (P:=P) (w:=w) (base:=base) T;have G17:=ZC (P:=P) (w:=w) (base:=base) T;have G18:=Oy (P:=P) (w:=w) (base:=base) T;have G19:=uZ (P:=P) (w:=w) (base:=base) T;have G23:=ZK (P:=P) (w:=w) (base:=base) T;have G25:=ZP (P:=P) (w:=w) (base:=base) T;have G27:=ZR (P:=P) (w:=w) (base:=base) T;have G28:=ZS (P:=P) (w:=w) (base:=base) T;have G29:=ZU (P:=P) (w:=w) (base:=base) T
 show XT (S:=[]) (k:=7) (r:=12) (lq:=(PyProof.Rows.envOfC "law" (zb C1) 0 0 .none).qual ++ "<lambda>") [] T.q30.F xg A5 A5 '#' λb2 A outer s H E Pn I al=>#[_,_,_,A5,(xF (i:=1) xg.nd A5 (Or.inl A5) (KJ T.q0 G0 I (zB (qv 0) yu))),(zf (xf bf A5 (wI xa<|ya A5 T.b_range (zn (JE.bo zi) zt)) (wG zK<|zm (i:=2) xg.nd) (zf (wS zz<|zO (i:=3) xg.nd (wE zo<|yC T.q16 G16 I (za (kv 1) (za zi zd))))
   (zf (Ip (wE zo<|yC T.q23 G23 I (za (kv 1) (za (kv 3) zd))) (wG uD<|uE (n:=2) K A5 A5 (wH zZ<|zx (wG zK<|zm (i:=4) xg.nd) (wH zZ<|zx (wG zK<|zm (i:=5) xg.nd) (wH uC xo)))))
   (zf (wS zT<|xx (wT zp<|yb BZ B7 (JE.bo (wE zo<|yC T.q1 G1 I (za (kv 1) (za zi zd)))) (JE.bo zi) (zI _)) (zh (wS zz<|zO (i:=4) xg.nd (wE zo<|yC T.q28 G28 I (za (kv 3) zd)))) zS)
   (zf (wS zz<|zO (i:=6) xg.nd (wE zo<|yC T.q29 G29 I (za (kv 3) (za (kv 4) zd))))
   (zf (wS zz<|zO (i:=7) xg.nd (wE zo<|yC T.q15 G15 I (za (kv 3) (za (kv 4) zd))))
   (zf (wS zT<|xx (JW.t (wW uI<|BT (wT yM<|xA (wT zp<|yD (JE.bo (wE zo<|yC T.q25 G25 I (za (kv 7) (za (kv 6) zd)))))) (uh (.inr A5) (wT yM<|xA (wT zp<|yD (JE.bo (z6 (GE A5) IM (by rfl) T.b_all fT (zn (JE.bo (Cf (N:=lP) (A8:=[none,some 3]) A5 (by fail"c") (wI uH<|Cq K A5 (kv 7)) (λ_ _ _ _=>(wG zK<|zm (i:=0) (show (lP:AM).Nodup by decide +kernel))) (λ_ _ _ _=>xZ) (λ_ _ _ _=>(wE zo<|yC T.q27 G27 I (za (kv 1) (za (kv 0) zd)))))) zt)))))))) (zh (zC BN)) zS)
   (zf (xf bf A5 (wI Dq<|Dg K A5 (BC (za (wE WY<|Vp (kb 4)) (za (Bb yO uq (kb 4) (JE.bo (wE xM<|B4 (kb 4) xK (wO yU<|xL (JE.bo zi))))) (za (kv 7) zd))))) (wG zK<|zm (i:=8) xg.nd) (zh (wS zT<|xx (wT yM<|xA (wT zp<|yD (JE.bo (wE zo<|yC T.q25 G25 I (za (wE zo<|yC T.q15 G15 I (za (kv 3) (za (kv 8) zd))) (za (kv 6) zd)))))) (zh (zC BN)) zS)))
   (zf (wS zz<|zO (i:=9) xg.nd (wE zo<|yC T.q17 G17 I (za (kv 1) zd)))
   (zf (Ip (wE zo<|yC T.q18 G18 I (za (kv 1) (za (kv 9) zd))) (wG uD<|uE (n:=3) K A5 A5 (wH zZ<|zx (wG zK<|zm (i:=10) xg.nd) (wH zZ<|zx (wG zK<|zm (i:=11) xg.nd) (wH zZ<|zx (wG zK<|zm (i:=12) xg.nd) (wH uC xo))))))
   (zf (wS zz<|zO (i:=13) xg.nd (wE xM<|B4 (JE.bo (z9 (za (z9 (za (wE zo<|yC T.q19 G19 I (za (kv 1) (za (kv 9) (za (kv 10) (za zi zd))))) (za (kv 10) (za (kv 11) (za (kv 12) zd))))) zd))) xK (wO yU<|xL (JE.bo (wE zo<|yC T.q1 G1 I (za (kv 1) (za zi zd)))))))
   (zf (wS zz<|zO (i:=13) xg.nd (xu C8 Eh (JE.bo (BC (za (kv 13) (za UX (za (BC zd) (za zi zd)))))) (JE.bo (wE zo<|yC T.q1 G1 I (za (kv 1) (za zi zd)))) '*'))
   (zh (wS zT<|xx (wT yM<|xA (wT zp<|yD (JE.bo (XR (N:=["_law_great_here","_law_more"]) (A8:=[some 9,some 13]) (k:=5) A5 (λ_=>rfl) (Zh T) I '#' T.q5.m T.q5.F.kp (by fail"c") '#' A5 A5 T.lam O (al.symm.trans T.lamc) A5 (λ_ _ _ _=>rfl) T.q15 Jr '#' A5 (λ_ _ _ _ _ _ _ _ b4=>(za (kv 0) (za (kv 1) zd))))))) (zh (zC BN)) zS))))))))))))))
   (zh (zC (Ce (ER I.units) FG (JE.bo (wE zo<|yC T.q15 G15 I (za (z9 (za zi (za zi zd))) (za (z9 zd) zd)))) (JE.bo (z9 zd)) (zI _))))),λp c ns an=>?_]
 subst an;have Y:IsQ #[some (p,c,ns),BF t.PT ((PyProof.Rows.envOfC "law" (zb C1) 0 0 .none).qual ++ "<lambda>")] p:=#[#[_,_,A5],XU];have hJ:(#[some (p,c,ns),BF t.PT ((PyProof.Rows.envOfC "law" (zb C1) 0 0 .none).qual ++ "<lambda>")]:PN).J=BF t.PT ((PyProof.Rows.envOfC "law" (zb C1) 0 0 .none).qual ++ "<lambda>"):=rfl;generalize (#[some (p,c,ns),BF t.PT ((PyProof.Rows.envOfC "law" (zb C1) 0 0 .none).qual ++ "<lambda>")]:PN)=Pn at Y hJ;show W7 ?_;left;show#[#[by lia,by lia],CV (λi D m=>m<=2000*i/\i<=3/\∃v2 v3 v4 v5 v6 v7 v8 v9 va vb vc vd,D=[none,some (.pen p),v2,v3,v4,v5,v6,v7,v8,v9,va,vb,vc,vd]) #[by lia,by lia,_,_,_,_,_,_,_,_,_,_,_,_,A5] ?_ ?_]
 ·rintro i D m hi ⟨hm,as,v2,v3,v4,v5,v6,v7,v8,v9,va,vb,vc,vd,rfl⟩ C B E hC _ _;left;show F_mkR.i Y A5 λrm m1 hR hp b5=>?_;left;show F_book.i Y hR λbk b x y m2 O hl b0 b1 x0 x1 y0 y1 b6 b7=>?_;left;have ac:∀ {bk:AW},uX rm bk->∀w∈bk,w.g.length<=100000:=λO w hw=>av (GV (O w hw).giv hR.few) '#';refine' ZV (λ(bk:AW) (m3:Nat)=>uX rm bk/\bk.length<=128/\m3<=m+1000) _ (λzu=>?_) ?_;rotate_left;show tk Y λu u0 u1=>?_;left;show Cj (λ_=>?_) (λ_=>?_);left;show F_kinds.i hR λa0 a1 a2=>?_;left;generalize ad:m2+1=m4;show zu a0 m4 #[a1,a2,by lia];left;generalize ad:m2+1=m4;show zu bk m4 #[O,by lia,by lia];clear O hl;rintro bk m3 ⟨O,hl,b8⟩;have a3:∀ {x:AW},uX rm x->∀b∈[x],uX rm b:=λhx b hb=>by rw[ao.mp hb];show hx
  left;show F_due.i hR hp O '!' λdu hd=>?_;obtain⟨ab,a4⟩:=Zu (a3 O) hd;have a5:du.length<=2048:=by rw[hd.1.length_eq];show Jp hR hp
  left;show F_full.i hR hp O λw1 a7=>?_;obtain rfl:w1=du:=Ow a7 hd λ_ _ _ _=>rfl;left;show#[_,A5,OB '!' (ac ab),?_];left;show Ei w1 (λx=>.d (z5 x)) (by rw[aK];rfl) (λD=>∃v,D=[v,some (.d (stD rm))]) (λ_=>.bl true) (av a5 '#') #[_,A5] ?_ ?_;rintro x hx ca ⟨v,rfl⟩ C hC;left;show F_isW.i hR (ab x hx) ?_;left;show hC #[_,A5];left;show#[w1.map λ_=>true,by rw[aK];rfl,?_];rw[show (w1.map λ_=>true).all id=true by rw[List.all_map];simp];left;have bb:uv (bk.map z5) none (some 9)=(bk.take 9).map z5:=by rw[show (9:Int)=((9:Nat):Int) from rfl,ML,List.map_take]
  rw[bb];show#[by rw[af,af,bi];show av (by lia:_<=300) '#',?_];left
  have l3:∀z∈[bk.reverse,bk++bk.take 9,w1],uX rm z/\∀a∈yg (rm.map zl),∀c,c∈ux z a []↔c∈ux bk a []:=λz hz=>by
   have ag:(∀x,x∈z↔x∈bk)->uX rm z/\∀a∈yg (rm.map zl),∀c,c∈ux z a []↔c∈ux bk a []:=λh=>
    #[λx hx=>O x ((h x).mp hx),λa _ c=>by rw[DR,DR];show exists_congr λx=>and_congr_left λ_=>h x]
   simp only[au,ck,or_false] at hz;rcases hz with rfl | rfl | rfl;show ag λx=>di;show ag λx=>by rw[aA];show#[λh=>h.elim id bH,.inl]
   show#[ab,λa ha c=>by rw[a4 a ha c,Du,b9]]
  show xh [bk.reverse,bk++bk.take 9,w1] (λz=>.d (y9 z)) (by simp[y9]) (λk D m'=>m'=m3/\∃v8,D=[none,some (.pen p),some (.d (.int (i:Int))),some (.d (stD rm)),some (.d (y9 bk)),some (.d (.tup [.int b,.int x,.int y])),some (.d (y9 w1)),some (.d (y9 w1)),v8,v9,va,vb,vc,vd]) #[A5,_,A5] ?_ ?_;rintro k z D m' hz ⟨rfl,v8,rfl⟩ C2 B2 E2 bc _ _;obtain⟨bd,bm⟩:=l3 z (az hz);left;show F_full.i hR hp bd λw2 bs=>?_;obtain rfl:w2=w1:=Ow bs hd λa ha c _=>by rw[Du,Du,bS,b9,b9];show bm a ha c
  left;show#[_,A5,OB '!' (ac ab),?_];left;show bc #[A5,_,A5];rintro D m' ⟨rfl,v8,rfl⟩;left;show F_great.i Y λbt U bx=>?_;left;show F_kind.i Y U λb3 x3 y3 cd ch ci cn co cu _=>?_;left;show F_mkGv.i Y U '!' '!' λg m4 hG _ ad=>?_;left;show tk Y λu u0 u1=>?_;left;show tk Y λe e0 e1=>?_;left;show IC (L:=[_,_,_,_]) e0 e1 λd hd=>?_;left;show#[hJ,#[A5,A5,bt,d,A5,U.box,bx],?_];left;show hC #[by lia,by lia,_,_,_,_,_,_,_,_,_,_,_,_,A5]
 rintro D m ⟨hm,as,v2,v3,v4,v5,v6,v7,v8,v9,va,vb,vc,vd,rfl⟩;left;have U:RoomOk [2,2]:=#[by ext,by ext,by ext];show F_full.i (rm:=[2,2]) (b:=[]) U '#' (by intro x hx;simp at hx) λw hw=>?_;have e0:w=[]:=List.eq_nil_iff_forall_not_mem.mpr λx hx=>by obtain⟨st,_,b,_,v,_,h,_⟩:=Eo.mp (hw.1.mem_iff.mp hx);rw[Du] at h;obtain⟨w,hw,_⟩:=DR.mp (be h);cases hw
 subst e0;left;show#[(eqW (bk:=[])).2,(eqW (bk:=[])).2,λc hc=>?_];obtain rfl:c=true:=hc.mpr A5;rfl
end
def Dm{h:Heap}{mg:AI}{x:Str}{st:Stmt}{f:Addr}{J kV dc F B:Value}{O I:Option Addr}(X:K.In h)(BA:h.Ns mainGlobals mg)(a:PySem.W.nsIn K mainGlobals x=some (some (.ref f)))(l:K.lookup f=some #[J,O,.func (PySem.W.fnOf x x (yH st) (zE st) (zb st) .none kV dc F I B ct),U])(c:PySem.W.codeIn K B x=true)(k:PySem.W.keepIn K (.ref f)=true)(b:∀kV dc F I B ct us,us.length=ps.length->bindArgs (PySem.W.fnOf x x (yH st) (zE st) (zb st) .none kV dc F I B ct) #[us,[]]=pure (ps.zip us)):Dfn K mg x st ps f (PySem.W.fnOf x x (yH st) (zE st) (zb st) .none kV dc F I B ct):=#[Kq l c k,(Kq l c k).binds b,eA X BA a]
def DmD{h:Heap}{mg:AI}{x:Str}{st:Stmt}{ds:AN}{f T:Addr}{Y kV dc I F ot:Value}{J O:Option Addr}{B:AK}(X:K.In h)(BA:h.Ns mainGlobals mg)(a:PySem.W.nsIn K mainGlobals x=some (some (.ref f)))(l:K.lookup f=some #[Y,od,.func (PySem.W.fnOf x x (yH st) (zE st) (zb st) (.ref T) kV dc I J F ct),sl])(c:PySem.W.codeIn K F x=true)(k:PySem.W.keepIn K (.ref f)=true)(t:K.lookup T=some #[ot,O,.seq B n2,U])(b:∀us:AN,(us++[]).length=ps.length->∃k:Option AK->Sem (List (Str×Value)),bindArgs (PySem.W.fnOf x x (yH st) (zE st) (zb st) (.ref T) kV dc I J F ct) #[us,[]]=seqItems? (.ref T) >>= k/\k (some B)=pure (ps.zip (us++[])))(e:∀us:AN,(us++ds).length=ps.length->∃k:Option AK->Sem (List (Str×Value)),bindArgs (PySem.W.fnOf x x (yH st) (zE st) (zb st) (.ref T) kV dc I J F ct) #[us,[]]=seqItems? (.ref T) >>= k/\k (some B)=pure (ps.zip (us++ds))):DfnD K mg x st ps ds f (PySem.W.fnOf x x (yH st) (zE st) (zb st) (.ref T) kV dc I J F ct):=#[Ub l c k,LV l A5 t b,LV l A5 t e,eA X BA a]
def Mm(X:K.In h)(BA:h.Ns mainGlobals mg)(a:PySem.W.nsIn K mainGlobals x=some (some (.ref C)))(e:C=BB):mg x=some (.ref BB):=e ▸ eA X BA a
def Ym{i:Int}(X:K.In h)(BA:h.Ns mainGlobals mg)(a:PySem.W.nsIn K mainGlobals x=some (some (.int i u))):∃v,ye (.int i) v/\mg x=some v:=#[_,#[_,A5],eA X BA a]
def fin{l:PySem.W.OpenLaw}{mg:AI}{fa:Addr}{t:Ad}(B:mg "law" = some (.ref fa))(T:Txt K mg t)(b:∀ (s:AZ) (v:Value),BindsTo s t.d30 #[[v],[]] [("_law_script",v)]):∃fd:Ac,(∀ (s:AZ) (v:Value),BindsTo s fd #[[v],[]] [("_law_script",v)])/\(∀h:Heap,K.In h->∃c,PySem.W.CodeHd h c t.PT)/\∀base:Heap,K.In base->base.Ns mainGlobals mg->base.BuiltinsAt mg t.PT->FnOk l.prog w K mg base CX0 8 fa fd lm (El K t.PT):=by have e:=B.symm.trans T.q30.m;cases e;show#[_,b,λh X=>#[_,T.lam.hd h X],λbase _ _ F=>ZW T F]
def walk{l:PySem.W.OpenLaw}{q:Aa}{B:AM}{d:DefRec}{K:Params->AH}(O:l.most=some 63)(I:d.params.defaults=[])(U:∀ (w:Ab) (h:Heap),YP w h->(K w.params).In h/\h.get? T=some (PySem.W.tabObj #v[]))(J:∀w:Ab,(K w.params).lookup T=none)(F:∀ (w:Ab) (mg:AI) (fa:Addr) (h:Heap),(K w.params).In h->h.Ns mainGlobals mg->mg d.name=some (.ref fa)->
   ∃fd:Ac,(∀s u,BindsTo s fd #[[u],[]] [("_law_script",u)])/\(∀h:Heap,(K w.params).In h->∃c,PySem.W.CodeHd h c T)/\∀base:Heap,(K w.params).In base->base.Ns mainGlobals mg->base.BuiltinsAt mg T->FnOk l.prog w (K w.params) mg base CX0 8 fa fd lm (El (K w.params) T)):
  PySem.W.WalkO q B XP YP l.row.toRowW d [] (λf vs=>PySem.call f vs):=
 L2.b_ (T:=T) (n:=63) (k:=8) (x := "_law_script") (CX:=λ_=>CX0) (sp:=λw=>El (K w.params) T) O '#' I #[A5,by ext,by ext,rfl] U J F (λ_ _ a ns Y hO hS=>#[a,ns,A5,hS,Y,hO,λ_ h=>#[A5,h]]) λ_ _ _ _ _ z=>z
end Law
end
open PySem PySem.W PyProof.Rows
theorem PySem.W.Fast.te13052408679150730464:True:=.intro
theorem PySem.W.Fast.te13590782946482404596:True:=.intro
set_option maxRecDepth 100000 in
set_option maxHeartbeats 0 in
theorem PySem.Challenge.cw_allelse_k54_full_books_holds : PySem.Challenge.rw_allelse_k54_full_books.Holds := by
 w_on;refine holds_law (by decide +kernel) λ_=>?_;k_head;(case hw=>w_witness2)
 k_fill
 refine Law.walk (l:=PySem.Challenge.rw_allelse_k54_full_books) rfl rfl (λw h Y=>⟨PySem.W.km_in_of Y,PySem.W.km_tabs_of Y _ (List.mem_singleton.mpr rfl)⟩) ?KT ?F
 (case KT=>intro w;rfl)
 case F=>
  intro w mg fa h KX G O;refine' Law.fin (t:=⟨_,_,_,_,_,_,_,_,_,_,_,_,_,_,_,_,_,_,_,_,_,_,_,_,_,_,_,_,_,_,_,_,_,_,_,_,_,_,_,_,_,_,_,_,_,_,_,_,_,_,_,_,_,_,_,_,_,_,_,_,_,_,_,_,_,_,_,_,_,_,_,_,_,_,_⟩) O ⟨?D0,?D1,?D2,?D3,?D4,?D5,?D6,?D7,?D8,?D9,?D10,?D11,?D12,?D13,?D14,?D15,?D16,?D17,?D18,?D19,?D20,?D21,?D22,?D23,?D24,?D25,?D26,?D27,?D28,?D29,?D30,?z_ValueError,?z_sorted,?z_tuple,?z_range,?z_all,?z_isinstance,?z_len,?z_list,?z_bool,?z_int,?z_enumerate,?z_abs,?z_str,?J,?m_TooMany,?m_WishError,?m_HasRing,?m_IsBetter,?m_NotSettled,?m_NotKept,?m_NoWish,?m_NoBook,?m_NoText,?m_Full,?B,?er,?xc,?lam,?lamc,?y_MOST_OF_SMALL⟩ λs v=>?b
  (case D0 | D1 | D2 | D3 | D4 | D5 | D6 | D7 | D8 | D9 | D11 | D12 | D13 | D14 | D15 | D16 | D17 | D18 | D19 | D20 | D21 | D22 | D23 | D24 | D25 | D26 | D27 | D28 | D29 | D30=>(dsimp only;refine' Law.Dm (by assumption) (by assumption) ?da ?dl ?dc ?dk ?db;(case da=>k_is);(case dl=>k_is);(case dc=>k_is);(case dk=>k_is);(case db=>(intro _ _ _ _ _ _ us I;first | (obtain⟨_,e⟩:=L2.us_1 I;subst e;rfl) | (obtain⟨_,_,e⟩:=L2.us_2 I;subst e;rfl) | (obtain⟨_,_,_,e⟩:=L2.us_3 I;subst e;rfl) | (obtain⟨_,_,_,_,e⟩:=L2.us_4 I;subst e;rfl)))))
  (case D10=>(dsimp only;refine' Law.DmD (by assumption) (by assumption) ?da ?dl ?dc ?dk ?dt ?db ?U;(case da=>k_is);(case dl=>k_is);(case dc=>k_is);(case dk=>k_is);(case dt=>k_is);(case db=>(intro us I;first | (obtain⟨_,_,_,_,e⟩:=L2.us_4 (show us.length=4 by rw[List.append_nil] at I;exact I);subst e;exact⟨_,rfl,rfl⟩)));(case U=>(intro us I;first | (obtain⟨_,_,_,e⟩:=L2.us_3 (show us.length=3 by rw[List.length_append] at I;exact Nat.succ.inj I);subst e;exact⟨_,rfl,rfl⟩)))))
  (case z_ValueError | z_sorted | z_tuple | z_range | z_all | z_isinstance | z_len | z_list | z_bool | z_int | z_enumerate | z_abs | z_str | J=>(refine' PySem.W.mg_none_of (by assumption) (by assumption) ?dz;(case dz=>k_is)))
  (case y_MOST_OF_SMALL=>(refine' Law.Ym (by assumption) (by assumption) ?dz;(case dz=>k_is)))
  (case m_TooMany | m_WishError | m_HasRing | m_IsBetter | m_NotSettled | m_NotKept | m_NoWish | m_NoBook | m_NoText | m_Full | B=>(dsimp only;refine' Law.Mm (by assumption) (by assumption) ?dz ?dy;(case dz=>k_is);(case dy=>exact rfl)))
  (case er=>(dsimp only;refine' ⟨⟨?e1,?e2,?e3,?e4⟩,⟨?f1,?f2,?f3,?f4⟩,PySem.W.mg_of (by assumption) (by assumption) ?g1,PySem.W.mg_of (by assumption) (by assumption) ?g2,?g3,?g4,?g5,?g6⟩;all_goals (first | k_is | kernel_rfl)))
  (case xc=>(dsimp only;refine' ⟨PySem.W.mg_of (by assumption) (by assumption) ?h1,?h2⟩;all_goals (first | k_is | kernel_rfl)))
  (case lamc=>rfl)
  (case lam=>(dsimp only;exact⟨λh X=>PySem.W.codeHd_of_K X (by kernel_rfl),by decide⟩))
  (case b=>exact .of_eq rfl)


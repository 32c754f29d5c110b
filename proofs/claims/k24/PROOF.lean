import PyProof.Rows.All
import Wide.All
import OpenK.AllK
import Wide.FinOn
import Lean
import PyProof.EqAt
import PyProof.EqKinds
import PyProof.TupleCall
import PySem.Challenge.RW_allelse_k24_worths_known
local macro_rules | `(tactic| walk_at "v") => `(tactic| (first | exact Or.inl rfl | exact Or.inr (Or.inl rfl) | exact Or.inr (Or.inr rfl)))
local macro_rules | `(tactic| walk_at "l") => `(tactic| (first | exact Or.inl rfl | exact Or.inr rfl | assumption))
local macro_rules | `(tactic| walk_at "f") => `(tactic| (exact ⟨rfl, rfl, rfl, by decide +kernel, rfl, by decide +kernel, by decide +kernel⟩))
local macro_rules | `(tactic| walk_at "c") => `(tactic| (exact ⟨rfl, by decide +kernel, rfl⟩))
set_option Elab.async false
set_option linter.all false
set_option maxRecDepth 100000
set_option maxHeartbeats 4000000
namespace L2
open PySem PySem.Spec PyProof.Rows
abbrev aa:=@wpAny_bind
abbrev ab:=@List.length_map
abbrev ac:=@List.getElem?_eq_some_iff
abbrev ae:=@wpAny_pure
abbrev af:=@Heap.get?_push_of_some
abbrev ah:=@List.getElem?_eq_getElem
abbrev ai:=@Nat.le_refl
abbrev aj:=@List.mem_of_getElem?
abbrev ak:=@List.mem_cons_self
abbrev am:=@List.getElem?_map
abbrev ao:=@List.mem_cons_of_mem
abbrev aq:=@Heap.get?_push_size
abbrev ar:=@List.getElem?_set_ne
abbrev au:=@List.map_map
abbrev aw:=@List.mem_singleton
abbrev ax:=@Heap.lt_size
abbrev ay:=@Nat.le_trans
abbrev az:=@List.mem_map
abbrev aA:=@List.length_range
abbrev aB:=@Option.map_eq_some_iff
abbrev aC:=@List.map_cons
abbrev aD:=@List.length_append
abbrev aE:=@List.map_append
abbrev aF:=@PassesOwn.never
abbrev aG:=@List.mem_cons
abbrev aH:=@List.mem_append
abbrev aI:=@Bool.false_ne_true
abbrev aJ:=@Nat.ne_of_lt
abbrev aK:=@List.take_length
abbrev aL:=@List.mem_append_right
abbrev aM:=@List.getElem?_set_self
abbrev aN:=@Nat.zero_le
abbrev aO:=@Int.toNat_natCast
abbrev aP:=@Nat.lt_of_le_of_lt
abbrev aQ:=@List.length_take
abbrev aR:=@wpAny_call_entry
abbrev aS:=@List.length_cons
abbrev aT:=@Bool.false_eq_true
abbrev aU:=@wpAny_mono
abbrev aV:=@List.size_toArray
abbrev aW:=@List.mem_range
abbrev aX:=@Array.length_toList
abbrev aY:=@PySem.F.slot_dict_keyiterator_next
abbrev aZ:=@PySem.boot_len
abbrev a6:=@Nat.lt_of_lt_of_le
abbrev a8:=@List.getElem?_append_left
abbrev a9:=@decide_eq_true
abbrev ba:=@decide_eq_false
abbrev bc:=@List.length_set
abbrev be:=@wpAny_holding
abbrev bf:=@wpAny_newObj_type
abbrev bg:=@List.getElem?_append_right
abbrev bh:=@List.eq_nil_of_length_eq_zero
abbrev bi:=@Heap.get?_update_self
abbrev bj:=@List.dropLast_concat_getLast
abbrev bm:=@wpAny_askSetting
abbrev bp:=@wpAny_setState_of
abbrev bq:=@List.getD_eq_getElem?_getD
abbrev br:=@Heap.SameBut.update
abbrev bt:=@List.getElem?_cons_succ
abbrev bu:=@PyProof.Rows.boot_tuple
abbrev bv:=@List.mem_filter
abbrev bw:=@Option.some.inj
abbrev bz:=@List.mem_iff_getElem
abbrev bA:=@wpAny_field
abbrev bB:=@Heap.get?_update_other
abbrev bC:=@PyProof.Rows.callWith_type1
abbrev bD:=@wpAny_setField
abbrev bE:=@List.mem_append_left
abbrev bF:=@List.getElem_range
abbrev bG:=@PySem.W.kia_one
abbrev bH:=@List.find?_cons
abbrev bI:=@Array.getElem?_eq_getElem
abbrev bJ:=@Classical.byContradiction
abbrev bK:=@PySem.F.args_dict_keyiterator_next_1
abbrev bL:=@Heap.size_push
abbrev bM:=@wpAny_standAt
abbrev bN:=@Bool.and_eq_true
abbrev bO:=@List.getElem_mem
abbrev bP:=@List.not_mem_nil
abbrev bQ:=@sizeLine_eq
abbrev bR:=@PySem.F.entry_dict_keyiterator_next
abbrev bS:=@List.pairwise_map
abbrev bT:=@List.nodup_cons
abbrev bU:=@Obj.data_mapFields
abbrev bV:=@PySem.F.plainAttrs_list
abbrev bW:=@Array.getD_eq_getD_getElem?
abbrev bX:=@List.mem_of_mem_take
abbrev bY:=@List.take_of_length_le
abbrev bZ:=@List.filterMap_cons
abbrev b4:=@wpAny_truthy_bool
abbrev b5:=@List.reverse_cons
abbrev b6:=@List.append_assoc
abbrev b7:=@of_decide_eq_true
abbrev b8:=@List.pairwise_iff_getElem
abbrev b9:=@Bool.eq_iff_iff
abbrev cb:=@Int.emod_lt_of_pos
abbrev ce:=@List.pairwise_cons
abbrev cg:=@List.getElem_inj
abbrev ci:=@wpAny_typeNameOfWhole_keyiter
abbrev cj:=@Nat.le_of_lt
abbrev ck:=@wpAny_seqItems
abbrev cm:=@PyProof.Rows.F.plain_set_update_loop
abbrev cq:=@Nat.lt_trichotomy
abbrev cr:=@List.nodup_append
abbrev cu:=@Nat.not_lt_zero
abbrev cv:=@F.slot_zip_next
abbrev cw:=@F.slot_tuple_iterator_next
abbrev cx:=@Array.getElem?_eq_some_iff
abbrev cy:=@List.all_eq_true
abbrev cz:=@wpAny_isInstance
abbrev cA:=@Nat.lt_irrefl
abbrev cB:=@List.any_cons
abbrev cC:=@wpAny_typeOf
abbrev cD:=@wpAny_attempt
abbrev cE:=@Nat.pow_le_pow_right
abbrev cF:=@Around.under_plainId
abbrev cG:=@wpAny_passesOwn
abbrev cH:=@Int.emod_nonneg
abbrev cI:=@Nat.le_of_lt_succ
abbrev cJ:=@Nat.lt_succ_iff_lt_or_eq
abbrev cK:=@AutoSeq1.wpAny_loadPart'
abbrev cL:=@PySem.mem_of_lookup
abbrev cN:=@List.all_cons
abbrev cO:=@List.replicate_succ
abbrev cP:=@Int.mul_le_mul_of_nonneg_left
abbrev cQ:=@List.mem_filterMap
abbrev cR:=@List.filter_append
abbrev cS:=@Int.natCast_nonneg
abbrev cT:=@Obj.isFreed_of_fields
abbrev cU:=@codeAny_builtin
abbrev cV:=@wpAny_pyIter_list
abbrev cW:=@Nat.lt_succ_of_lt
abbrev cY:=@List.count_append
abbrev cZ:=@Array.getElem_toList
abbrev c5:=@Nat.add_le_add_right
abbrev c6:=@Int.mul_le_mul
abbrev c7:=@isSubtype_stop
abbrev c8:=@PyProof.Rows.F.entry_set_update_loop
abbrev c9:=@List.drop_eq_getElem_cons
abbrev da:=@List.getElem_map
abbrev db:=@Nat.le_succ
abbrev de:=@List.map_congr_left
abbrev dg:=@List.filter_eq_self
abbrev dh:=@Nat.ne_of_gt
abbrev di:=@List.getElem?_take_of_lt
abbrev dj:=@PySem.F.args_tuple_add_2
abbrev dl:=@PyProof.Rows.boot_sorted
abbrev dn:=@PySem.F.entry_tuple_add
abbrev dq:=@List.pairwise_singleton
abbrev dr:=@codeAny_of_tree
abbrev du:=@Array.append_empty
abbrev dw:=@Option.bind_eq_some_iff
abbrev dy:=@List.filter_cons_of_pos
abbrev dz:=@List.filter_cons_of_neg
abbrev dA:=@wpAny_pyNext_list_item
abbrev dB:=@PySem.F.slot_tuple_add
abbrev dC:=@PyProof.Rows.boot_list
abbrev dD:=@List.take_sublist
abbrev dE:=@List.flatten_cons
abbrev dF:=@call_meets
abbrev dG:=@wpAny_rule
abbrev dH:=@Obj.cls_mapFields
abbrev dJ:=@List.ext_getElem?
abbrev dL:=@wpAny_pyIter_enum
abbrev dM:=@F.args_zip_next_1
abbrev dN:=@List.getElem_take
abbrev dO:=@wpAny_pyNext_list_end
abbrev dP:=@codeAny_mono
abbrev dQ:=@List.map_nil
abbrev dR:=@List.length_singleton
abbrev dS:=@builtinLookup_eq_fast
abbrev dU:=@List.take_append_drop
abbrev dW:=@PyProof.Rows.boot_abs
abbrev dX:=@List.nodup_range
abbrev dY:=@F.entry_zip_next
abbrev dZ:=@wpAny_pyIter_zip
abbrev ee:=@Array.mem_toList_iff
abbrev eh:=@Paired.length
abbrev ei:=@F.args_tuple_iterator_next_1
abbrev el:=@Bool.and_true
abbrev eo:=@Nat.mod_lt
abbrev er:=@wpAny_execs_nil
abbrev et:=@List.append_nil
abbrev eu:=@wpAny_specialOf
abbrev eA:=@beq_eq_false_iff_ne
abbrev eC:=@List.forIn_cons
abbrev eD:=@F.entry_tuple_iterator_next
abbrev eE:=@PySem.W.kqd_eqv
abbrev eF:=@Int.natCast_mul
abbrev eG:=@Heap.get?_update_ne
abbrev eI:=@wpAny_setEntries_of
abbrev eJ:=@Int.toNat_of_nonneg
abbrev eK:=@wpAny_pyIter_tuple
abbrev eL:=@wpAny_Call_Name_kw
abbrev eM:=@List.filterMap_map
abbrev eP:=@Heap.IsSliceOf.new
abbrev eQ:=@codeAny_loop
abbrev eR:=@Nat.add_sub_cancel
abbrev eS:=@Nat.succ_pos
abbrev eU:=@List.find?_eq_none
abbrev eV:=@List.nodup_nil
abbrev eW:=@List.drop_zero
abbrev eX:=@wpAny_fieldsOf
abbrev eZ:=@Nat.lt_succ_of_le
abbrev e7:=@wpAny_pyIter_slot
abbrev e8:=@wpAny_dictEntries
abbrev ff:=@List.flatMap_cons
abbrev fg:=@evalPart_none
abbrev fj:=@wpAny_noted
abbrev fm:=@wpAny_of_eq
abbrev fq:=@wpAny_handled
abbrev fw:=@wpAny_onRaise
abbrev fB:=@Int.lt_irrefl
abbrev fD:=@Bool.not_true
abbrev fE:=@plainId_quiet
abbrev fF:=@noFill_tuple_add
abbrev fG:=@List.length_drop
abbrev fH:=@List.ext_getElem
abbrev fJ:=@Nat.lt_succ_self
abbrev fK:=@wpAny_forIn_list
abbrev fL:=@List.any_eq_true
abbrev fM:=@List.mem_flatMap
abbrev fN:=@Nat.mul_comm
abbrev fO:=@Nat.sub_zero
abbrev fP:=@Subscript_
abbrev fQ:=@typeIs_int
abbrev Key:=Sum Int Str
def zgk:Key->Value->Bool
 | .inl k,v=>Value.isInt k v
 | .inr x,v=>Value.isStrOf x v
def keyH (w:World):Key->Int
 | .inl k=>hashInt k
 | .inr x=>hashStr w x
def z5:∀ {k:Key} {v:Value},zgk k v=true->(∃i t,k=Sum.inl i/\v=Value.int i t)\/(∃x t,k=Sum.inr x/\v=Value.str x t)
 | .inl i,v,h=>by obtain⟨t,e⟩:=Value.isInt_shape (k:=i) (v:=v) h;exact .inl ⟨i,t,rfl,e⟩
 | .inr x,v,h=>by obtain⟨t,e⟩:=Value.isStrOf_shape (x:=x) (v:=v) h;exact .inr ⟨x,t,rfl,e⟩
def zfa (i:Int)(t:Tok):zgk (.inl i) (.int i t)=true:=by simp[zgk,Value.isInt]
def zjI (x:Str)(t:Tok):zgk (.inr x) (.str x t)=true:=by simp[zgk,Value.isStrOf]
def zrC (a b:Int):decide ((Sum.inl a:Key)=Sum.inl b)=(a==b):=by grind
def zrF (a b:Str):decide ((Sum.inr a:Key)=Sum.inr b)=decide (a=b):=by grind
def zrD (a:Int)(b:Str):decide ((Sum.inl a:Key)=Sum.inr b)=false:=rfl
def zrE (a:Str)(b:Int):decide ((Sum.inr a:Key)=Sum.inl b)=false:=rfl
def z6 (prog:Program)(w:World):PySem.KeyKind prog w Key where
 is:=zgk
 hash:=keyH w
 inj:=λv a b F D=>by
  rcases z5 F with ⟨i,t,rfl,rfl⟩ | ⟨x,t,rfl,rfl⟩
  ·rcases z5 D with ⟨j,u,rfl,e⟩ | ⟨y,u,rfl,e⟩
   ·injection e with q _;rw[q]
   ·exact nomatch e
  ·rcases z5 D with ⟨j,u,rfl,e⟩ | ⟨y,u,rfl,e⟩
   ·exact nomatch e
   ·injection e with q _;rw[q]
 byValue:=λk v h=>by rcases z5 h with ⟨i,t,rfl,rfl⟩ | ⟨x,t,rfl,rfl⟩ <;> rfl
 pyHash:=λB h=>by
  rcases z5 B with ⟨i,t,rfl,rfl⟩ | ⟨x,t,rfl,rfl⟩
  ·exact wpAny_pyHash_int h
  ·exact wpAny_pyHash_str h
 eqBool:=λI B h=>by
  rcases z5 I with ⟨i,t,rfl,rfl⟩ | ⟨x,t,rfl,rfl⟩
  ·rcases z5 B with ⟨j,u,rfl,rfl⟩ | ⟨y,u,rfl,rfl⟩
   ·rw[zrC] at h;exact wpAny_eqBool_int h
   ·rw[zrD] at h;exact SeqAt.EqAt.int_str i t y u _ _ _ _ h
  ·rcases z5 B with ⟨j,u,rfl,rfl⟩ | ⟨y,u,rfl,rfl⟩
   ·rw[zrE] at h;exact SeqAt.EqAt.str_int x t j u _ _ _ _ h
   ·rw[zrF] at h;exact wpAny_eqBool_str h
 «strs»:=λk x t v h=>by
  rcases z5 h with ⟨i,u,rfl,e⟩ | ⟨y,u,rfl,e⟩
  ·exact nomatch e
  ·injection e with q _;subst q;cases v <;> rfl
def zgr (prog:Program)(w:World)(i:Int)(t:Tok):(z6 prog w).is (.inl i) (.int i t)=true:=zfa i t
def zgs (prog:Program)(w:World)(x:Str)(t:Tok):(z6 prog w).is (.inr x) (.str x t)=true:=zjI x t
inductive V where
 | non | bl (b:Bool) | int (i:Int) | str (x:Str) | byt (b:Array UInt8) | flt (b:UInt64) | ref (a:Addr) | ty (n:String)
 deriving DecidableEq
def yG:V->Value->Prop
 | .non,u=>u=Value.none
 | .bl b,u=>u=Value.bool b
 | .int i,u=>∃t,u=Value.int i t
 | .str x,u=>∃t,u=Value.str x t
 | .byt b,u=>∃t,u=Value.bytes b t
 | .flt b,u=>∃t,u=Value.float b t
 | .ref a,u=>u=Value.ref a
 | .ty n,u=>u=Value.type n
abbrev yb:List V->List Value->Prop:=Paired yG
def yb.length(r:yb xs q):xs.length=q.length:=eh r
def yb.get:∀ {xs:List V} {q:List Value} {i:Nat} {x:V},yb xs q->xs[i]?=some x->∃u,q[i]?=some u/\yG x u
 | _,_,_,_,.nil,e=>by simp at e
 | _,_,0,_,.cons r _,e=>by simp_all
 | _,_,i+1,x,.cons _ t,e=>by
  obtain⟨u,h1,h2⟩:=yb.get (i:=i) (x:=x) t (by simpa using e)
  simp_all
def yb.set(r:yG x u):∀ {xs:List V} {B:List Value} (i:Nat),yb xs B->yb (xs.set i x) (B.set i u)
 | _,_,_,.nil=>.nil
 | _,_,0,.cons _ t=>.cons r t
 | _,_,i+1,.cons q t=>.cons q (yb.set r i t)
def yb.append:∀ {xs ys:List V} {q B:List Value},yb xs q->yb ys B->yb (xs++ys) (q++B)
 | _,_,_,_,.nil,s=>s
 | _,_,_,_,.cons r t,s=>.cons r (yb.append t s)
def yb.take:∀ {xs:List V} {q:List Value} (n:Nat),yb xs q->yb (xs.take n) (q.take n)
 | _,_,0,_=>.nil
 | _,_,_+1,.nil=>.nil
 | _,_,n+1,.cons r t=>.cons r (yb.take n t)
def yb.drop:∀ {xs:List V} {q:List Value} (n:Nat),yb xs q->yb (xs.drop n) (q.drop n)
 | _,_,0,r=>r
 | _,_,_+1,.nil=>.nil
 | _,_,n+1,.cons _ t=>yb.drop n t
def ziB:Option V->Option Value->Prop
 | some v,some u=>yG v u
 | none,none=>True
 | _,_=>False
def KV {κ:Type}:List (κ×V)->List (κ×Value)->Prop:=Paired λ(p:κ×V) (q:κ×Value)=>p.1=q.1/\yG p.2 q.2
def kV:Key->V
 | .inl i=>.int i
 | .inr x=>.str x
inductive HO where
  | lst (xs:List V)
  | tup (xs:List V)
  | dK (kvs:List (Key×V)) | dT (kvs:List (List Key×V))
  | set (S:Int->Bool) (n:Nat)
  | ins (C dx:Addr) (fs:List (Str×V))
  | own (x:Addr)
  | xd (fs:List (Str×V))
  | met (f x:Addr)
  | rng (lo hi:Int)
  | frz (o:Obj) (u:HO)
  | tbl (ps:Array Value)
  | ext (φ:Heap->Prop)
abbrev Hp:=Addr->Option HO
def upd (H:Hp)(a:Addr)(o:HO):Hp:=λb=>if b=a then some o else H b
def zk:upd H a o a=some o:=by unfold upd;rw[if_pos rfl]
def zg(h:b≠a):upd H a o b=H b:=by unfold upd;rw[if_neg h]
def zqr:upd (upd H a o) a u=upd H a u:=by funext b;unfold upd;split <;> rfl
def zj4 {H:Hp}{a b:Addr}{o u:HO}(h:H a=some o)(h':H b=some u)(d:o≠u):a≠b:=by grind
def zc {H:Hp}{a b:Addr}{o:HO}(h:H a=some o)(h':H b=none):a≠b:=by grind
def uU (h:Heap)(a:Addr)(items:Array Value):Prop:=∃o,h.get? a=some o/\o.cls = .type "tuple" /\ (∃n,o.data = .seq items n)/\o.dict=none
def uU.tup(x:uU h a items):IsTup h a items:=let ⟨o,h1,h2,h3,_⟩:=x;⟨o,h1,h2,h3⟩
def uU.lt(x:uU h a items):a<h.objs.size:=x.tup.lt
def uU.new (h:Heap)(items:Array Value):uU (h.push { cls:=.type "tuple",data:=.seq items }) h.objs.size items:=⟨_,aq _ rfl,rfl,⟨_,rfl⟩,rfl⟩
section
variable (P:Program)(w:World)
def yp (H:Hp)(h:Heap)(a:Addr):HO->Prop
 | .lst xs=>xs.length<=sizeLine/\∃ (its:List Value) (n:Nat),yb xs its/\h.get? a=some { cls:=.type "list",data:=.seq its.toArray n }
 | .tup xs=>xs.length<=sizeLine/\∃its:List Value,yb xs its/\uU h a its.toArray
 | .dK kvs=>kvs.length<=sizeLine/\(a==sysModules)=false/\∃vs,KV kvs vs/\h.DictOf (z6 P w) a vs
 | .dT kvs=>kvs.length<=sizeLine/\(a==sysModules)=false/\∃xs:List (List Key×Addr×Value),
   Paired (λ(p:List Key×V) (q:List Key×Addr×Value)=>p.1=q.1/\H q.2.1=some (.tup (p.1.map kV))/\yG p.2 q.2.2) kvs xs/\
   ∃o es D,h.get? a=some o/\o.ExactDict/\o.data = .dict es D/\es.toList=xs.map (entryOfKey (tupleKind (z6 P w)))/\(xs.map (·.1)).Nodup
 | .set S n=>h.SetOf (intKind P w) a S n
 | .ins C dx fs=>H dx=some (.own a)/\fs.length<=1000/\dx≠a/\h.get? a=some (PySem.W.instObj C dx)/\
   ∃mA,h.Ns1 dx mA/\(∀f,ziB (fs.lookup f) (mA f))/\PySem.Within mA (fs.map (·.1))
 | .own _=>∃o,h.get? a=some o
 | .xd fs=>∃mA,h.Ns1 a mA/\∀f,ziB (fs.lookup f) (mA f)
 | .rng lo hi=>∃t u v,h.get? a=some { cls:=.type "range",data:=.fields #[.int lo t,.int hi u,.int 1 v] }
 | .frz o u=>h.get? a=some o/\yp H h a u
 | .tbl ps=>h.get? a=some { cls:=.none,data:=.fields ps }
 | .met f x=>h.get? a=some (PySem.W.methodObj (.ref f) (.ref x))
 | .ext B=>B h/\(∃o,h.get? a=some o)/\∀h1 h2:Heap,B h1->(∀o,h1.get? a=some o->h2.get? a=some o)->B h2
def HOk (H:Hp)(h:Heap):Prop:=∀a o,H a=some o->yp P w H h a o
end
section
variable {P:Program}{w:World}{H H':Hp}{h h':Heap}{a:Addr}{o:HO}
def yp.lt (x:yp P w H h a o):a<h.objs.size:=by
 cases o with
 | lst xs=>obtain⟨_,_,_,_,e⟩:=x;exact ax e
 | tup xs=>obtain⟨_,_,_,p⟩:=x;exact p.lt
 | dK kvs=>obtain⟨_,_,_,_,o,_,_,e,_⟩:=x;exact ax e
 | dT kvs=>obtain⟨_,_,_,_,o,_,_,e,_⟩:=x;exact ax e
 | set S n=>obtain⟨o,_,_,_,e,_⟩:=x;exact ax e
 | ins C dx fs=>obtain⟨_,_,_,e,_⟩:=x;exact ax e
 | own y=>obtain⟨_,e⟩:=x;exact ax e
 | xd fs=>obtain⟨_,⟨_,_,_,e,_⟩,_⟩:=x;exact ax e
 | rng lo hi=>obtain⟨_,_,_,e⟩:=x;exact ax e
 | frz ob u=>obtain⟨e,_⟩:=x;exact ax e
 | tbl ps=>exact ax (show h.get? a=some _ from x)
 | met f y=>exact ax (show h.get? a=some _ from x)
 | ext q=>obtain⟨_,⟨_,e⟩,_⟩:=x;exact ax e
def Paired.mapP {α B:Type}{F G:α->B->Prop}:∀ {l₁:List α} {q:List B},Paired F l₁ q->(∀a b,F a b->G a b)->Paired G l₁ q
 | _,_,.nil,_=>.nil
 | _,_,.cons r t,f=>.cons (f _ _ r) (Paired.mapP t f)
def Paired.imp' {α B:Type}{F G:α->B->Prop}(f:∀a b,F a b->G a b){l₁:List α}{q:List B}(r:Paired F l₁ q):Paired G l₁ q:=Paired.mapP r f
def yp.stay (x:yp P w H h a o)(k:∀b u,(b=a\/H b=some (.own a))->h.get? b=some u->h'.get? b=some u)
  (F:∀b,H b=some (.own a)->H' b=some (.own a)) (I:∀b xs,H b=some (.tup xs)->H' b=some (.tup xs)):yp P w H' h' a o:=by
 induction o with
 | lst xs=>obtain⟨z,its,n,r,e⟩:=x;exact⟨z,its,n,r,k _ _ (.inl rfl) e⟩
 | tup xs=>obtain⟨z,its,r,ob,e,c⟩:=x;exact⟨z,its,r,ob,k _ _ (.inl rfl) e,c⟩
 | dK kvs=>obtain⟨z,y,vs,r,ob,es,B,e,c⟩:=x;exact⟨z,y,vs,r,ob,es,B,k _ _ (.inl rfl) e,c⟩
 | dT kvs=>
  obtain⟨z,y,xs,r,ob,es,B,e,c⟩:=x;exact⟨z,y,xs,Paired.mapP r λp q z=>⟨z.1,I _ _ z.2.1,z.2.2⟩,ob,es,B,k _ _ (.inl rfl) e,c⟩
 | set S n=>obtain⟨ob,es,B,t,e,c⟩:=x;exact⟨ob,es,B,t,k _ _ (.inl rfl) e,c⟩
 | ins C dx fs=>
  obtain⟨d,z,J,e,mA,⟨D,es,B,L,c⟩,r⟩:=x;exact⟨F _ d,z,J,k _ _ (.inl rfl) e,mA,⟨D,es,B,k _ _ (.inr d) L,c⟩,r⟩
 | own y=>obtain⟨ob,e⟩:=x;exact⟨ob,k _ _ (.inl rfl) e⟩
 | xd fs=>obtain⟨mA,⟨D,es,B,e,c⟩,r⟩:=x;exact⟨mA,⟨D,es,B,k _ _ (.inl rfl) e,c⟩,r⟩
 | rng lo hi=>obtain⟨t,u,v,e⟩:=x;exact⟨t,u,v,k _ _ (.inl rfl) e⟩
 | frz ob u O=>obtain⟨e,q⟩:=x;exact⟨k _ _ (.inl rfl) e,O q⟩
 | tbl ps=>
  have e:h.get? a=some { cls:=.none,data:=.fields ps }:=x;show h'.get? a=some { cls:=.none,data:=.fields ps };exact k a _ (.inl rfl) e
 | met f y=>
  have e:h.get? a=some (PySem.W.methodObj (.ref f) (.ref y)):=x;show h'.get? a=some (PySem.W.methodObj (.ref f) (.ref y));exact k a _ (.inl rfl) e
 | ext U=>obtain⟨p,⟨o,e⟩,st⟩:=x;exact⟨st _ _ p λo q=>k _ _ (.inl rfl) q,⟨o,k _ _ (.inl rfl) e⟩,st⟩
def HOk.lt (x:HOk P w H h)(e:H a=some o):a<h.objs.size:=(x a o e).lt
def HOk.fresh (x:HOk P w H h)(e:h.objs.size<=a):H a=none:=by
 cases q:H a with
 | none=>rfl
 | some u=>exact absurd (a6 (x.lt q) e) (cA _)
def HOk.kept (x:HOk P w H h)(k:∀b u,h.get? b=some u->h'.get? b=some u):HOk P w H h':=λa o e=>
 (x a o e).stay (λb u _ q=>k b u q) (λ_ q=>q) λ_ _ q=>q
def HOk.laid (x:HOk P w H h)(k:∀b u,h.get? b=some u->h'.get? b=some u)(I:h.objs.size<=a)(B:yp P w (upd H a o) h' a o):HOk P w (upd H a o) h':=λb u e=>by
 have D:=x.fresh I;by_cases F:b=a
 ·subst F;rw[zk] at e;cases e;exact B
 ·rw[zg F] at e;exact (x b u e).stay (λc v _ q=>k c v q) (λc q=>by rw[zg (zc q D)];exact q) λc xs q=>by rw[zg (zc q D)];exact q
end
def Rd (H:Hp)(a:Addr)(u:HO):Prop:=H a=some u\/∃o,H a=some (.frz o u)
def Rd.ok(r:Rd H a u)(x:HOk P w H h):yp P w H h a u:=by
 rcases r with r | ⟨o,r⟩
 ·exact x a u r
 ·obtain⟨_,q⟩:=x a _ r;exact q
def Mut:Option HO->Prop
 | some (.lst _)=>True
 | some (.dK _)=>True
 | some (.dT _)=>True
 | some (.set _ _)=>True
 | some (.ins _ _ _)=>True
 | some (.ext _)=>True
 | _=>False
section
variable {P:Program}{w:World}{H:Hp}{h h':Heap}{x e:Addr}{o':HO}
def HOk.write (Y:HOk P w H h)(F:Mut (H x))(he:e=x\/H e=some (.own x))(k:∀b u,b≠e->h.get? b=some u->h'.get? b=some u)(I:∃u,h'.get? e=some u)
  (J:yp P w (upd H x o') h' x o'):HOk P w (upd H x o') h':=λb u q=>by
 have B:∀c y,H c=some (.own y)->c≠x:=λc y r z=>by subst z;rw[r] at F;exact F
 have D:∀c xs,H c=some (.tup xs)->c≠x:=λc xs r z=>by subst z;rw[r] at F;exact F
 by_cases O:b=x
 ·subst O;rw[zk] at q;cases q;exact J
 ·rw[zg O] at q;by_cases L:b=e
  ·have U:H b=some (.own x):=by
    grind
   rw[q] at U;cases U;obtain⟨v,Z⟩:=I;exact⟨v,by rw[L];exact Z⟩
  ·refine (Y b u q).stay (λc v hc r=>k c v ?_ r) (λc r=>by rw[zg (B c b r)];exact r) λc xs r=>by rw[zg (D c xs r)];exact r
   grind
end
structure Un (fs ex:List Addr)(H H':Hp)(h h':Heap):Prop where
 keep:∀b o,h.get? b=some o->H b=none->b∉fs->b∉ex->h'.get? b=some o
 slot:∀b o,h.get? b=some o->H b=none->b∈fs->b∉ex->∃sl,h'.get? b=some { o with slots:=sl }
 free:∀b o,h.get? b=some o->H b=none->b∉ex->H' b=none
 there:∀b o,h.get? b=some o->b∉ex->∃o',h'.get? b=some o'
 tups:∀b xs,H b=some (.tup xs)->H' b=some (.tup xs)
 frzs:∀b o u,H b=some (.frz o u)->H' b=some (.frz o u)
 tbls:∀b ps,H b=some (.tbl ps)->∃more,H' b=some (.tbl (ps++more))
section
variable {fs fs' ex ex':List Addr}{H H1 H2:Hp}{h h1 h2 h':Heap}{a x e:Addr}{o:HO}
def Un.any(u:Un fs ex H H1 h h1)(q:h.get? b=some ob)(n:H b=none)(B:b∉ex):∃F,h1.get? b=some { ob with slots:=F }:=by
 by_cases D:b∈fs
 ·exact u.slot b ob q n D B
 ·exact⟨ob.slots,u.keep b ob q n D B⟩
def Un.kept (k:∀b u,h.get? b=some u->h'.get? b=some u):Un fs ex H H h h':=
 ⟨λb ob q _ _ _=>k b ob q,λb ob q _ _ _=>⟨ob.slots,k b ob q⟩,λ_ _ _ n _=>n,λb ob q _=>⟨ob,k b ob q⟩,λ_ _ q=>q,λ_ _ _ q=>q,λ_ ps q=>⟨#[],by rw[q];simp⟩⟩
def Un.refl:Un fs ex H H h h:=Un.kept λ_ _ q=>q
def Un.laid (k:∀b u,h.get? b=some u->h'.get? b=some u)(D:h.objs.size<=a)(B:H a=none):Un fs ex H (upd H a o) h h' where
 keep:=λb u q _ _ _=>k b u q
 slot:=λb u q _ _ _=>⟨u.slots,k b u q⟩
 free:=λb u q n _=>by rw[zg (aJ (a6 (ax q) D))];exact n
 there:=λb u q _=>⟨u,k b u q⟩
 tups:=λb xs q=>by rw[zg (zc q B)];exact q
 frzs:=λb u xs q=>by rw[zg (zc q B)];exact q
 tbls:=λb ps q=>⟨#[],by rw[zg (zc q B),q];simp⟩
def Un.write (B:Mut (H x))(L:e=x\/H e=some (.own x))(k:∀b u,b≠e->h.get? b=some u->h'.get? b=some u)(I:∃u,h'.get? e=some u):Un fs ex H (upd H x o) h h':=by
 have J:∀b,H b=none->b≠x:=λb n z=>by subst z;rw[n] at B;exact B
 have F:∀b,H b=none->b≠e:=λb n z=>by grind
 have D:∀b u,H b=some u->¬ Mut (some u)->b≠x:=λb u q nm z=>by subst z;rw[q] at B;exact nm B
 refine⟨λb u q n _ _=>k b u (F b n) q,λb u q n _ _=>⟨u.slots,k b u (F b n) q⟩,λb u q n _=>by rw[zg (J b n)];exact n,λb u q _=>?_,
  λb xs q=>by rw[zg (D b _ q λz=>z)];exact q,λb u xs q=>by rw[zg (D b _ q λz=>z)];exact q,λb ps q=>⟨#[],by rw[zg (D b _ q λz=>z),q];simp⟩⟩
 grind
end
def trk (h:Heap)(H:Hp):List Addr:=(List.range h.objs.size).filter λa=>(H a).isSome
def zlH (h:Heap)(H:Hp):Heap:=PySem.W.hideAll h (trk h H)
def zjn (h:Heap)(H:Hp):(zlH h H).objs.size=h.objs.size:=PySem.W.hideAll_size _ _
def zlI(e:h.get? b=some o)(n:H b=none):(zlH h H).get? b=some o:=
 PySem.W.hideAll_get _ e λB=>by
  have q:(H b).isSome=true:=(bv.mp B).2
  simp_all
def zo5(e:(zlH h H).get? b=some o):h.get? b=some o/\H b=none:=by
 have B:h.get? b=some o:=PySem.W.of_hideAll (trk h H) e;refine⟨B,?_⟩
 cases q:H b with
 | none=>rfl
 | some x=>
  have D:b∈trk h H:=bv.mpr ⟨aW.mpr (ax B),by simp[q]⟩;have z:(zlH h H).get? b=none:=PySem.W.hideAll_none (trk h H) D
  grind
def znU (g h:Heap)(L:Addr):List (Addr×Obj):=(List.range h.objs.size).filterMap λa=>if a=L\/(g.get? a).isSome=true then none else (h.get? a).map λo=>(a,o)
def zR (g h:Heap)(L d:Addr):List (Addr×Obj):=(znU g h L).filter λp=>decide (p.1≠d)
structure Mod (K:PySem.W.Frag)(mg:Str->Option Value)(base:Heap):Prop where
 kin:K.In base
 glob:base.Ns mainGlobals mg
 blt:∃mb,base.Ns builtinsNs mb/\∀x:Str,x ≠ "__name__" -> mb x=bootBuiltins x
 nolimit:base.NoLimit
structure Cx where
 prog:Program
 w:World
 K:PySem.W.Frag
 mg:Str->Option Value
 base:Heap
 A:Around
 N:List Str
 s₀:Shared
 H₀:Hp
 env:Env
 outer:List Env
 stack:List Env
 ex:List Addr
 fn:Str->Bool
 calm:Bool
 pn:List (Addr×Obj)
 xe:Value->Shared->Prop
def frs (l:List Env):List Addr:=l.filterMap (·.frame)
abbrev Cx.fs (X:Cx):List Addr:=frs X.outer
def Vis (q:Scope)(x:Str):Prop:=q.names.lookup x=some .local\/q.names.lookup x=some .cell\/q.names.lookup x=some .free
def Loc (q:Scope)(x:Str):Prop:=q.names.lookup x=some .local\/q.names.lookup x=some .cell
def Look (env:Env)(h:Heap)(m:Str->Option Value)(x:Str)(u:Value):Prop:=
 (env.kindOf x=some .local/\m x=some u)\/((env.kindOf x=some .cell\/env.kindOf x=some .free)/\∃c,env.cells.lookup x=some c/\h.IsCell c (some u))
structure Cx.Ok (X:Cx):Prop where
 mod:Mod X.K X.mg X.base
 kind:X.env.scope.kind = .function
 glob:X.env.globals=mainGlobals
 blt:X.env.builtins=builtinsNs
 above:X.s₀.heap.objs.size<=X.env.locals
 inj:∀x y c,X.env.cells.lookup x=some c->X.env.cells.lookup y=some c->x=y
 has:∀x,(X.env.kindOf x=some .cell\/X.env.kindOf x=some .free)->∃c,X.env.cells.lookup x=some c
 cab:∀x c,X.fn x=true->X.env.cells.lookup x=some c->X.s₀.heap.objs.size<=c
 hd:X.calm=true->X.A.handled=none
 frames:X.A.frames=some X.stack
 stk:X.stack=X.outer\/(X.stack=X.env::X.outer/\X.env.frame=some X.env.locals)
 exf:∀b∈X.ex,b≠X.env.locals/\∀x c,X.env.cells.lookup x=some c->c≠b
 bs:∀b o,X.base.get? b=some o->X.s₀.heap.get? b=some o/\X.H₀ b=none
 bsz:X.base.objs.size<=X.s₀.heap.objs.size
 noex:∀b o,X.base.get? b=some o->b∉X.ex
 exfs:∀b∈X.ex,b∉X.fs
 funs:X.s₀.heap.FunFrames X.base X.outer
 frf:∀b∈X.fs,X.H₀ b=none
structure Inv (X:Cx)(pins:List (Addr×Obj))(σ:List (Option V))(H:Hp)(s:Shared):Prop where
 ok:X.Ok
 os:s.os=X.s₀.os
 bare:AllBare s.gens
 base:Un X.fs X.ex X.H₀ H X.s₀.heap s.heap
 loc:∃m,s.heap.Ns X.env.locals m/\∀ (i:Nat) (x:Str) (v:V),X.N[i]?=some x->σ[i]?=some (some v)->Vis X.env.scope x->∃u,yG v u/\Look X.env s.heap m x u
 cell:∀x c,X.env.cells.lookup x=some c->∃v,s.heap.IsCell c v
 free:H X.env.locals=none
 freeC:∀x c,X.env.cells.lookup x=some c->H c=none
 pin:∀p∈X.pn++pins,s.heap.get? p.1=some p.2/\H p.1=none/\p.1≠X.env.locals/\p.1∉X.fs/\∀v,p.2.data≠.cell v
 hok:HOk X.prog X.w H s.heap
 len:σ.length=X.N.length
section
variable {X:Cx}{pins:List (Addr×Obj)}{σ:List (Option V)}{H H':Hp}{s:Shared}{h':Heap}
def Cx.Ok.nofr(q:X.Ok)(e:X.base.get? b=some o):b∉X.fs:=λB=>by
 have:=(q.funs.mem B).1
 grind
def Inv.bs (I:Inv X pins σ H s):∀b o,X.base.get? b=some o->s.heap.get? b=some o/\H b=none:=λb o e=>
 ⟨I.base.keep b o (I.ok.bs b o e).1 (I.ok.bs b o e).2 (I.ok.nofr e) (I.ok.noex b o e),I.base.free b o (I.ok.bs b o e).1 (I.ok.bs b o e).2 (I.ok.noex b o e)⟩
def Inv.bk (I:Inv X pins σ H s):∀b o,X.base.get? b=some o->s.heap.get? b=some o:=λb o e=>(I.bs b o e).1
def Inv.mod (I:Inv X pins σ H s):Mod X.K X.mg X.base:=I.ok.mod
def Inv.kIn (I:Inv X pins σ H s):X.K.In s.heap:=I.ok.mod.kin.keeps I.bk
def Inv.lt (I:Inv X pins σ H s):X.env.locals<s.heap.objs.size:=let ⟨_,hn,_⟩:=I.loc;hn.lt
def Inv.sz (I:Inv X pins σ H s):X.s₀.heap.objs.size<=s.heap.objs.size:=ay I.ok.above (cj I.lt)
def Inv.nofs (I:Inv X pins σ H s){a:Addr}(h:s.heap.objs.size<=a):a∉X.fs:=λq=>by obtain⟨_,o,B,_⟩:=I.ok.funs.mem q;exact absurd (a6 (ax B) (ay I.sz h)) (cA _)
def Inv.cne (I:Inv X pins σ H s):∀x c,X.env.cells.lookup x=some c->c≠X.env.locals:=λx c e z=>by
 obtain⟨v,o,D,F⟩:=I.cell x c e;obtain⟨m,⟨o',es,J,q,B,_⟩,_⟩:=I.loc
 grind
def Inv.funs (I:Inv X pins σ H s):s.heap.FunFrames X.base X.outer:=by
 have all:∀ (l:List Env),(∀b∈frs l,b∈X.fs)->X.s₀.heap.FunFrames X.base l->s.heap.FunFrames X.base l:=by
  intro l
  induction l with
  | nil=>intro _ _;trivial
  | cons env r F=>
   intro hs J;obtain⟨O,⟨L,o,q,U,Y,Z⟩,hr⟩:=J;have B:L∈X.fs:=hs L (by unfold frs;rw[bZ,q];exact ak);obtain⟨sl,e⟩:=I.base.slot L o Y (I.ok.frf L B) B λz=>I.ok.exfs L z B;exact⟨O,⟨L,_,q,U,e,Z⟩,F (λb D=>hs b (by unfold frs;rw[bZ,q];exact ao _ D)) hr⟩
 exact all X.outer (λ_ D=>D) I.ok.funs
def Inv.stack (I:Inv X pins σ H s):s.heap.FunFrames X.base X.stack:=by
 rcases I.ok.stk with e | ⟨e,hf⟩
 ·rw[e];exact I.funs
 ·rw[e];obtain⟨m,q,_⟩:=I.loc;refine .cons (by rw[I.ok.kind];decide) hf q ?_ I.funs;exact Heap.get?_none_of_le (ay I.ok.bsz I.ok.above)
def Inv.stkSub (I:Inv X pins σ H s):∀b∈frs X.stack,b∈X.env.locals::X.fs:=λb q=>by
 rcases I.ok.stk with e | ⟨e,hf⟩
 ·grind
 ·rw[e] at q;unfold frs at q;rw[bZ,hf] at q;exact q
def Inv.stkFree (I:Inv X pins σ H s):∀b∈frs X.stack,H b=none:=λb q=>by
 rcases aG.mp (I.stkSub b q) with e | q
 ·rw[e];exact I.free
 ·obtain⟨_,o,B,_⟩:=I.ok.funs.mem q;exact I.base.free b o B (I.ok.frf b q) λz=>I.ok.exfs b z q
def Inv.step {g':Array GenState}{t':Nat}{d':Drawn}{ch:List Addr}(I:Inv X pins σ H s)
  (D:∀b∈ch,(b∈X.ex\/X.s₀.heap.objs.size<=b)/\b≠X.env.locals/\(∀x c,X.env.cells.lookup x=some c->c≠b)/\∀p∈X.pn++pins,p.1≠b)
  (L:∀b o,b≠X.env.locals->b∉X.fs->b∉ch->s.heap.get? b=some o->H b=none->h'.get? b=some o)
  (O:∀b o,b≠X.env.locals->b∈X.fs->b∉ch->s.heap.get? b=some o->H b=none->∃sl,h'.get? b=some { o with slots:=sl }) (F:∀b o,b∉ch->s.heap.get? b=some o->H b=none->H' b=none)
  (an:∀b o,b∉ch->s.heap.get? b=some o->∃o',h'.get? b=some o')
  (ad:∀b xs,H b=some (.tup xs)->H' b=some (.tup xs)) (ag:∀b o u,H b=some (.frz o u)->H' b=some (.frz o u)) (av:∀b ps,H b=some (.tbl ps)->∃more,H' b=some (.tbl (ps++more)))
  (ns:∀m,s.heap.Ns X.env.locals m->h'.Ns X.env.locals m) (ap:HOk X.prog X.w H' h') (hg:AllBare g') :
  Inv X pins σ H' { s with heap:=h',gens:=g',drawn:=d',toks:=t' }:=by
 have al:∀b o,X.s₀.heap.get? b=some o->b≠X.env.locals:=λb o e=>aJ (a6 (ax e) I.ok.above)
 have U:∀b o,X.s₀.heap.get? b=some o->b∉X.ex->b∉ch:=λb o e B Y=>by
  rcases (D b Y).1 with z | z
  ·exact B z
  ·exact absurd (a6 (ax e) z) (cA _)
 have J:∀x c,X.env.cells.lookup x=some c->∀v,s.heap.IsCell c v->h'.IsCell c v:=by
  rintro x c e v ⟨o,ho,hd⟩;have Z:c∉ch:=λz=>(D c z).2.2.1 x c e rfl;by_cases hc:c∈X.fs
  ·obtain⟨sl,q⟩:=O c o (I.cne x c e) hc Z ho (I.freeC x c e);exact⟨_,q,hd⟩
  ·exact⟨o,L c o (I.cne x c e) hc Z ho (I.freeC x c e),hd⟩
 refine⟨I.ok,I.os,hg,⟨λb o e n Y B=>?_,λb o e n Y B=>?_,λb o e n B=>?_,λb o e B=>?_,λb xs e=>ad b xs (I.base.tups b xs e),λb o xs e=>ag b o xs (I.base.frzs b o xs e),λb ps e=>?_⟩,?_,λx c e=>?_,?_,λx c e=>?_,λp hp=>?_,ap,I.len⟩
 ·exact L b o (al b o e) Y (U b o e B) (I.base.keep b o e n Y B) (I.base.free b o e n B)
 ·obtain⟨sl,e1⟩:=I.base.slot b o e n Y B;obtain⟨as,e2⟩:=O b _ (al b o e) Y (U b o e B) e1 (I.base.free b o e n B);exact⟨as,e2⟩
 ·obtain⟨o',e1⟩:=I.base.there b o e B;exact F b o' (U b o e B) e1 (I.base.free b o e n B)
 ·obtain⟨o',e1⟩:=I.base.there b o e B
  simp_all
 ·obtain⟨m1,e1⟩:=I.base.tbls b ps e
  grind
 ·obtain⟨m,hn,hl⟩:=I.loc;refine⟨m,ns m hn,λi x v e1 e2 e3=>?_⟩;obtain⟨u,r,l⟩:=hl i x v e1 e2 e3;refine⟨u,r,?_⟩;rcases l with l | ⟨k,c,e,z⟩
  ·exact .inl l
  ·exact .inr ⟨k,c,e,J x c e _ z⟩
 ·obtain⟨v,z⟩:=I.cell x c e;exact⟨v,J x c e v z⟩
 ·obtain⟨m,⟨o,_,_,ho,_⟩,_⟩:=I.loc;exact F _ o (λz=>(D _ z).2.1 rfl) ho I.free
 ·obtain⟨v,o,ho,hd⟩:=I.cell x c e;exact F c o (λz=>(D c z).2.2.1 x c e rfl) ho (I.freeC x c e)
 ·obtain⟨e,n,ne,nf,d⟩:=I.pin p hp;have Z:p.1∉ch:=λz=>(D p.1 z).2.2.2 p hp rfl
  simp_all
def Inv.un(I:Inv X pins σ H s)(u:Un X.fs [] H H' s.heap h')(B:HOk X.prog X.w H' h'):Inv X pins σ H' { s with heap:=h',toks:=t' }:=by
 obtain⟨m,⟨o,es,Y,J,r⟩,_⟩:=id I.loc;obtain⟨Z,L⟩:=u.any J I.free (by simp)
 exact I.step (g':=s.gens) (d':=s.drawn) (ch:=[]) (λ_ z=>nomatch z) (λb o _ D _ e n=>u.keep b o e n D (by simp)) (λb o _ D _ e n=>u.slot b o e n D (by simp)) (λb o _ e n=>u.free b o e n (by simp)) (λb o _ e=>u.there b o e (by simp)) u.tups u.frzs u.tbls (λm' O=>by obtain⟨o',es',F,q,U⟩:=O;rw[J] at q;cases q;exact⟨_,es',F,L,U⟩) B I.bare
def Inv.call(I:Inv X pins σ H s)(u:Un (frs X.stack) ch H H' s.heap h')(F:HOk X.prog X.w H' h')(U:AllBare g')(B:∀b∈ch,(b∈X.ex\/X.s₀.heap.objs.size<=b)/\b≠X.env.locals/\(∀x c,X.env.cells.lookup x=some c->c≠b)/\∀p∈X.pn++pins,p.1≠b) :
  Inv X pins σ H' { s with heap:=h',gens:=g',drawn:=d',toks:=t' }:=by
 obtain⟨m,⟨o,es,ep,O,r⟩,_⟩:=id I.loc;obtain⟨sl,J⟩:=u.any O I.free λz=>(B _ z).2.1 rfl
 exact I.step (ch:=ch) B (λb o J Y q e n=>u.keep b o e n (λz=>(aG.mp (I.stkSub b z)).elim J Y) q) (λb o _ _ q e n=>u.any e n q) (λb o q e n=>u.free b o e n q) (λb o q e=>u.there b o e q) u.tups u.frzs u.tbls (λm' Z=>by obtain⟨o',es',L,D,r'⟩:=Z;rw[O] at D;cases D;exact⟨_,es',L,J,r'⟩) F U
def Inv.turned(I:Inv X pins σ H s)(k:∀b o,b≠B->s.heap.get? b=some o->h'.get? b=some o)(J:H B=none)(F:B≠X.env.locals)(h1:B∈X.ex\/X.s₀.heap.objs.size<=B)(h2:∀x c,X.env.cells.lookup x=some c->c≠B)(L:∀p∈X.pn++pins,p.1≠B):Inv X pins σ H { s with heap:=h',toks:=t' }:=by
 have O:∀b u,H b=some u->b≠B:=λb u e z=>by rw[z,J] at e;cases e
 refine I.step (g':=s.gens) (d':=s.drawn) (ch:=[B]) (λb U=>?_) (λb o _ _ D e _=>k b o (λz=>D (by simp[z])) e) (λb o _ _ D e _=>⟨o.slots,k b o (λz=>D (by simp[z])) e⟩) (λ_ _ _ _ n=>n)
  (λb o D e=>⟨o,k b o (λz=>D (by simp[z])) e⟩) (λ_ _ e=>e) (λ_ _ _ e=>e) (λb ps e=>⟨#[],by rw[e];simp⟩) (λm Y=>?_) (λb u e=>?_) I.bare
 ·have e:b=B:=by simpa using U
  subst e;exact⟨h1,F,h2,L⟩
 ·obtain⟨o,es,Z,ho,r⟩:=Y;exact⟨o,es,Z,k _ o (Ne.symm F) ho,r⟩
 ·refine (I.hok b u e).stay (λc v D q=>k c v ?_ q) (λ_ q=>q) λ_ _ q=>q
  grind
def Inv.tok (I:Inv X pins σ H s)(t:Nat):Inv X pins σ H { s with toks:=t }:=I.un (h':=s.heap) (t':=t) Un.refl I.hok
def Inv.kept(I:Inv X pins σ H s)(k:∀b u,s.heap.get? b=some u->h'.get? b=some u):Inv X pins σ H { s with heap:=h',toks:=t' }:=I.un (Un.kept k) (I.hok.kept k)
def Inv.laid{a:Addr}(I:Inv X pins σ H s)(k:∀b u,s.heap.get? b=some u->h'.get? b=some u)(q:s.heap.objs.size<=a)(B:yp X.prog X.w (upd H a o) h' a o) :
  Inv X pins σ (upd H a o) { s with heap:=h',toks:=t' }:=I.un (Un.laid k q (I.hok.fresh q)) (I.hok.laid k q B)
def Inv.write(I:Inv X pins σ H s)(D:Mut (H x))(F:e=x\/H e=some (.own x))(k:∀b u,b≠e->s.heap.get? b=some u->h'.get? b=some u)(q:∃u,h'.get? e=some u)(B:yp X.prog X.w (upd H x o) h' x o):Inv X pins σ (upd H x o) { s with heap:=h',toks:=t' }:=I.un (Un.write D F k q) (I.hok.write D F k q B)
def Inv.pins_of(I:Inv X pins σ H s)(h:∀p∈q,s.heap.get? p.1=some p.2/\H p.1=none/\p.1≠X.env.locals/\p.1∉X.fs/\∀v,p.2.data≠.cell v):Inv X q σ H s:=
 ⟨I.ok,I.os,I.bare,I.base,I.loc,I.cell,I.free,I.freeC,λp B=>(aH.mp B).elim (λz=>I.pin p (bE _ z)) (h p),I.hok,I.len⟩
def zho {N:List Str}(q:N.Nodup){i j:Nat}{x:Str}(a:N[i]?=some x)(b:N[j]?=some x):i=j:=by obtain⟨h1,B⟩:=ac.mp a;obtain⟨h2,D⟩:=ac.mp b;exact (cg q).mp (B.trans D.symm)
def zfH(I:Inv X pins σ H s)(hN:X.N.Nodup)(hi:X.N[i]?=some x)(F:Loc X.env.scope x)(r:yG v u)(h:∀s',Inv X pins (σ.set i (some v)) H s'->(∃a,Heap.SameBut a s.heap s'.heap/\(a=X.env.locals\/X.env.cells.lookup x=some a))->Q () s')(hf:X.fn x=true\/X.env.scope.names.lookup x=some .local:=by walk_at "l"):wpAny M A (storeName X.env x u) Q E s:=by
 obtain⟨m,hn,hl⟩:=id I.loc;have ag:(X.env.scope.kind==.class || (X.env.scope.kind==.module&&X.env.locals != X.env.globals))=false:=by rw[I.ok.kind];rfl
 have O:i<σ.length:=by rw[I.len];exact (ac.mp hi).1
 have U:=I.cne
 have B:∀ {a:Addr} {h':Heap},(∃o,s.heap.get? a=some o/\H a=none)->Heap.SameBut a s.heap h'->HOk X.prog X.w H h':=λ{a h'} ha hs b ob e=>by
  obtain⟨_,_,ap⟩:=ha;refine (I.hok b ob e).stay (λc w' J q=>(hs.2 c ?_).trans q) (λ_ q=>q) λ_ _ q=>q
  grind
 rcases F with hk | hk
 ·refine wpAny_storeName_local hk hn (λh' as hs=>?_) ag;obtain⟨oL,_,_,av,_⟩:=id hn;refine h _ ⟨I.ok,I.os,I.bare,⟨λb o e n Y F=>?_,λb o e n Y F=>?_,I.base.free,λb o e F=>?_,I.base.tups,I.base.frzs,I.base.tbls⟩,⟨_,as,λj y v' D L e3=>?_⟩,λy c e=>?_,I.free,I.freeC,λp hp=>?_,B ⟨oL,av,I.free⟩ hs,by simpa using I.len⟩ ⟨_,hs,.inl rfl⟩
  ·exact (hs.2 b (aJ (a6 (ax e) I.ok.above))).trans (I.base.keep b o e n Y F)
  ·obtain⟨sl,D⟩:=I.base.slot b o e n Y F;exact⟨sl,(hs.2 b (aJ (a6 (ax e) I.ok.above))).trans D⟩
  ·obtain⟨o',D⟩:=I.base.there b o e F;exact⟨o',(hs.2 b (aJ (a6 (ax e) I.ok.above))).trans D⟩
  ·by_cases Z:j=i
   ·subst Z;rw[hi] at D;cases D;rw[aM O] at L;cases L;exact⟨u,r,.inl ⟨hk,by simp⟩⟩
   ·rw[ar (Ne.symm Z)] at L;obtain⟨u',r',q⟩:=hl j y v' D L e3;refine⟨u',r',?_⟩;rcases q with ⟨k,e⟩ | ⟨k,c,e,z⟩
    ·refine .inl ⟨k,?_⟩;have:y≠x:=λe=>Z (zho hN D (e ▸ hi));simp[this,e]
    ·exact .inr ⟨k,c,e,z.sameBut hs (U y c e)⟩
  ·obtain⟨w',z⟩:=I.cell y c e;exact⟨w',z.sameBut hs (U y c e)⟩
  ·obtain⟨e,n,ne,nf,d⟩:=I.pin p hp;exact⟨(hs.2 p.1 ne).trans e,n,ne,nf,d⟩
 ·have ad:X.fn x=true:=by
   grind
  obtain⟨c,J⟩:=I.ok.has x (.inl hk);obtain⟨w',z⟩:=I.cell x c J;refine wpAny_storeName_cell I.ok.kind hk J z (λh' al hs=>?_);obtain⟨oc,a0,a1⟩:=id z;refine h { s with heap:=h' } ⟨I.ok,I.os,I.bare,⟨λb o e n Y F=>?_,λb o e n Y F=>?_,I.base.free,λb o e F=>?_,I.base.tups,I.base.frzs,I.base.tbls⟩,⟨m,hn.sameBut hs (Ne.symm (U x c J)),λj y v' D L e3=>?_⟩,λy c' e=>?_,I.free,I.freeC,λp hp=>?_,B ⟨oc,a0,I.freeC x c J⟩ hs,by simpa using I.len⟩ ⟨c,hs,.inr J⟩
  ·exact (hs.2 b (aJ (a6 (ax e) (I.ok.cab x c ad J)))).trans (I.base.keep b o e n Y F)
  ·obtain⟨sl,D⟩:=I.base.slot b o e n Y F;exact⟨sl,(hs.2 b (aJ (a6 (ax e) (I.ok.cab x c ad J)))).trans D⟩
  ·obtain⟨o',D⟩:=I.base.there b o e F;exact⟨o',(hs.2 b (aJ (a6 (ax e) (I.ok.cab x c ad J)))).trans D⟩
  ·by_cases Z:j=i
   ·subst Z;rw[hi] at D;cases D;rw[aM O] at L;cases L;exact⟨u,r,.inr ⟨.inl hk,c,J,al⟩⟩
   ·rw[ar (Ne.symm Z)] at L;obtain⟨u',r',q⟩:=hl j y v' D L e3;refine⟨u',r',?_⟩;rcases q with q | ⟨k,c',e,z'⟩
    ·exact .inl q
    ·refine .inr ⟨k,c',e,z'.sameBut hs ?_⟩;rintro rfl;exact Z (zho hN D (I.ok.inj _ _ _ e J ▸ hi))
  ·by_cases an:c'=c
   ·subst an;exact⟨_,al⟩
   ·obtain⟨w2,z2⟩:=I.cell y c' e;exact⟨w2,z2.sameBut hs an⟩
  ·obtain⟨e,n,ne,nf,d⟩:=I.pin p hp;refine⟨(hs.2 p.1 ?_).trans e,n,ne,nf,d⟩;intro q
   simp_all
def zez(I:Inv X pins σ H s)(q:X.N.Nodup)(hi:X.N[i]?=some x)(B:Loc X.env.scope x)(r:yG v u)(h:∀s',Inv X pins (σ.set i (some v)) H s'->Q () s')(D:X.fn x=true\/X.env.scope.names.lookup x=some .local:=by walk_at "l"):wpAny M A (storeName X.env x u) Q E s:=
 zfH I q hi B r (λs' I' _=>h s' I') D
def Inv.call'(I:Inv X pins σ H s)(D:s'.os=s.os)(u:Un (frs X.stack) ch H H' s.heap s'.heap)(q:HOk X.prog X.w H' s'.heap)(F:AllBare s'.gens)(B:∀b∈ch,(b∈X.ex\/X.s₀.heap.objs.size<=b)/\b≠X.env.locals/\(∀x c,X.env.cells.lookup x=some c->c≠b)/\∀p∈X.pn++pins,p.1≠b):Inv X pins σ H' s':=by
 obtain⟨h',g',d',t',o'⟩:=s';have e:o'=s.os:=D;subst e;exact I.call (g':=g') (t':=t') (d':=d') u q F B
end
abbrev XK:=Value->Option Addr->Hp->Prop
abbrev St:=List (Option V)
abbrev VK:=V->Hp->Prop
abbrev TE:=St->Hp->VK->Prop
abbrev TT:=St->Hp->(Bool->Hp->Prop)->Prop
abbrev TA:=St->Hp->(List V->Hp->Prop)->Prop
structure Ends where
 nx:St->Hp->Prop
 rt:VK
 bk:St->Hp->Prop:=λ_ _=>False
 ct:St->Hp->Prop:=λ_ _=>False
abbrev TS:=Ends->St->Hp->Prop
def EP (X:Cx)(pins:List (Addr×Obj))(σ:St)(Q:VK)(u:Value)(s':Shared):Prop:=∃v H',Inv X pins σ H' s'/\yG v u/\Q v H'
def TP (X:Cx)(pins:List (Addr×Obj))(σ:St)(Q:Bool->Hp->Prop)(b:Bool)(s':Shared):Prop:=∃H',Inv X pins σ H' s'/\Q b H'
def AP (X:Cx)(pins:List (Addr×Obj))(σ:St)(Q:List V->Hp->Prop)(q:List Value)(s':Shared):Prop:=∃vs H',Inv X pins σ H' s'/\yb vs q/\Q vs H'
def SP (X:Cx)(pins:List (Addr×Obj))(D:Ends)(f:Flow)(s':Shared):Prop:=
 match f with
 | .next=>∃ q H',Inv X pins q H' s'/\D.nx q H'
 | .brk=>∃ q H',Inv X pins q H' s'/\D.bk q H'
 | .cont=>∃ q H',Inv X pins q H' s'/\D.ct q H'
 | .ret u=>∃v q H',Inv X pins q H' s'/\yG v u/\D.rt v H'
def PE (X:Cx)(e:Expr)(t:TE):Prop:=
 ∀ (pins:List (Addr×Obj)) (s:Shared) (σ:St) (H:Hp) (Q:VK),Inv X pins σ H s->t σ H Q->wpAny (model X.prog X.w) X.A (eval e X.env) (EP X pins σ Q) X.xe s
def PT (X:Cx)(e:Expr)(t:TT):Prop:=
 ∀ (pins:List (Addr×Obj)) (s:Shared) (σ:St) (H:Hp) (Q:Bool->Hp->Prop),Inv X pins σ H s->t σ H Q->wpAny (model X.prog X.w) X.A (isTrue e X.env (eval e X.env)) (TP X pins σ Q) X.xe s
def PW (X:Cx)(e:Expr)(t:TT):Prop:=
 ∀ (q:Sem Value) (pins:List (Addr×Obj)) (s:Shared) (σ:St) (H:Hp) (Q:Bool->Hp->Prop),Inv X pins σ H s->t σ H Q->wpAny (model X.prog X.w) X.A (isTrue e X.env q) (TP X pins σ Q) X.xe s
def PW.pt(h:PW X e t):PT X e t:=h _
def PA (X:Cx)(es:List Expr)(t:TA):Prop:=
 ∀ (pos:Pos) (pins:List (Addr×Obj)) (s:Shared) (σ:St) (H:Hp) (Q:List V->Hp->Prop),Inv X pins σ H s->t σ H Q->wpAny (model X.prog X.w) X.A (spliced (backTo pos (starEach es X.env))) (AP X pins σ Q) X.xe s
def PS (X:Cx)(st:Stmt)(t:TS):Prop:=
 ∀ (pins:List (Addr×Obj)) (s:Shared) (σ:St) (H:Hp) (D:Ends),Inv X pins σ H s->t D σ H->wpAny (model X.prog X.w) X.A (exec st X.env) (SP X pins D) X.xe s
def PSs (X:Cx)(st:List Stmt)(t:TS):Prop:=
 ∀ (pins:List (Addr×Obj)) (s:Shared) (σ:St) (H:Hp) (D:Ends),Inv X pins σ H s->t D σ H->wpAny (model X.prog X.w) X.A (execs st X.env) (SP X pins D) X.xe s
def thn{α:Type}{t:Sem α}{Q Q':α->Shared->Prop}(h:wpAny M A t Q E s)(q:∀a s,Q a s->Q' a s):wpAny M A t Q' E s:=aU h q λ_ _ x=>x
section
variable {X:Cx}
def zmU (i:Nat):TE:=λσ H Q=>∃v,σ[i]?=some (some v)/\Q v H
def tC (v:V):TE:=λ_ H Q=>Q v H
def zsc {i:Nat}{x:Str}{pos:Pos}(F:X.N[i]?=some x)(J:Vis X.env.scope x)(B:(x==("__debug__" : Str))=false:=by decide)(D:(x==("__classdict__" : Str))=false:=by decide):PE X (.Name x pos) (zmU i):=by
 intro pins s σ H Q I h;obtain⟨v,e,h⟩:=h;obtain⟨m,L,O⟩:=I.loc;obtain⟨u,r,l⟩:=O i x v F e J;have fin:EP X pins σ Q u s:=⟨v,H,I,r,h⟩;rcases l with ⟨q,hm⟩ | ⟨q,c,hc,hcell⟩
 ·exact wpAny_Name (wpAny_loadName_local I.ok.kind q L hm fin) B
 ·rcases q with q | q
  ·exact wpAny_Name (wpAny_loadName_cell I.ok.kind q hc hcell fin) B
  ·exact wpAny_Name (wpAny_loadName_free I.ok.kind q hc hcell fin D) B
def zkl {i j pos}:PE X (.Constant (.int i) j pos) (tC (.int i)):=λ_ _ _ H _ I h=>wpAny_Constant_int ⟨.int i,H,I.tok _,⟨_,rfl⟩,h⟩
def zvi {b j pos}:PE X (.Constant (.bool b) j pos) (tC (.bl b)):=λ_ _ _ H _ I h=>Constant_bool ⟨.bl b,H,I,rfl,h⟩
def zr8 {j pos}:PE X (.Constant .none j pos) (tC .non):=λ_ _ _ H _ I h=>Constant_none ⟨.non,H,I,rfl,h⟩
def zsb {x j pos}:PE X (.Constant (.str x) j pos) (tC (.str x)):=λ_ _ _ H _ I h=>Calls.Constant_str ⟨.str x,H,I.tok _,⟨_,rfl⟩,h⟩
def Gl (X:Cx)(x:Str):Prop:=X.env.kindOf x=some .globalImplicit
def zoK{E:Value->Shared->Prop}{pins:List (Addr×Obj)}{s:Shared}{σ:St}{H:Hp}{x:Str}{u:Value}{Q:Value->Shared->Prop}(I:Inv X pins σ H s)(q:Gl X x)(B:X.mg x=some u)(h:Q u s)(D:(x==("__debug__" : Str))=false:=by decide):wpAny (model X.prog X.w) X.A (eval (.Name x pos) X.env) Q E s:=
 Calls.Name_function_global I.ok.kind q (Calls.loadGlobal_global (by rw[I.ok.glob];exact I.mod.glob.keeps I.bk) B h) D
def zbq {E:Value->Shared->Prop}{pins:List (Addr×Obj)}{s:Shared}{σ:St}{H:Hp}{x:Str}{u:Value}{pos:Pos}{Q:Value->Shared->Prop}(I:Inv X pins σ H s)(q:Gl X x)(B:X.mg x=none)(D:bootBuiltins x=some u)(h:Q u s)
  (F:x ≠ "__name__" := by decide) (J:(x==("__debug__" : Str))=false:=by decide):wpAny (model X.prog X.w) X.A (eval (.Name x pos) X.env) Q E s:=by
 obtain⟨L,h1,h2⟩:=I.mod.blt;exact Calls.Name_function_global I.ok.kind q (Calls.loadGlobal_builtin (by rw[I.ok.glob];exact I.mod.glob.keeps I.bk) B (by rw[I.ok.blt];exact h1.keeps I.bk) ((h2 x F).trans D) h) J
def zpd {x:Str}{v:V}{u:Value}{pos:Pos}(q:Gl X x)(B:X.mg x=none)(D:bootBuiltins x=some u)(r:yG v u)(F:x ≠ "__name__" := by decide)(J:(x==("__debug__" : Str))=false:=by decide):PE X (.Name x pos) (tC v):=
 λ_ _ _ H _ I h=>zbq I q B D ⟨v,H,I,r,h⟩ F J
variable {a b:Expr}{ta tb:TE}{pos:Pos}
def PC (X:Cx)(D:CmpOp)(a b:Expr)(t:TE):Prop:=
 ∀ (pins:List (Addr×Obj)) (s:Shared) (σ:St) (H:Hp) (Q:VK),Inv X pins σ H s->t σ H Q->
  wpAny (model X.prog X.w) X.A (eval a X.env) (λv q=>wpAny (model X.prog X.w) X.A (eval b X.env) (λu B=>wpAny (model X.prog X.w) X.A (compareOp D v u) (EP X pins σ Q) X.xe B) X.xe q) X.xe s
def zhn(b:Expr)(h:q≠.In)(h2:q≠.NotIn):behindInMarks q b=false:=by
 have B:(q==CmpOp.In)=false:=by cases q <;> first | rfl | exact absurd rfl h
 have D:(q==CmpOp.NotIn)=false:=by cases q <;> first | rfl | exact absurd rfl h2
 cases b <;> simp[behindInMarks,B,D]
def zvH (ta:TE):TE:=λσ H Q=>ta σ H λx H1=>Q (.bl (decide (x = .non))) H1
def yG.none_iff(r:yG x v):(v==Value.none)=decide (x = .non):=by
 cases x with
 | non=>cases r;rfl
 | bl _=>cases r;rfl
 | int _=>obtain⟨t,rfl⟩:=r;rfl
 | str _=>obtain⟨t,rfl⟩:=r;rfl
 | byt _=>obtain⟨t,rfl⟩:=r;rfl
 | flt _=>obtain⟨t,rfl⟩:=r;rfl
 | ref _=>cases r;rfl
 | ty _=>cases r;rfl
def zr5 {j pos'}(q:PE X a ta):PC X .Is a (.Constant .none j pos') (zvH ta):=by intro pins s σ H Q I h;refine thn (q pins s σ H _ I h)  ?_;rintro v F ⟨x,H1,I1,B,D⟩;exact Constant_none (is_none_gen ⟨.bl _,H1,I1,by rw[B.none_iff];rfl,D⟩)
def tB (t:TE):TT:=λσ H Q=>t σ H λx H1=>∃c,x = .bl c/\Q c H1
def zsq(h:PC X B a b t)(h1:behindInMarks B b=false:=by first | exact zhn _ (by decide) (by decide) | rfl):PT X (.Compare a [B] [b] pos) (tB t):=by intro pins s σ H Q I D;refine wpAny_isTrue_Compare1 (thn (h pins s σ H _ I D) λv L h1=>thn h1 λu O h2=>thn h2 λc U ⟨x,H1,I1,F,J⟩=>?_) h1;obtain⟨d,rfl,q⟩:=J;cases F;exact b4 ⟨H1,I1,q⟩
def zss(h:PE X e t)(he:∀whole,isTrue e X.env whole=(do let v <- whole;standAt e.pos;holding [v] (truthy v)):=by intro _;rfl):PT X e (tB t):=by intro pins s σ H Q I hw;refine isTrue_plain (thn (h pins s σ H _ I hw) λv s1 ⟨x,H1,I1,r1,q1⟩=>?_) (he _);obtain⟨d,rfl,q⟩:=q1;cases r1;exact b4 ⟨H1,I1,q⟩
variable {tA tB':TT}{zR:List Expr}
def zvE (t u:TT):TT:=λσ H Q=>t σ H λc H1=>if c=true then u σ H1 Q else Q false H1
def tOr (t u:TT):TT:=λσ H Q=>t σ H λc H1=>if c=true then Q true H1 else u σ H1 Q
def tNot (t:TT):TT:=λσ H Q=>t σ H λc H1=>Q (!c) H1
def zpD (q:PT X a tA):PW X (.BoolOp .And [a] pos) tA:=by
 intro B pins s σ H Q I h;refine isTrue_and (thn (q pins s σ H Q I h) λc D e=>?_)
 cases c with
 | true=>exact isTrue_and_nil e
 | false=>exact e
def zsu (q:PT X a tA):PW X (.BoolOp .Or [a] pos) tA:=by
 intro B pins s σ H Q I h;refine isTrue_or (thn (q pins s σ H Q I h) λc D e=>?_)
 cases c with
 | false=>exact isTrue_or_nil e
 | true=>exact e
def zst (B:PT X a tA)(D:PW X (.BoolOp .And (b::zR) pos) tB'):PW X (.BoolOp .And (a::b::zR) pos) (zvE tA tB'):=by
 intro F pins s σ H Q I h;refine isTrue_and (thn (B pins s σ H _ I h)  ?_);rintro c J ⟨H1,I1,q⟩
 cases c with
 | true=>exact D F pins J σ H1 Q I1 q
 | false=>exact⟨H1,I1,q⟩
def zvp (B:PT X a tA)(D:PW X (.BoolOp .Or (b::zR) pos) tB'):PW X (.BoolOp .Or (a::b::zR) pos) (tOr tA tB'):=by
 intro F pins s σ H Q I h;refine isTrue_or (thn (B pins s σ H _ I h)  ?_);rintro c J ⟨H1,I1,q⟩
 cases c with
 | true=>exact⟨H1,I1,q⟩
 | false=>exact D F pins J σ H1 Q I1 q
def zsr (q:PT X a tA):PT X (.UnaryOp .Not a pos) (tNot tA):=by intro pins s σ H Q I h;exact isTrue_not (q pins s σ H (λc H1=>Q (!c) H1) I h)
def zs6 (ta tb:TE):TE:=λσ H Q=>ta σ H λx H1=>∃c,x = .bl c/\if c=true then tb σ H1 Q else Q (.bl false) H1
def ztc (ta:TE):TE:=λσ H Q=>ta σ H λx H1=>∃c,x = .bl c/\Q (.bl (!c)) H1
def zsa{op}(h:PE X a t):PE X (.BoolOp op [a] pos) t:=λpins s σ H Q I q=>BoolOp_one (h pins s σ H Q I q)
def zr6 (B:PE X a ta)(D:PE X (.BoolOp .And (b::zR) pos) tb):PE X (.BoolOp .And (a::b::zR) pos) (zs6 ta tb):=by
 intro pins s σ H Q I h;refine BoolOp_and (thn (B pins s σ H _ I h)  ?_);rintro v F ⟨x,H1,I1,J,q⟩;obtain⟨c,rfl,q⟩:=q;cases J;refine b4 ?_
 cases c with
 | true=>exact D pins F σ H1 Q I1 q
 | false=>exact⟨.bl false,H1,I1,rfl,q⟩
def zr9 (B:PE X a ta):PE X (.UnaryOp .Not a pos) (ztc ta):=by intro pins s σ H Q I h;refine UnaryOp_ (thn (B pins s σ H _ I h)  ?_);rintro v F ⟨x,H1,I1,D,q⟩;obtain⟨c,rfl,q⟩:=q;cases D;exact not_of (b4 ⟨.bl (!c),H1,I1,rfl,q⟩)
def tIf (t:TT)(ta tb:TE):TE:=λσ H Q=>t σ H λc H1=>if c=true then ta σ H1 Q else tb σ H1 Q
def zml(D:PT X c tA)(F:PE X a ta)(J:PE X b tb):PE X (.IfExp c a b pos) (tIf tA ta tb):=by
 intro pins s σ H Q I h;refine wpAny_IfExp (thn (D pins s σ H _ I h)  ?_);rintro d q ⟨H1,I1,B⟩
 cases d with
 | true=>exact F pins q σ H1 Q I1 B
 | false=>exact J pins q σ H1 Q I1 B
end
def SqL (K:PySem.W.Frag)(H:Hp)(a:Addr)(xs:List V):Prop:=
 Rd H a (.lst xs)\/
  ∃ (o:Obj) (its:Array Value) (n:Nat),K.lookup a=some o/\o.cls = .type "list" /\ o.dict=none/\o.data = .seq its n/\its.size<=sizeLine/\yb xs its.toList
def SqT (K:PySem.W.Frag)(H:Hp)(a:Addr)(xs:List V):Prop:=
 Rd H a (.tup xs)\/
  ∃ (o:Obj) (its:Array Value) (n:Nat),K.lookup a=some o/\o.cls = .type "tuple" /\ o.data = .seq its n/\its.size<=sizeLine/\yb xs its.toList
def absV:Value->Option V
 | .none=>some .non
 | .bool b=>some (.bl b)
 | .int i _=>some (.int i)
 | .str x _=>some (.str x)
 | .bytes b _=>some (.byt b)
 | .float b _=>some (.flt b)
 | .ref a=>some (.ref a)
 | .type n=>some (.ty n)
 | _=>none
def yG.abs(r:yG x u):absV u=some x:=by
 cases x with
 | non=>cases r;rfl
 | bl _=>cases r;rfl
 | int _=>obtain⟨t,rfl⟩:=r;rfl
 | str _=>obtain⟨t,rfl⟩:=r;rfl
 | byt _=>obtain⟨t,rfl⟩:=r;rfl
 | flt _=>obtain⟨t,rfl⟩:=r;rfl
 | ref _=>cases r;rfl
 | ty _=>cases r;rfl
def yG.inj(r:yG x u)(q:yG y u):x=y:=bw (r.abs.symm.trans q.abs)
def yb.inj:∀ {xs ys:List V} {q:List Value},yb xs q->yb ys q->xs=ys
 | _,_,_,.nil,.nil=>rfl
 | _,_,_,.cons r t,.cons B t'=>by rw[r.inj B,yb.inj t t']
section
variable {X:Cx}{pins:List (Addr×Obj)}{σ:St}{H:Hp}{s:Shared}{a:Addr}{xs ys:List V}
def SqL.of {K:PySem.W.Frag}(h:H a=some (.lst xs)):SqL K H a xs:=.inl (.inl h)
def SqT.of {K:PySem.W.Frag}(h:H a=some (.tup xs)):SqT K H a xs:=.inl (.inl h)
def Inv.list (I:Inv X pins σ H s)(h:SqL X.K H a xs):∃its:List Value,yb xs its/\PlainL s.heap a its.toArray/\xs.length<=sizeLine:=by
 rcases h with h | ⟨o,its,n,hk,hc,hd,hs,hz,r⟩
 ·obtain⟨z,its,n,r,e⟩:=h.ok I.hok;exact⟨its,r,⟨_,n,e,rfl,rfl,rfl⟩,z⟩
 ·refine⟨its.toList,r,⟨o,n,I.kIn a o hk,hc,hd,by simpa using hs⟩,?_⟩;have e:=r.length
  grind
def Inv.tuple (I:Inv X pins σ H s)(h:SqT X.K H a xs):∃its:List Value,yb xs its/\IsTup s.heap a its.toArray/\xs.length<=sizeLine:=by
 rcases h with h | ⟨o,its,n,hk,hc,hs,hz,r⟩
 ·obtain⟨z,its,r,p⟩:=h.ok I.hok;exact⟨its,r,p.tup,z⟩
 ·refine⟨its.toList,r,⟨o,I.kIn a o hk,hc,n,by simpa using hs⟩,?_⟩;have e:=r.length
  grind
def Inv.list_inj (I:Inv X pins σ H s)(h:SqL X.K H a xs)(h':SqL X.K H a ys):xs=ys:=by
 obtain⟨its,r,⟨o,n,e,_,_,d⟩,_⟩:=I.list h;obtain⟨its',B,⟨o',F,q,_,_,d'⟩,_⟩:=I.list h';rw[e] at q;cases q;rw[d] at d';injection d' with D _;have:its=its':=by simpa using congrArg Array.toList D
 subst this;exact r.inj B
def Inv.tuple_inj (I:Inv X pins σ H s)(h:SqT X.K H a xs)(h':SqT X.K H a ys):xs=ys:=by
 obtain⟨its,r,⟨o,e,_,n,d⟩,_⟩:=I.tuple h;obtain⟨its',B,⟨o',q,_,F,d'⟩,_⟩:=I.tuple h';rw[e] at q;cases q;rw[d] at d';injection d' with D _;have:its=its':=by simpa using congrArg Array.toList D
 subst this;exact r.inj B
end
abbrev Cx.wish (X:Cx)(E:Value->Shared->Prop):Cx:={ X with xe:=E }
abbrev Cx.nox (X:Cx):Cx:=X.wish λ_ _=>False
def Cx.Ok.wish {X:Cx}(q:X.Ok)(E:Value->Shared->Prop):(X.wish E).Ok:=
 ⟨q.mod,q.kind,q.glob,q.blt,q.above,q.inj,q.has,q.cab,q.hd,q.frames,q.stk,q.exf,q.bs,q.bsz,q.noex,q.exfs,q.funs,q.frf⟩
def Cx.Ok.unwish{X:Cx}(q:(X.wish E).Ok):X.Ok:=
 ⟨q.mod,q.kind,q.glob,q.blt,q.above,q.inj,q.has,q.cab,q.hd,q.frames,q.stk,q.exf,q.bs,q.bsz,q.noex,q.exfs,q.funs,q.frf⟩
section
variable {X:Cx}{pins:List (Addr×Obj)}{σ:St}{H:Hp}{s:Shared}{E:Value->Shared->Prop}
def Inv.wish (I:Inv X pins σ H s)(E:Value->Shared->Prop):Inv (X.wish E) pins σ H s:=⟨I.ok.wish E,I.os,I.bare,I.base,I.loc,I.cell,I.free,I.freeC,I.pin,I.hok,I.len⟩
def Inv.unwish (I:Inv (X.wish E) pins σ H s):Inv X pins σ H s:=⟨I.ok.unwish,I.os,I.bare,I.base,I.loc,I.cell,I.free,I.freeC,I.pin,I.hok,I.len⟩
def SP.unwish(h:SP (X.wish E) pins D f s'):SP X pins D f s':=by
 cases f with
 | next=>obtain⟨B,H',I,q⟩:=h;exact⟨B,H',I.unwish,q⟩
 | brk=>obtain⟨B,H',I,q⟩:=h;exact⟨B,H',I.unwish,q⟩
 | cont=>obtain⟨B,H',I,q⟩:=h;exact⟨B,H',I.unwish,q⟩
 | ret u=>obtain⟨v,B,H',I,r,q⟩:=h;exact⟨v,B,H',I.unwish,r,q⟩
def PSs.nox{st:List Stmt}(h:PSs X.nox st t):PSs X st t:=λpins s σ H D I B=>
 aU (h pins s σ H D (I.wish _) B) (λ_ _ q=>q.unwish) λ_ _ z=>False.elim z
end
section
variable {X:Cx}{st:Stmt}{zR:List Stmt}{t u:TS}{e:Expr}{te:TE}{pos:Pos}
def ztb:TS:=λD σ H=>D.nx σ H
def zvI (t u:TS):TS:=λD σ H=>t { D with nx:=u D } σ H
def zpy:PSs X [] ztb:=λ_ _ σ H _ I h=>er ⟨σ,H,I,h⟩
def zmu (h1:PS X st t)(h2:PSs X zR u):PSs X (st::zR) (zvI t u):=by
 intro pins s σ H D I h;refine wpAny_execs_cons (thn (h1 pins s σ H { D with nx:=u D } I h) λf F q=>?_)
 cases f with
 | next=>
  obtain⟨B,H',I',q⟩:=q;exact h2 pins F B H' D I' q
 | ret v=>exact q
 | brk=>exact q
 | cont=>exact q
def zpz (h1:PS X st t):PSs X [st] t:=by
 intro pins s σ H D I h;refine wpAny_execs_cons (thn (h1 pins s σ H D I h) λf B q=>?_)
 cases f with
 | next=>exact er q
 | ret v=>exact q
 | brk=>exact q
 | cont=>exact q
def Inv.quiet{pins:List (Addr×Obj)}{σ:St}{H:Hp}(I:Inv X pins σ H s):interactive X.env=false:=by simp[interactive,I.ok.kind]
def zqh (te:TE):TS:=λD σ H=>te σ H λ_ H1=>D.nx σ H1
def zpx (q:PE X e te)(hs:swapsWith e none pos.line X.env=pure false:=by rfl):PS X (.Expr e pos) (zqh te):=by intro pins s σ H D I h;exact wpAny_Expr_any (thn (q pins s σ H _ I h) <| by rintro v F ⟨x,H1,I1,J,B⟩;exact⟨σ,H1,I1,B⟩) I.quiet hs
def zt2 (te:TE):TS:=λD σ H=>te σ H D.rt
def zso (q:PE X e te):PS X (.Return (some e) pos) (zt2 te):=by intro pins s σ H D I h;exact wpAny_Return_some (thn (q pins s σ H _ I h) <| by rintro v J ⟨x,H1,I1,B,F⟩;exact⟨x,σ,H1,I1,B,F⟩)
def tIfS (c:TT)(t u:TS):TS:=λD σ H=>c σ H λb H1=>if b=true then t D σ H1 else u D σ H1
def zvo(F:PT X c tc)(J:PSs X a t)(L:PSs X b u):PS X (.If c a b pos) (tIfS tc t u):=by
 intro pins s σ H D I h;refine wpAny_If (thn (F pins s σ H _ I h)  ?_);rintro d q ⟨H1,I1,B⟩
 cases d with
 | true=>exact J pins q σ H1 D I1 B
 | false=>exact L pins q σ H1 D I1 B
end
abbrev TG:=V->St->Hp->(St->Hp->Prop)->Prop
abbrev TGs:=List V->St->Hp->(St->Hp->Prop)->Prop
def PG (X:Cx)(q:Expr)(t:TG):Prop:=
 ∀ (pins:List (Addr×Obj)) (s:Shared) (σ:St) (H:Hp) (v:V) (u:Value) (Q:St->Hp->Prop),Inv X pins σ H s->yG v u->t v σ H Q->
  wpAny (model X.prog X.w) X.A (assign q X.env u) (λ_ s'=>∃ B H',Inv X pins B H' s'/\Q B H') X.xe s
def PGs (X:Cx)(D:List Expr)(t:TGs):Prop:=
 ∀ (pins:List (Addr×Obj)) (s:Shared) (σ:St) (H:Hp) (vs:List V) (B:List Value) (Q:St->Hp->Prop),Inv X pins σ H s->yb vs B->t vs σ H Q->
  wpAny (model X.prog X.w) X.A (assignInOrder ((assignEach D X.env).map (·.2)) B) (λ_ s'=>∃ q H',Inv X pins q H' s'/\Q q H') X.xe s
abbrev zua:=V->V->V->Hp->(Hp->Prop)->Prop
def PSet (X:Cx)(t:zua):Prop:=
 ∀ (pins:List (Addr×Obj)) (s:Shared) (σ:St) (H:Hp) (o i v:V) (q B u:Value) (Q:Hp->Prop),Inv X pins σ H s->yG o q->yG i B->yG v u->t o i v H Q->
  wpAny (model X.prog X.w) X.A (setItem q B u) (λ_ s'=>∃H',Inv X pins σ H' s'/\Q H') X.xe s
abbrev TIp:=V->V->Hp->VK->Prop
def PIp (X:Cx)(q:Operator)(t:TIp):Prop:=
 ∀ (pins:List (Addr×Obj)) (s:Shared) (σ:St) (H:Hp) (x y:V) (v u:Value) (Q:VK),Inv X pins σ H s->yG x v->yG y u->t x y H Q->
  wpAny (model X.prog X.w) X.A (inplaceOp q v u) (EP X pins σ Q) X.xe s
section
variable {X:Cx}{pos:Pos}
def uW (i:Nat):TG:=λv σ H Q=>Q (σ.set i (some v)) H
def zpm(q:X.N.Nodup)(hi:X.N[i]?=some x)(B:Loc X.env.scope x)(D:X.fn x=true\/X.env.scope.names.lookup x=some .local:=by walk_at "l"):PG X (.Name x pos) (uW i):=by intro pins s σ H v u Q I r h;exact wpAny_assign_Name (zez I q hi B r (λs' I'=>⟨_,H,I',h⟩) D)
def gNil:TGs:=λvs σ H Q=>vs=[]/\Q σ H
def zrh (t:TG)(u:TGs):TGs:=λvs σ H Q=>∃v r,vs=v::r/\t v σ H λq H'=>u r q H' Q
def zpn:PGs X [] gNil:=by intro pins s σ H vs q Q I r h;obtain⟨e,h⟩:=h;subst e;cases r;exact assignInOrder_nil ⟨σ,H,I,h⟩
def zmp(h1:PG X e t)(h2:PGs X es u)(hs:(assignEach (e::es) X.env).map (·.2)=assign e X.env::(assignEach es X.env).map (·.2):=by rfl):PGs X (e::es) (zrh t u):=by
 intro pins s σ H vs L Q I r h;obtain⟨v,O,B,h⟩:=h;subst B
 cases r with
 | cons r D=>
  rw[hs];refine assignInOrder_cons (thn (h1 pins s σ H _ _ _ I r h)  ?_);rintro _ F ⟨q,H1,I1,J⟩;exact h2 pins F q H1 _ _ Q I1 D J
def zuB (K:PySem.W.Frag)(n:Nat)(t:TGs):TG:=λv σ H Q=>∃a xs,v = .ref a/\SqT K H a xs/\xs.length=n/\t xs σ H Q
def zsj {es:List Expr}{k:Nat}{t:TGs}{n:Nat}(F:X.calm=true)(h:PGs X es t)
  (J:(assignEach es X.env).length=n:=by rfl) (q:(assignEach es X.env).findIdx? (·.1)=none:=by rfl):PG X (.Tuple es k pos) (zuB X.K n t):=by
 intro pins s σ H v u Q I r B;obtain⟨a,xs,L,O,U,B⟩:=B;subst L;cases r;obtain⟨its,D,Y,hz⟩:=I.tuple O;refine assign_Tuple_tuple (I.ok.hd F) Y (by simp[J,<- U,D.length]) q λh' Z=>?_;have I1:Inv X pins σ H { s with heap:=h' }:=I.kept (t':=s.toks) λb o e=>Z b o (aJ (ax e)) e;exact h pins _ σ H xs _ Q I1 (by simpa using D) B
def gSub (to ti:TE)(t:zua):TG:=λv σ H Q=>to σ H λo H1=>ti σ H1 λi H2=>t o i v H2 λH3=>Q σ H3
def zsi(ho:PE X o to)(hi:PE X i ti)(hs:PSet X t)(ha:∀v,assign (.Subscript o i pos) X.env v=(do
   let ov <- holding [v] (eval o X.env)
   let iv <- holding [v,ov] (eval i X.env)
   standAt pos
   holding [v,ov,iv] (setItem ov iv v)
   release [v,ov,iv] []):=by intro _;rfl):PG X (.Subscript o i pos) (gSub to ti t):=by
 intro pins s σ H v u Q I r h;rw[ha];refine aa (be (thn (ho pins s σ H _ I h)  ?_));rintro ov s1 ⟨x,H1,I1,r1,q1⟩;refine aa (be (thn (hi pins s1 σ H1 _ I1 q1)  ?_));rintro iv s2 ⟨y,H2,I2,r2,q2⟩;refine aa (bM (aa (be (thn (hs pins s2 σ H2 x y v ov iv u _ I2 r1 r2 r q2)  ?_))));rintro _ s3 ⟨H3,I3,q3⟩;exact wpAny_release ⟨σ,H3,I3,q3⟩
def zfP (te:TE)(g:TG):TS:=λD σ H=>te σ H λx H1=>g x σ H1 D.nx
def zsl(B:PE X e te)(F:PG X tg g)(hs:swapsWithSole [tg] e pos.line X.env=pure false:=by rfl)(J:swappedStores [tg] e X.env=pure none:=by rfl)(h1:(assignEach [tg] X.env).map (·.2)=[assign tg X.env]:=by rfl):PS X (.Assign [tg] e pos) (zfP te g):=by
 intro pins s σ H D I h;refine wpAny_Assign_stores (thn (B pins s σ H _ I h) λv L ⟨x,H1,I1,O,U⟩=>?_) hs J;rw[h1];exact thn (F pins L σ H1 x v _ I1 O U) λ_ Y q=>q
def zsp(q:X.N.Nodup)(hi:X.N[i]?=some x)(B:Loc X.env.scope x)(F:PE X e te)(hs:swapsWith e (some (.Name x pos')) pos.line X.env=pure false:=by rfl)(J:X.fn x=true\/X.env.scope.names.lookup x=some .local:=by walk_at "l") :
  PS X (.Assign [.Name x pos'] e pos) (zfP te (uW i)):=by
 intro pins s σ H D I h;refine wpAny_Assign_Name (thn (F pins s σ H _ I h) λv U ⟨y,H1,I1,L,O⟩=>?_) hs;exact zez I1 q hi B L (λY I2=>⟨_,H1,I2,O⟩) J
def tAug (i:Nat)(te:TE)(ti:TIp):TS:=λD σ H=>∃x,σ[i]?=some (some x)/\te σ H λy H1=>ti x y H1 λz H2=>D.nx (σ.set i (some z)) H2
def zsm(Y:X.N.Nodup)(hi:X.N[i]?=some x)(L:Loc X.env.scope x)(Z:PE X e te)(ho:PIp X J ti)(hf:X.fn x=true\/X.env.scope.names.lookup x=some .local:=by walk_at "l") :
  PS X (.AugAssign (.Name x pos') J e pos) (tAug i te ti):=by
 intro pins s σ H D I h;obtain⟨v,e1,h⟩:=h;obtain⟨m,hn,hl⟩:=I.loc;have O:Vis X.env.scope x:=by rcases L with k | k;exact .inl k;exact .inr (.inl k)
 obtain⟨u,r,l⟩:=hl i x v hi e1 O;refine wpAny_AugAssign_Name ?_
 have U:wpAny (model X.prog X.w) X.A (eval e X.env) (λw B=>wpAny (model X.prog X.w) X.A (inplaceOp J u w) (λr F=>wpAny (model X.prog X.w) X.A (storeName X.env x r) (λ_=>SP X pins D .next) X.xe F) X.xe B) X.xe s:=by refine thn (Z pins s σ H _ I h)  ?_;rintro w s1 ⟨y,H1,I1,r1,q1⟩;refine thn (ho pins s1 σ H1 v y u w _ I1 r r1 q1)  ?_;rintro z s2 ⟨zv,H2,I2,r2,q2⟩;exact zez I2 Y hi L r2 (λs3 I3=>⟨_,H2,I3,q2⟩) hf
 rcases l with ⟨q,hm⟩ | ⟨q,c,hc,hcell⟩
 ·exact wpAny_loadName_local I.ok.kind q hn hm U
 ·rcases q with q | q
  ·exact wpAny_loadName_cell I.ok.kind q hc hcell U
  ·rcases L with k | k
   ·have:X.env.scope.names.lookup x=some .free:=q
    simp_all
   ·have:X.env.scope.names.lookup x=some .free:=q
    simp_all
def ipI (f:Int->Int->Int):TIp:=λx y H Q=>∃i j,x = .int i/\y = .int j/\Q (.int (f i j)) H
def zro:PIp X .Add (ipI λi j=>i+j):=by intro pins s σ H x y v u Q I B D h;obtain⟨i,j,F,J,q⟩:=h;subst F;subst J;obtain⟨t,rfl⟩:=B;obtain⟨t',rfl⟩:=D;exact iadd_int ⟨.int _,H,I.tok _,⟨_,rfl⟩,q⟩
end
section
variable {X:Cx}{pos:Pos}
def zth (c:TT)(tb:TS):TS:=λD σ H=>∃W:Nat->St->Hp->Prop,(∃m,W m σ H)/\∀m σ H,W m σ H->
 c σ H λb H1=>if b=true then ∃N:St->Hp->Prop,(∀ q H',N q H'->∃B,B<m/\W B q H')/\tb { D with nx:=N,ct:=N,bk:=D.nx } σ H1 else D.nx σ H1
def zmt(hp:PassesOwn (model X.prog X.w) X.A X.env X.xe)(hc:PT X c tc)(hb:PSs X body tb):PS X (.While c body [] pos) (zth tc tb):=by
 intro pins s σ H D I h;obtain⟨W,⟨m0,w0⟩,F⟩:=h;refine wpAny_While (codeAny_whileLoop (λn s'=>∃ J H',Inv X pins J H' s'/\W n J H') ?_ m0 ⟨σ,H,I,w0⟩);rintro n s1 ⟨B,H1,I1,w1⟩;refine cG hp (thn (hc pins s1 B H1 _ I1 (F n B H1 w1))  ?_);rintro b s2 ⟨H2,I2,L⟩
 cases b with
 | true=>
  obtain⟨N,hN,L⟩:=L;rw[if_pos rfl];refine cG hp (thn (hb pins s2 B H2 _ I2 L) λf s3 O=>?_)
  cases f with
  | next=>
   obtain⟨q,H3,I3,U⟩:=O;obtain⟨Y,Z,w3⟩:=hN q H3 U;exact⟨Y,Z,q,H3,I3,w3⟩
  | cont=>
   obtain⟨q,H3,I3,U⟩:=O;obtain⟨Y,Z,w3⟩:=hN q H3 U;exact⟨Y,Z,q,H3,I3,w3⟩
  | brk=>exact O
  | ret v=>exact O
 | false=>
  rw[if_neg aI];exact er ⟨B,H2,I2,L⟩
end
structure It where
 go:Nat->Hp->Prop
 yld:Nat->Hp->V->Hp->Prop
 stop:Nat->Hp->Prop
def zeF (X:Cx)(pins:List (Addr×Obj))(H:Hp)(b:Addr):Prop:=
 H b=none/\b≠X.env.locals/\b∉X.fs/\(b∈X.ex\/X.s₀.heap.objs.size<=b)/\(∀x c,X.env.cells.lookup x=some c->c≠b)/\∀p∈X.pn++pins,p.1≠b
def Inv.fpOk {X:Cx}{pins:List (Addr×Obj)}{σ:St}{H H':Hp}{s:Shared}{b:Addr}(I:Inv X pins σ H s)(B:s.heap.objs.size<=b)(D:H' b=none):zeF X pins H' b:=by
 refine⟨D,dh (a6 I.lt B),I.nofs B,.inr (ay I.sz B),λx c e z=>?_,λp F z=>?_⟩
 ·obtain⟨v,q⟩:=I.cell x c e;exact absurd (a6 q.lt (by rw[z];exact B)) (cA _)
 ·exact absurd (a6 (ax (I.pin p F).1) (by rw[z];exact B)) (cA _)
structure Turn (P:Program)(w:World)(K:PySem.W.Frag)(tg:Expr)(J:It)(fp:List Addr)(it:Addr)(tn:Nat->Heap->Prop):Prop where
 mem:it∈fp
 obj:∀i h,tn i h->∀b∈fp,∃o,h.get? b=some o/\∀v,o.data≠.cell v
 keep:∀i h h',tn i h->(∀b∈fp,∀o,h.get? b=some o->h'.get? b=some o)->tn i h'
 item:∀ (X:Cx),X.prog=P->X.w=w->X.K=K->X.calm=true->∀ (i:Nat) (pins:List (Addr×Obj)) (s:Shared) (σ:St) (H:Hp) (E:Value->Shared->Prop),Inv X pins σ H s->(∀b∈fp,zeF X pins H b)->tn i s.heap->J.go i H->
  wpAny (model P w) X.A (pyNext (.ref it)) (λr s1=>∃u,r=some u/\
   wpAny (model P w) X.A (letOwnedTupleGo tg (.ref it) u) (λ_ s2=>∃x H',Inv X pins σ H' s2/\yG x u/\J.yld i H x H'/\tn (i+1) s2.heap/\∀b∈fp,H' b=none) E s1) E s
 done:∀ (X:Cx),X.prog=P->X.w=w->X.K=K->X.calm=true->∀ (i:Nat) (pins:List (Addr×Obj)) (s:Shared) (σ:St) (H:Hp) (E:Value->Shared->Prop),Inv X pins σ H s->(∀b∈fp,zeF X pins H b)->tn i s.heap->J.stop i H->
  wpAny (model P w) X.A (pyNext (.ref it)) (λr s1=>r=none/\Inv X pins σ H s1) E s
 self:∀ (A:Around) (i:Nat) (s:Shared) (Q:Value->Shared->Prop) (E:Value->Shared->Prop),tn i s.heap->Q (.ref it) s->wpAny (model P w) A (pyIter (.ref it)) Q E s
abbrev TI:=St->Hp->(It->Hp->Prop)->Prop
def PIE (X:Cx)(pins:List (Addr×Obj))(σ:St)(tg:Expr)(R:It->Hp->Prop)(q:Value)(B:Shared):Prop:=
 ∃ (D:Addr) (fp:List Addr) (F:Nat->Heap->Prop) (J:It) (H':Hp),q = .ref D/\Inv X pins σ H' B/\Turn X.prog X.w X.K tg J fp D F/\F 0 B.heap/\(∀b∈fp,zeF X pins H' b)/\R J H'
def PI (X:Cx)(tg iter:Expr)(wi:TI):Prop:=
 ∀ (pins:List (Addr×Obj)) (s:Shared) (σ:St) (H:Hp) (R:It->Hp->Prop),Inv X pins σ H s->wi σ H R->
  wpAny (model X.prog X.w) X.A (eval iter X.env) (λv q=>wpAny (model X.prog X.w) X.A (pyIter v) (PIE X pins σ tg R) X.xe q) X.xe s
def zlG(D:s.heap.get? B=some o)(F:o.cls = .type n)(I:o.data = .fields vs)(J:["enumerate","zip","dict_itemiterator","dict_reverseitemiterator","odict_iterator","itertools.zip_longest","itertools.pairwise"].contains n=false)(q:Q () s):wpAny M A (letOwnedTupleGo tg (.ref B) u) Q E s:=by
 unfold letOwnedTupleGo
 cases tg <;> first
  | exact ae q
  | (cases u <;> first
    | exact ae q
    | (refine aa (wpAny_load D ?_)
       rw[F,I];show wpAny M A (if (["enumerate","zip","dict_itemiterator","dict_reverseitemiterator","odict_iterator","itertools.zip_longest","itertools.pairwise"].contains n&&vs[0]?==some (rawInt _))=true then _ else _) Q E s;rw[if_neg (by lia)];exact ae q))
def Itl (K:PySem.W.Frag)(a:Addr):It:=
 ⟨λi H=>∃xs x,SqL K H a xs/\xs[i]?=some x,λi H x H'=>H'=H/\∀xs,SqL K H a xs->xs[i]?=some x,λi H=>∃xs,SqL K H a xs/\xs.length<=i⟩
def Itt (K:PySem.W.Frag)(a:Addr):It:=
 ⟨λi H=>∃xs x,SqT K H a xs/\xs[i]?=some x,λi H x H'=>H'=H/\∀xs,SqT K H a xs->xs[i]?=some x,λi H=>∃xs,SqT K H a xs/\xs.length<=i⟩
def Itr (lo:Int)(n:Nat):It:=⟨λi _=>i<n,λi H x H'=>H'=H/\x = .int (lo+i),λi _=>n<=i⟩
def zkY{P:Program}{w:World}{K:PySem.W.Frag}(a q:Addr):Turn P w K tg (Itl K a) [q] q (λi h=>h.IsListIter q a i) where
 mem:=by simp
 obj:=λi h st b B=>by
  have e:b=q:=by simpa using B
  subst e;obtain⟨o,e,c,d⟩:=st
  simp_all
 keep:=λi h h' st k=>st.at λo e=>k q (by simp) o e
 item:=by intro X L O U hc i pins s σ H E I F st Y;subst L O U;obtain⟨xs,x,J,Z⟩:=Y;obtain⟨its,rv,p,hz⟩:=I.list J;obtain⟨u,hu,ru⟩:=rv.get Z;obtain⟨f0,f1,f2,f3,f4,f5⟩:=F q (by simp);refine dA st p.isList (x:=u) (by simpa using hu) λh' D sb=>?_;have I1:Inv X pins σ H { s with heap:=h' }:=I.turned (t':=s.toks) (λb o B e=>(sb.2 b B).trans e) f0 f1 f3 f4 f5;obtain⟨o,e,c,d⟩:=id D;exact⟨u,rfl,zlG (s:={ s with heap:=h' }) e c d (by decide) ⟨x,H,I1,ru,⟨rfl,λys hy=>by rw[I.list_inj hy J];exact Z⟩,D,λb B=>(F b B).1⟩⟩
 done:=by intro X L O U hc i pins s σ H E I F st Y;subst L O U;obtain⟨xs,J,Z⟩:=Y;obtain⟨its,rv,p,hz⟩:=I.list J;obtain⟨f0,f1,f2,f3,f4,f5⟩:=F q (by simp);have hl:=rv.length;exact dO (I.ok.hd hc) st p.isList (by simp;lia) λh' eb=>⟨rfl,I.turned (t':=s.toks) (λb o B e=>eb b o B e) f0 f1 f3 f4 f5⟩
 self:=λ_ _ _ _ _ st h=>wpAny_pyIter_listiter st h
def ziq{P:Program}{w:World}{K:PySem.W.Frag}(a q:Addr):Turn P w K tg (Itt K a) [q] q (λi h=>h.IsTupleIter q a i) where
 mem:=by simp
 obj:=λi h st b B=>by
  have e:b=q:=by simpa using B
  subst e;obtain⟨o,e,c,d⟩:=st
  simp_all
 keep:=λi h h' st k=>st.at λo e=>k q (by simp) o e
 item:=by intro X L O U hc i pins s σ H E I F st Y;subst L O U;obtain⟨xs,x,J,Z⟩:=Y;obtain⟨its,rv,p,hz⟩:=I.tuple J;obtain⟨u,hu,ru⟩:=rv.get Z;obtain⟨f0,f1,f2,f3,f4,f5⟩:=F q (by simp);refine wpAny_pyNext_tuple_item st (show s.heap.IsTuple a its.toArray from p) (x:=u) (by simpa using hu) λh' D sb=>?_;have I1:Inv X pins σ H { s with heap:=h' }:=I.turned (t':=s.toks) (λb o B e=>(sb.2 b B).trans e) f0 f1 f3 f4 f5;obtain⟨o,e,c,d⟩:=id D;exact⟨u,rfl,zlG (s:={ s with heap:=h' }) e c d (by decide) ⟨x,H,I1,ru,⟨rfl,λys hy=>by rw[I.tuple_inj hy J];exact Z⟩,D,λb B=>(F b B).1⟩⟩
 done:=by intro X L O U hc i pins s σ H E I F st Y;subst L O U;obtain⟨xs,J,Z⟩:=Y;obtain⟨its,rv,p,hz⟩:=I.tuple J;obtain⟨f0,f1,f2,f3,f4,f5⟩:=F q (by simp);have hl:=rv.length;exact wpAny_pyNext_tuple_end (I.ok.hd hc) st (show s.heap.IsTuple a its.toArray from p) (by simp;lia) λh' eb=>⟨rfl,I.turned (t':=s.toks) (λb o B e=>eb b o B e) f0 f1 f3 f4 f5⟩
 self:=λ_ _ _ _ _ st h=>wpAny_pyIter_tupleiter st h
def zio{P:Program}{w:World}{K:PySem.W.Frag}(q:Addr)(lo:Int)(n:Nat):Turn P w K tg (Itr lo n) [q] q (λi h=>IsRangeIter h q (lo+(i:Nat) * 1) ((n:Int) - (i:Nat)) 1) where
 mem:=by simp
 obj:=λi h st b B=>by simp_all
 keep:=λi h h' st k=>k q (by simp) _ st
 item:=by intro X J L O U i pins s σ H E I F st Y;subst J L O;obtain⟨Z,f1,f2,f3,f4,f5⟩:=F q (by simp);have W:=Walks.range (prog:=X.prog) (w:=X.w) (I.ok.hd U) q lo 1 n;refine W.item i s _ _ Y st λv h' tk hv D kk=>?_;obtain⟨t,rfl⟩:=hv;have I1:Inv X pins σ H { s with heap:=h',toks:=tk }:=I.turned (λb o B e=>kk b o (by simpa using B) e) Z f1 f3 f4 f5;refine⟨_,rfl,zlG (s:={ s with heap:=h',toks:=tk }) (n := "range_iterator") D rfl rfl (by decide) ⟨.int (lo+i),H,I1,⟨t,?_⟩,⟨rfl,rfl⟩,D,λb B=>(F b B).1⟩⟩;rw[Int.mul_one]
 done:=by intro X J L O U i pins s σ H E I F st Y;subst J L O;obtain⟨Z,f1,f2,f3,f4,f5⟩:=F q (by simp);exact wpAny_pyNext_range_end (I.ok.hd U) st (by have:n<=i:=Y;lia) λh' eb=>⟨rfl,I.turned (t':=s.toks) (λb o B e=>eb b o B e) Z f1 f3 f4 f5⟩
 self:=λ_ _ _ _ _ st h=>wpAny_pyIter_rangeiter st h
section
variable {X:Cx}{tg:Expr}
def zow (K:PySem.W.Frag)(tl:TE):TI:=λσ H R=>tl σ H λx H1=>∃a,x = .ref a/\(∃xs,SqL K H1 a xs)/\R (Itl K a) H1
def zuD (K:PySem.W.Frag)(tl:TE):TI:=λσ H R=>tl σ H λx H1=>∃a,x = .ref a/\(∃xs,SqT K H1 a xs)/\R (Itt K a) H1
def zpo(D:PE X l tl):PI X tg l (zow X.K tl):=by
 intro pins s σ H R I h;refine thn (D pins s σ H _ I h)  ?_;rintro v B ⟨x,H1,I1,F,J⟩;obtain⟨a,e,⟨xs,L⟩,q⟩:=J;subst e;cases F;obtain⟨its,U,p,Y⟩:=I1.list L;refine cV p.isList ?_;refine⟨B.heap.objs.size,[B.heap.objs.size],_,_,H1,rfl,I1.kept (t':=B.toks) λb o e=>af _ e,zkY a _,⟨_,aq _ rfl,rfl,rfl⟩,λb O=>?_,q⟩;have e:b=B.heap.objs.size:=by simpa using O
 subst e;exact I1.fpOk (ai _) (I1.hok.fresh (ai _))
def zsk(D:PE X l tl):PI X tg l (zuD X.K tl):=by
 intro pins s σ H R I h;refine thn (D pins s σ H _ I h)  ?_;rintro v B ⟨x,H1,I1,F,J⟩;obtain⟨a,e,⟨xs,L⟩,q⟩:=J;subst e;cases F;obtain⟨its,U,p,Y⟩:=I1.tuple L;refine eK (show B.heap.IsTuple a its.toArray from p) ?_;refine⟨B.heap.objs.size,[B.heap.objs.size],_,_,H1,rfl,I1.kept (t':=B.toks) λb o e=>af _ e,ziq a _,⟨_,aq _ rfl,rfl,rfl⟩,λb O=>?_,q⟩;have e:b=B.heap.objs.size:=by simpa using O
 subst e;exact I1.fpOk (ai _) (I1.hok.fresh (ai _))
def zmI{pins:List (Addr×Obj)}{σ:St}{H:Hp}{s:Shared}{R:It->Hp->Prop}{E:Value->Shared->Prop}{lo hi:Int}{t u v:Tok}(I:Inv X pins σ H s)(h1:-(2 ^ 62)<=lo)(h2:lo<2 ^ 62)(B:-(2 ^ 62)<=hi)(D:hi<2 ^ 62)(q:R (Itr lo (hi - lo).toNat) H):wpAny (model X.prog X.w) X.A (pyIter (.ref s.heap.objs.size)) (PIE X pins σ tg R) E { s with heap:=s.heap.push { cls:=.type "range",data:=.fields #[.int lo t,.int hi u,.int 1 v] },toks:=tk }:=by
 refine wpAny_pyIter_range (IsRange.new ..) (small_one h1 h2 B D) ?_;have I1:Inv X pins σ H { s with heap:=s.heap.push { cls:=.type "range",data:=.fields #[.int lo t,.int hi u,.int 1 v] },toks:=tk }:=I.kept λb o e=>af _ e
 refine⟨(s.heap.push { cls:=.type "range",data:=.fields #[.int lo t,.int hi u,.int 1 v] }).objs.size,[(s.heap.push { cls:=.type "range",data:=.fields #[.int lo t,.int hi u,.int 1 v] }).objs.size],_,_,H,rfl,
  I1.kept (t':=tk) λb o e=>af _ e,zio _ lo (hi - lo).toNat,?_,λb F=>?_,q⟩
 ·have J:lo+((0:Nat):Int) * 1=lo:=by simp
  have L:(((hi - lo).toNat:Nat):Int) - ((0:Nat):Int)=Builtin.Range.rangeSize lo hi 1:=by rw[rangeSize_one];split <;> lia
  show IsRangeIter _ _ (lo+((0:Nat):Int) * 1) ((((hi - lo).toNat:Nat):Int) - ((0:Nat):Int)) 1;rw[J,L];exact aq _ rfl
 ·have e:b=(s.heap.push { cls:=.type "range",data:=.fields #[.int lo t,.int hi u,.int 1 v] }).objs.size:=by simpa using F
  subst e;exact I1.fpOk (ai _) (I1.hok.fresh (ai _))
def zrj (ta:TA):TI:=λσ H R=>ta σ H λvs H1=>∃j:Int,vs=[.int j]/\-(2 ^ 62)<=j/\j<2 ^ 62/\R (Itr 0 j.toNat) H1
def zkn(D:Gl X "range")(F:X.mg "range" = none)(J:PA X [a] ta)(hs:starEach [a] X.env=[(false,eval a X.env)]:=by rfl):PI X tg (.Call (.Name "range" p) [a] [] pos) (zrj ta):=by
 intro pins s σ H R I h;refine Call_ (zbq I D F boot_range (bC (thn (J pos pins s σ H _ I h) λY Z ⟨vs,H1,I1,L,B⟩=>?_) hs rfl));obtain⟨j,e,B,O,q⟩:=B;subst e
 cases L with
 | cons r U=>
  cases U;obtain⟨t,rfl⟩:=r;exact call_range_1 (zmI I1 (by lia) (by lia) B O (by simpa using q))
def zvG (wi:TI)(g:TG)(tb:TS):TS:=λD σ H=>wi σ H λJ H1=>∃W:Nat->Nat->St->Hp->Prop,(∃m,W 0 m σ H1)/\∀i m σ H,W i m σ H->
 (J.stop i H/\D.nx σ H)\/(J.go i H/\∃N:St->Hp->Prop,(∀ q H',N q H'->∃F,F<m/\W (i+1) F q H')/\∀x H',J.yld i H x H'->g x σ H' λB H2=>tb { D with nx:=N,ct:=N,bk:=D.nx } B H2)
def zfx (fp:List Addr)(h:Heap):List (Addr×Obj):=fp.filterMap λb=>(h.get? b).map λo=>(b,o)
def zai(q:b∈fp)(e:h.get? b=some o):(b,o)∈zfx fp h:=cQ.mpr ⟨b,q,by rw[e];rfl⟩
def zkb(B:p∈zfx fp h):p.1∈fp/\h.get? p.1=some p.2:=by
 obtain⟨b,D,e⟩:=cQ.mp B
 cases q:h.get? b with
 | none=>rw[q] at e;cases e
 | some o=>
  grind
def Inv.pinned {pins:List (Addr×Obj)}{σ:St}{H:Hp}{s:Shared}{fp:List Addr}(I:Inv X pins σ H s)(B:∀b∈fp,zeF X pins H b)(D:∀b∈fp,∃o,s.heap.get? b=some o/\∀v,o.data≠.cell v):Inv X (pins++zfx fp s.heap) σ H s:=
 I.pins_of λp F=>(aH.mp F).elim (λz=>I.pin p (aL _ z)) λz=>by
  obtain⟨q,e⟩:=zkb z;obtain⟨J,L,O,_⟩:=B p.1 q;obtain⟨o,U,d⟩:=D p.1 q
  simp_all
def Inv.unpinned{pins pl:List (Addr×Obj)}{σ:St}{H:Hp}(I:Inv X (pins++pl) σ H s):Inv X pins σ H s:=I.pins_of λp q=>I.pin p (aL _ (bE _ q))
def zsn(hp:PassesOwn (model X.prog X.w) X.A X.env X.xe)(hc:X.calm=true)(hi:PI X tg iter wi)(hg:PG X tg g)(B:PSs X body tb)(hs:∀x,foldedSetIterable iter X.env x=pure x:=by intro _;rfl):PS X (.For tg iter body [] pos) (zvG wi g tb):=by
 intro pins s σ H D I h;refine wpAny_For (thn (hi pins s σ H _ I h) λv s1 h1=>thn h1 λav s2 h2=>?_) hs;obtain⟨it,fp,tn,J,H2,e,I2,T,an,f2,W,⟨m0,w0⟩,ad⟩:=h2;subst e;have F:∀ {H':Hp},(∀b∈fp,H' b=none)->∀b∈fp,zeF X pins H' b:=λhn b B=>⟨hn b B,(f2 b B).2⟩;refine codeAny_forLoop_any (λn s'=>∃i L H',Inv X pins L H' s'/\tn i s'.heap/\(∀b∈fp,H' b=none)/\W i n L H') ?_ m0 ⟨0,σ,H2,I2,an,λb B=>(f2 b B).1,w0⟩;rintro n s3 ⟨i,O,H3,I3,ag,al,w3⟩;rcases ad i n O H3 w3 with ⟨stop,qn⟩ | ⟨go,N,hN,step⟩
 ·refine cG hp (thn (T.done X rfl rfl rfl hc i pins s3 O H3 X.xe I3 (F al) ag stop)  ?_);rintro r s4 ⟨hr,I4⟩;subst hr;exact er ⟨O,H3,I4,qn⟩
 ·refine cG hp (thn (T.item X rfl rfl rfl hc i pins s3 O H3 X.xe I3 (F al) ag go)  ?_);rintro r s4 ⟨u,hr,h4⟩;subst hr;refine cG hp (thn h4  ?_);rintro _ s5 ⟨x,H5,I5,r5,y5,Z,ap⟩;have I5':=I5.pinned (F ap) (T.obj _ _ Z);refine cG hp (thn (hg _ s5 O H5 x u _ I5' r5 (step x H5 y5))  ?_);rintro _ s6 ⟨as,H6,I6,q6⟩;refine cG hp (thn (B _ s6 as H6 _ I6 q6) λf s7 Y=>?_)
  have U:∀ {q:St} {H7:Hp},Inv X (pins++zfx fp s5.heap) q H7 s7->N q H7->∃m,m<n/\∃i L H',Inv X pins L H' s7/\tn i s7.heap/\(∀b∈fp,H' b=none)/\W i m L H':=λ{q H7} I7 n7=>by obtain⟨m',hm,w7⟩:=hN q H7 n7;refine⟨m',hm,i+1,q,H7,I7.unpinned,T.keep _ _ _ Z λb B o e=>(I7.pin (b,o) (aL _ (aL _ (zai B e)))).1,λb B=>?_,w7⟩;obtain⟨o,e,d⟩:=T.obj _ _ Z b B;exact (I7.pin (b,o) (aL _ (aL _ (zai B e)))).2.1
  cases f with
  | next=>obtain⟨q,H7,I7,n7⟩:=Y;exact U I7 n7
  | cont=>obtain⟨q,H7,I7,n7⟩:=Y;exact U I7 n7
  | brk=>obtain⟨q,H7,I7,Y⟩:=Y;exact⟨q,H7,I7.unpinned,Y⟩
  | ret v=>obtain⟨x7,q,H7,I7,r7,Y⟩:=Y;exact⟨x7,q,H7,I7.unpinned,r7,Y⟩
end
def zlD {K:PySem.W.Frag}{a:Addr}{xs:List V}{g:TG}{tb:TS}{D:Ends}{σ:St}{H:Hp}(Pv:Nat->St->Hp->Prop)(L:Pv 0 σ H)(O:∀i σ H,i<=xs.length->Pv i σ H->SqL K H a xs)
  (hs:∀i x σ H,xs[i]?=some x->Pv i σ H->g x σ H λB H2=>tb { D with nx:=Pv (i+1),ct:=Pv (i+1),bk:=D.nx } B H2) (U:∀ σ H,Pv xs.length σ H->D.nx σ H) :
  ∃W:Nat->Nat->St->Hp->Prop,(∃m,W 0 m σ H)/\∀i m σ H,W i m σ H->
   ((Itl K a).stop i H/\D.nx σ H)\/((Itl K a).go i H/\∃N:St->Hp->Prop,(∀ F H',N F H'->∃J,J<m/\W (i+1) J F H')/\∀x H',(Itl K a).yld i H x H'->g x σ H' λB H2=>tb { D with nx:=N,ct:=N,bk:=D.nx } B H2):=by
 refine⟨λi m σ H=>m=xs.length - i/\i<=xs.length/\Pv i σ H,⟨xs.length,by simp,aN _,L⟩,?_⟩;rintro i m σ H ⟨rfl,hi,p⟩;have q:=O i σ H hi p;by_cases I:i<xs.length
 ·refine .inr ⟨⟨xs,xs[i],q,by simp[I]⟩,Pv (i+1),λF H' Y=>⟨xs.length - (i+1),by lia,rfl,I,Y⟩,λx H' y=>?_⟩;obtain⟨e,y⟩:=y;subst e;exact hs i x σ _ (y xs q) p
 ·have e:i=xs.length:=by lia
  subst e;exact .inl ⟨⟨xs,q,ai _⟩,U σ H p⟩
abbrev R2:=V->V->Hp->VK->Prop
def OpR (X:Cx)(f:Value->Value->Sem Value)(r:R2):Prop:=
 ∀ (pins:List (Addr×Obj)) (s:Shared) (σ:St) (H:Hp) (x y:V) (v u:Value) (Q:VK),Inv X pins σ H s->yG x v->yG y u->r x y H Q->
  wpAny (model X.prog X.w) X.A (f v u) (EP X pins σ Q) X.xe s
def UnR (X:Cx)(f:Value->Sem Value)(r:V->Hp->VK->Prop):Prop:=
 ∀ (pins:List (Addr×Obj)) (s:Shared) (σ:St) (H:Hp) (x:V) (v:Value) (Q:VK),Inv X pins σ H s->yG x v->r x H Q->
  wpAny (model X.prog X.w) X.A (f v) (EP X pins σ Q) X.xe s
def zcS (X:Cx)(f:Value)(r:List V->Hp->VK->Prop):Prop:=
 ∀ (pins:List (Addr×Obj)) (s:Shared) (σ:St) (H:Hp) (xs:List V) (q:List Value) (Q:VK),Inv X pins σ H s->yb xs q->r xs H Q->
  wpAny (model X.prog X.w) X.A (call f q) (EP X pins σ Q) X.xe s
def TruR (X:Cx)(r:V->Hp->(Bool->Hp->Prop)->Prop):Prop:=
 ∀ (pins:List (Addr×Obj)) (s:Shared) (σ:St) (H:Hp) (x:V) (v:Value) (Q:Bool->Hp->Prop),Inv X pins σ H s->yG x v->r x H Q->
  wpAny (model X.prog X.w) X.A (truthy v) (TP X pins σ Q) X.xe s
def tOp (r:R2)(ta tb:TE):TE:=λσ H Q=>ta σ H λx H1=>tb σ H1 λy H2=>r x y H2 Q
def tUn (r:V->Hp->VK->Prop)(ta:TE):TE:=λσ H Q=>ta σ H λx H1=>r x H1 Q
def rI (C:Int->Int->Prop)(g:Int->Int->V):R2:=λx y H Q=>∃i j,x = .int i/\y = .int j/\C i j/\Q (g i j) H
def rI0 (g:Int->Int->V):R2:=λx y H Q=>∃i j,x = .int i/\y = .int j/\Q (g i j) H
def rU (g:Int->V):V->Hp->VK->Prop:=λx H Q=>∃i,x = .int i/\Q (g i) H
section
variable {X:Cx}{a b c:Expr}{ta tb tc:TE}{pos:Pos}
def zud(F:PE X a ta)(J:PE X b tb){pins:List (Addr×Obj)}{σ:St}{H:Hp}{R:V->V->Hp->Prop}(I:Inv X pins σ H s)(h:ta σ H λx H1=>tb σ H1 λy H2=>R x y H2){Q:Value->Shared->Prop}{f:Value->Value->Sem Value}(L:∀v u D x y H2,Inv X pins σ H2 D->yG x v->yG y u->R x y H2->wpAny (model X.prog X.w) X.A (f v u) Q X.xe D) :
  wpAny (model X.prog X.w) X.A (eval a X.env) (λv q=>wpAny (model X.prog X.w) X.A (eval b X.env) (λu B=>wpAny (model X.prog X.w) X.A (f v u) Q X.xe B) X.xe q) X.xe s:=by
 refine thn (F pins s σ H _ I h)  ?_;rintro v O ⟨x,H1,I1,U,Y⟩;refine thn (J pins O σ H1 _ I1 Y)  ?_;rintro u D ⟨y,H2,I2,Z,q2⟩;exact L v u D x y H2 I2 U Z q2
def zvl(D:OpR X (binaryOp B) r)(F:PE X a ta)(J:PE X b tb):PE X (.BinOp a B b pos) (tOp r ta tb):=by intro pins s σ H Q I h;exact wpAny_BinOp (zud F J I h λv u L x y H2 I2 O U q=>D pins L σ H2 x y v u Q I2 O U q)
def zpl(B:UnR X (unaryOp q) r)(D:PE X a ta):PE X (.UnaryOp q a pos) (tUn r ta):=by intro pins s σ H Q I h;exact UnaryOp_ (thn (D pins s σ H _ I h) <| by rintro v F ⟨x,H1,I1,J,L⟩;exact B pins F σ H1 x v Q I1 J L)
def opI{C:Int->Int->Prop}{g:Int->Int->Int}(B:∀ (i j:Int) (t u:Tok) (s:Shared) (Q:Value->Shared->Prop) (E:Value->Shared->Prop),C i j->Q (.int (g i j) s.toks) { s with toks:=s.toks+1 }->wpAny (model X.prog X.w) X.A (f (.int i t) (.int j u)) Q E s) :
  OpR X f (rI C λi j=>.int (g i j)):=by
 intro pins s σ H x y v u Q I D F h;obtain⟨i,j,rfl,rfl,J,q⟩:=h;obtain⟨t,rfl⟩:=D;obtain⟨t',rfl⟩:=F;exact B i j t t' s _ _ J ⟨.int (g i j),H,I.tok _,⟨_,rfl⟩,q⟩
def opI0{g:Int->Int->Int}(B:∀ (i j:Int) (t u:Tok) (s:Shared) (Q:Value->Shared->Prop) (E:Value->Shared->Prop),Q (.int (g i j) s.toks) { s with toks:=s.toks+1 }->wpAny (model X.prog X.w) X.A (f (.int i t) (.int j u)) Q E s) :
  OpR X f (rI0 λi j=>.int (g i j)):=by
 intro pins s σ H x y v u Q I D F h;obtain⟨i,j,rfl,rfl,q⟩:=h;obtain⟨t,rfl⟩:=D;obtain⟨t',rfl⟩:=F;exact B i j t t' s _ _ ⟨.int (g i j),H,I.tok _,⟨_,rfl⟩,q⟩
def ztW{g:Int->Int->Bool}(B:∀ (i j:Int) (t u:Tok) (s:Shared) (Q:Value->Shared->Prop) (E:Value->Shared->Prop),Q (.bool (g i j)) s->wpAny (model X.prog X.w) X.A (f (.int i t) (.int j u)) Q E s) :
  OpR X f (rI0 λi j=>.bl (g i j)):=by
 intro pins s σ H x y v u Q I D F h;obtain⟨i,j,rfl,rfl,q⟩:=h;obtain⟨t,rfl⟩:=D;obtain⟨t',rfl⟩:=F;exact B i j t t' s _ _ ⟨.bl (g i j),H,I,rfl,q⟩
def zqx (i j:Int):Prop:=0<j/\j<1073741824
def zqy (i j:Int):Prop:=0<=j/\j<=1000000/\i.natAbs<2 ^ 64
def zm3 (i j:Int):Prop:=(-(2 ^ 64)<i/\i<2 ^ 64)\/(-(2 ^ 64)<j/\j<2 ^ 64)
def zm3.ok {i j:Int}(h:zm3 i j):IntMulOk i j:=by
 rcases h with ⟨h1,h2⟩ | ⟨h1,h2⟩
 ·exact .of_left (intBits_le_64 h1 h2)
 ·exact .of_right (intBits_le_64 h1 h2)
def zrR:OpR X (binaryOp .Add) (rI0 λi j=>.int (i+j)):=opI0 λ_ _ _ _ _ _ _ q=>add_int q
def zrY:OpR X (binaryOp .Sub) (rI0 λi j=>.int (i - j)):=opI0 λ_ _ _ _ _ _ _ q=>sub_int q
def zrV:OpR X (binaryOp .Mult) (rI zm3 λi j=>.int (i * j)):=opI λ_ _ _ _ _ _ _ B q=>mul_int q B.ok
def zpa:OpR X (binaryOp .FloorDiv) (rI zqx λi j=>.int (i / j)):=opI λi j _ _ _ _ _ B q=>by have h1:(0:Int)<j:=B.1;have h2:j<1073741824:=B.2;exact floordiv_int (by lia) (by rw[Int.fdiv_eq_ediv_of_nonneg i (by lia)];exact q) (.inl (PyProof.noPylong_small (by lia)))
def zrU:OpR X (binaryOp .Mod) (rI (λ_ j=>0<j) λi j=>.int (i % j)):=opI λi j _ _ _ _ _ B q=>by have h1:(0:Int)<j:=B;exact mod_int' (by lia) (by rw[Int.fmod_eq_emod_of_nonneg i (by lia)];exact q)
def zrW:OpR X (binaryOp .Pow) (rI zqy λi j=>.int (i ^ j.toNat)):=opI λ_ _ _ _ _ _ _ B q=>pow_int_small B.1 B.2.1 B.2.2 q
def unI{g:Int->Int}(B:∀ (i:Int) (t:Tok) (s:Shared) (Q:Value->Shared->Prop) (E:Value->Shared->Prop),Q (.int (g i) s.toks) { s with toks:=s.toks+1 }->wpAny (model X.prog X.w) X.A (f (.int i t)) Q E s) :
  UnR X f (rU λi=>.int (g i)):=by
 intro pins s σ H x v Q I D h;obtain⟨i,rfl,q⟩:=h;obtain⟨t,rfl⟩:=D;exact B i t s _ _ ⟨.int (g i),H,I.tok _,⟨_,rfl⟩,q⟩
def zk2:UnR X (unaryOp .USub) (rU λi=>.int (-i)):=unI λ_ _ _ _ _ q=>neg_int q
end
def zvD:V->V->Bool
 | .non,.non=>true | .non,.int _=>true | .int _,.non=>true | .non,.bl _=>true | .bl _,.non=>true | .non,.str _=>true | .str _,.non=>true
 | .int _,.int _=>true | .bl _,.bl _=>true | .str _,.str _=>true | .byt _,.byt _=>true
 | .int _,.str _=>true | .str _,.int _=>true | .bl _,.str _=>true | .str _,.bl _=>true
 | _,_=>false
def rEq:R2:=λx y H Q=>zvD x y=true/\Q (.bl (decide (x=y))) H
def rNe:R2:=λx y H Q=>zvD x y=true/\Q (.bl (!decide (x=y))) H
def zi5 {i j:Int}:decide (V.int i=V.int j)=(i==j):=by rw[b9];simp
def znh:decide (V.bl i=V.bl j)=(i==j):=by rw[b9];simp
def zi6:decide (V.str i=V.str j)=(i==j):=by rw[b9];simp
def zi4:decide (V.byt i=V.byt j)=(i.toList==j.toList):=by
 rw[b9]
 simp_all
section
variable {X:Cx}{a b c:Expr}{ta tb tc:TE}{pos:Pos}
def ya{pins:List (Addr×Obj)}{σ:St}{H:Hp}{Q:VK}(I:Inv X pins σ H s)(q:Q (.bl k) H)(e:k=B):EP X pins σ Q (.bool B) s:=by subst e;exact⟨.bl k,H,I,rfl,q⟩
def zvb:OpR X (compareOp .Eq) rEq:=by
 intro pins s σ H x y v u Q I D B h;obtain⟨hs,q⟩:=h
 cases x with
 | non=>
  cases D
  cases y with
  | non=>cases B;exact PySem.EqNone.eq_none_none (ya I q (by simp))
  | bl j=>cases B;exact PySem.EqNone.eq_none_bool (ya I q (by simp))
  | int j=>obtain⟨t',rfl⟩:=B;exact PySem.EqNone.eq_none_int (ya I q (by simp))
  | str j=>obtain⟨t',rfl⟩:=B;exact PySem.EqNone.eq_none_str (ya I q (by simp))
  | _=>exact absurd (show false=true from hs) aI
 | bl i=>
  cases D
  cases y with
  | non=>cases B;exact PySem.EqNone.eq_bool_none (ya I q (by simp))
  | bl j=>cases B;exact eq_bool (ya I q znh)
  | str j=>obtain⟨t',rfl⟩:=B;exact PySem.EqMixed.eq_bool_str (ya I q (by simp))
  | _=>exact absurd (show false=true from hs) aI
 | int i=>
  obtain⟨t,rfl⟩:=D
  cases y with
  | non=>cases B;exact PySem.EqNone.eq_int_none (ya I q (by simp))
  | int j=>obtain⟨t',rfl⟩:=B;exact eq_int (ya I q zi5)
  | str j=>obtain⟨t',rfl⟩:=B;exact PySem.EqMixed.eq_int_str (ya I q (by simp))
  | _=>exact absurd (show false=true from hs) aI
 | str i=>
  obtain⟨t,rfl⟩:=D
  cases y with
  | non=>cases B;exact PySem.EqNone.eq_str_none (ya I q (by simp))
  | bl j=>cases B;exact PySem.EqMixed.eq_str_bool (ya I q (by simp))
  | int j=>obtain⟨t',rfl⟩:=B;exact PySem.EqMixed.eq_str_int (ya I q (by simp))
  | str j=>obtain⟨t',rfl⟩:=B;exact eq_str (ya I q zi6)
  | _=>exact absurd (show false=true from hs) aI
 | byt i=>
  obtain⟨t,rfl⟩:=D
  cases y with
  | byt j=>obtain⟨t',rfl⟩:=B;exact PySem.W.eq_bytes (ya I q zi4)
  | _=>exact absurd (show false=true from hs) aI
 | _=>cases y <;> exact absurd (show false=true from hs) aI
def zvg:OpR X (compareOp .NotEq) rNe:=by
 intro pins s σ H x y v u Q I D B h;obtain⟨hs,q⟩:=h
 cases x with
 | non=>
  cases D
  cases y with
  | non=>cases B;exact PySem.EqNone.ne_none_none (ya I q (by simp))
  | bl j=>cases B;exact PySem.EqNone.ne_none_bool (ya I q (by simp))
  | int j=>obtain⟨t',rfl⟩:=B;exact PySem.EqNone.ne_none_int (ya I q (by simp))
  | str j=>obtain⟨t',rfl⟩:=B;exact PySem.EqNone.ne_none_str (ya I q (by simp))
  | _=>exact absurd (show false=true from hs) aI
 | bl i=>
  cases D
  cases y with
  | non=>cases B;exact PySem.EqNone.ne_bool_none (ya I q (by simp))
  | bl j=>cases B;exact ne_bool (ya I q (congrArg not znh))
  | str j=>obtain⟨t',rfl⟩:=B;exact PySem.EqMixed.ne_bool_str (ya I q (by simp))
  | _=>exact absurd (show false=true from hs) aI
 | int i=>
  obtain⟨t,rfl⟩:=D
  cases y with
  | non=>cases B;exact PySem.EqNone.ne_int_none (ya I q (by simp))
  | int j=>obtain⟨t',rfl⟩:=B;exact ne_int (ya I q (congrArg not zi5))
  | str j=>obtain⟨t',rfl⟩:=B;exact PySem.EqMixed.ne_int_str (ya I q (by simp))
  | _=>exact absurd (show false=true from hs) aI
 | str i=>
  obtain⟨t,rfl⟩:=D
  cases y with
  | non=>cases B;exact PySem.EqNone.ne_str_none (ya I q (by simp))
  | bl j=>cases B;exact PySem.EqMixed.ne_str_bool (ya I q (by simp))
  | int j=>obtain⟨t',rfl⟩:=B;exact PySem.EqMixed.ne_str_int (ya I q (by simp))
  | str j=>obtain⟨t',rfl⟩:=B;exact ne_str (ya I q (congrArg not zi6))
  | _=>exact absurd (show false=true from hs) aI
 | byt i=>
  obtain⟨t,rfl⟩:=D
  cases y with
  | byt j=>obtain⟨t',rfl⟩:=B;exact PySem.W.ne_bytes (ya I q (congrArg not zi4))
  | _=>exact absurd (show false=true from hs) aI
 | _=>cases y <;> exact absurd (show false=true from hs) aI
def zvf:OpR X (compareOp .Lt) (rI0 λi j=>.bl (decide (i<j))):=ztW λ_ _ _ _ _ _ _ q=>lt_int q
def zve:OpR X (compareOp .LtE) (rI0 λi j=>.bl (decide (i<=j))):=ztW λ_ _ _ _ _ _ _ q=>le_int q
def zvd:OpR X (compareOp .Gt) (rI0 λi j=>.bl (decide (j<i))):=ztW λ_ _ _ _ _ _ _ q=>gt_int q
def zvc:OpR X (compareOp .GtE) (rI0 λi j=>.bl (decide (j<=i))):=ztW λ_ _ _ _ _ _ _ q=>ge_int q
def zy(b:Expr)(h:q≠.In:=by decide)(h2:q≠.NotIn:=by decide):behindInMarks q b=false:=by
 have B:(q==CmpOp.In)=false:=by cases q <;> first | rfl | exact absurd rfl h
 have D:(q==CmpOp.NotIn)=false:=by cases q <;> first | rfl | exact absurd rfl h2
 cases b <;> simp[behindInMarks,B,D]
def zpe(D:OpR X (compareOp B) r)(F:PE X a ta)(J:PE X b tb)(L:behindInMarks B b=false):PE X (.Compare a [B] [b] pos) (tOp r ta tb):=by intro pins s σ H Q I h;exact wpAny_Compare1 (zud F J I h λv u O x y H2 I2 U Y q=>D pins O σ H2 x y v u Q I2 U Y q) L
def zqj (t:TE):TT:=λσ H Q=>t σ H λx H'=>∃k,x = .bl k/\Q k H'
def zpA(B:OpR X (compareOp q) r)(D:PE X a ta)(F:PE X b tb)(J:behindInMarks q b=false):PT X (.Compare a [q] [b] pos) (zqj (tOp r ta tb)):=by
 intro pins s σ H Q I h
 refine wpAny_isTrue_Compare1 (thn (D pins s σ H _ I h) λv L ⟨x,H1,I1,O,U⟩=>thn (F pins L σ H1 _ I1 U) λu Y ⟨y,H2,I2,Z,q2⟩=>
  thn (B pins Y σ H2 x y v u _ I2 O Z q2) λc s3 ⟨z,H3,I3,r3,k,e,q3⟩=>?_) J
 subst e;cases r3;exact b4 ⟨H3,I3,q3⟩
def zub (K:PySem.W.Frag)(x:V)(H:Hp)(k:Bool):Prop:=
 match x with
 | .non=>k=false
 | .bl b=>k=b
 | .int i=>k=(i != 0)
 | .str y=>y.length<=sizeLine/\k=((y.length:Int) != 0)
 | .byt y=>y.size<=sizeLine/\k=((y.size:Int) != 0)
 | .ref p=>(∃xs,SqL K H p xs/\k = !xs.isEmpty)\/(∃xs,SqT K H p xs/\k = !xs.isEmpty)\/∃kvs,H p=some (.dK kvs)/\k = !kvs.isEmpty
 | _=>False
def zh3 {κ:Type}{kvs:List (κ×V)}{vs:List (κ×Value)}(r:KV kvs vs):(!vs.isEmpty) = !kvs.isEmpty:=by cases r <;> rfl
def zdj(r:yb xs its):(!its.toArray.isEmpty) = !xs.isEmpty:=by cases r <;> simp
def zfd:(sizeLine:Nat)<2 ^ 63:=by rw[bQ];decide
def zti:TruR X (λx H Q=>∃k,zub X.K x H k/\Q k H):=by
 intro pins s σ H x v Q I F h;obtain⟨k,e,q⟩:=h;have U:=zfd;have hs:sizeLine=16777216:=bQ
 cases x with
 | non=>
  cases F;have B:k=false:=e;subst B;exact truthy_none ⟨H,I,q⟩
 | bl b=>
  cases F;have B:k=b:=e;subst B;exact b4 ⟨H,I,q⟩
 | int i=>
  obtain⟨t,rfl⟩:=F;have B:k=(i != 0):=e;subst B;exact PySem.P.truthy_int ⟨H,I,q⟩
 | str y=>
  obtain⟨t,rfl⟩:=F;obtain⟨L,B⟩:y.length<=sizeLine/\k=((y.length:Int) != 0):=e;subst B;exact PySem.P.truthy_str (by lia) ⟨H,I.tok _,q⟩
 | byt y=>
  obtain⟨t,rfl⟩:=F;obtain⟨L,B⟩:y.size<=sizeLine/\k=((y.size:Int) != 0):=e;subst B;exact PySem.W.truthy_bytes (by lia) ⟨H,I.tok _,q⟩
 | ref p=>
  cases F;have B:(∃xs,SqL X.K H p xs/\k = !xs.isEmpty)\/(∃xs,SqT X.K H p xs/\k = !xs.isEmpty)\/∃kvs,H p=some (.dK kvs)/\k = !kvs.isEmpty:=e;rcases B with ⟨xs,hx,B⟩ | ⟨xs,hx,B⟩ | ⟨kvs,hx,B⟩
  ·subst B;obtain⟨its,r,pl,J⟩:=I.list hx;have D:=r.length;exact wpAny_truthy_list pl.isList (by simp only[aV];lia) ⟨H,I.tok _,by rw[zdj r];exact q⟩
  ·subst B;obtain⟨its,r,pl,J⟩:=I.tuple hx;have D:=r.length;exact truthy_tuple pl (by simp only[aV];lia) ⟨H,I.tok _,by rw[zdj r];exact q⟩
  ·subst B;obtain⟨J,O,vs,r,m⟩:kvs.length<=sizeLine/\(p==sysModules)=false/\∃vs,KV kvs vs/\s.heap.DictOf (z6 X.prog X.w) p vs:=I.hok p _ hx;have D:kvs.length=vs.length:=eh r;exact wpAny_truthy_dict O m (by lia) ⟨H,I.tok _,by rw[zh3 r];exact q⟩
 | _=>exact (show False from e).elim
def zmv (ha:PE X a ta)(he:∀whole,isTrue a X.env whole=(do let v <- whole;standAt a.pos;holding [v] (truthy v))) :
  PT X a (λσ H Q=>ta σ H λx H'=>∃k,zub X.K x H' k/\Q k H'):=by
 intro pins s σ H Q I h;exact isTrue_plain (thn (ha pins s σ H _ I h) <| by rintro v s1 ⟨x,H1,I1,r1,q1⟩;exact zti pins s1 σ H1 x v Q I1 r1 q1) (he _)
def zay(r:yb [x] q):∃u,q=[u]/\yG x u:=by
 cases r with
 | cons B D=>cases D;exact⟨_,rfl,B⟩
def ztC(r:yb [x,y] q):∃u w',q=[u,w']/\yG x u/\yG y w':=by
 cases r with
 | cons B D=>
  cases D with
  | cons F I=>cases I;exact⟨_,_,rfl,B,F⟩
def zln:zcS X (.builtin "abs") (λxs H Q=>∃i,xs=[.int i]/\Q (.int (if i<0 then -i else i)) H):=by intro pins s σ H xs B Q I r h;obtain⟨i,rfl,q⟩:=h;obtain⟨u,rfl,t,rfl⟩:=zay r;exact call_abs_int λu tk=>⟨.int (if i<0 then -i else i),H,I.tok _,⟨_,rfl⟩,q⟩
def ziN (D:X.calm=true):zcS X (.builtin "max") (λxs H Q=>∃i j,xs=[.int i,.int j]/\Q (.int (if j > i then j else i)) H):=by
 intro pins s σ H xs F Q I r h;obtain⟨i,j,rfl,q⟩:=h;obtain⟨u,w',rfl,⟨t,rfl⟩,⟨t',rfl⟩⟩:=ztC r;refine max_two_ints (I.ok.hd D) λh' tk k=>⟨_,H,I.kept k,?_,q⟩;by_cases B:j > i
 ·rw[if_pos B,if_pos B];exact⟨_,rfl⟩
 ·rw[if_neg B,if_neg B];exact⟨_,rfl⟩
def zqC (K:PySem.W.Frag)(x:V)(H:Hp)(n:Nat):Prop:=
 match x with
 | .str y=>y.length<=sizeLine/\n=y.length
 | .byt y=>y.size<=sizeLine/\n=y.size
 | .ref p=>(∃xs,SqL K H p xs/\n=xs.length)\/∃xs,SqT K H p xs/\n=xs.length
 | _=>False
def zlp:zcS X (.builtin "len") (λxs H Q=>∃x n,xs=[x]/\zqC X.K x H n/\Q (.int n) H):=by
 intro pins s σ H xs us Q I r h;obtain⟨x,n,rfl,e,q⟩:=h;obtain⟨u,rfl,rx⟩:=zay r;have hl:=zfd;have hs:sizeLine=16777216:=bQ
 cases x with
 | str y=>
  obtain⟨t,rfl⟩:=rx;obtain⟨hy,e'⟩:y.length<=sizeLine/\n=y.length:=e;subst e';exact len_str (by lia) ⟨.int _,H,I.tok _,⟨_,rfl⟩,q⟩
 | byt y=>
  obtain⟨t,rfl⟩:=rx;obtain⟨hy,e'⟩:y.size<=sizeLine/\n=y.size:=e;subst e';exact PySem.W.len_bytes (by lia) ⟨.int _,H,I.tok _,⟨_,rfl⟩,q⟩
 | ref p=>
  cases rx;have e':(∃xs,SqL X.K H p xs/\n=xs.length)\/∃xs,SqT X.K H p xs/\n=xs.length:=e;rcases e' with ⟨xs,hx,e'⟩ | ⟨xs,hx,e'⟩
  ·subst e';obtain⟨its,r',pl,hz⟩:=I.list hx;have hlen:=r'.length;exact Calls.call_len_list pl.isList (by simp only[aV];lia) ⟨.int xs.length,H,I.tok _,⟨_,by simp only[aV];rw[hlen]⟩,q⟩
  ·subst e';obtain⟨its,r',pl,hz⟩:=I.tuple hx;have hlen:=r'.length;exact len_tuple pl (by simp only[aV];lia) ⟨.int xs.length,H,I.tok _,⟨_,by simp only[aV];rw[hlen]⟩,q⟩
 | _=>exact (show False from e).elim
end
structure ObjM (h:Heap)(x dx C:Addr)(mA:Str->Option Value):Prop where
 obj:h.get? x=some (PySem.W.instObj C dx)
 ns:h.Ns1 dx mA
 ne:dx≠x
def zjR {h:Heap}{dx:Addr}{mA:Str->Option Value}(n:h.Ns1 dx mA):∃D,h.get? dx=some D/\∀name,PySem.W.lookIn name D=some (mA name):=by
 obtain⟨o,es,U,F,I,J,_,L⟩:=n;refine⟨o,F,λname=>?_⟩;have e:=L name;unfold nsFind findBy at e;rw[<- Array.find?_toList] at e;unfold PySem.W.lookIn;rw[I];dsimp only;split
 ·simp_all
 ·rename_i q;rw[q] at e
  have a:es.toList.any (·.refKey)=false:=by rw[List.any_eq_false];intro y O;obtain⟨z,t,B⟩:=J y (ee.mp O);simp[DictEntry.refKey,B]
  grind
def ObjM.look(I:ObjM h x dx C mA):∃q,PySem.W.InstAt h x (PySem.W.instObj C dx) C (some q)/\∀name,PySem.W.lookIn name q=some (mA name):=
 let ⟨q,ho,hl⟩:=zjR I.ns
 ⟨q,⟨I.obj,rfl,rfl,ho⟩,hl⟩
section
variable {prog:Program}{w:World}{A:Around}{E:Value->Shared->Prop}{s:Shared}{K:PySem.W.Frag}{x dx C f:Addr}{mA:Str->Option Value}{name:Str}{v:Value}
end
def ziB.some_of(r:ziB (some v) o):∃u,o=some u/\yG v u:=by
 cases o with
 | none=>exact (show False from r).elim
 | some u=>exact⟨u,rfl,r⟩
section
variable {P:Program}{w:World}{H H':Hp}{h h':Heap}{a C dx:Addr}{fs fs':List (Str×V)}
def zoy (B:HOk P w H h)(e:H a=some (.ins C dx fs)):∃mA,ObjM h a dx C mA/\(∀f,ziB (fs.lookup f) (mA f))/\PySem.Within mA (fs.map (·.1))/\fs.length<=1000/\H dx=some (.own a):=by obtain⟨d,z,D,ob,mA,n,r,q⟩:=(show yp P w H h a (.ins C dx fs) from B a _ e);exact⟨mA,⟨ob,n,D⟩,r,q,z,d⟩
end
structure Cls (K:PySem.W.Frag)(C:Addr):Prop where
 pg:PySem.W.plainGet K C Str.empty=true
 hd:PySem.W.hasDictIn K C=true
 po:PySem.W.plainOver K C=true
 sa:PySem.W.findIn K (.ref C) "__setattr__" = some (some (.builtin "object.__setattr__"))
def Cls.get {K:PySem.W.Frag}{C:Addr}(c:Cls K C)(f:Str):PySem.W.plainGet K C f=true:=c.pg
section
variable {X:Cx}{pins:List (Addr×Obj)}{σ:St}{H:Hp}{s:Shared}{a C dx:Addr}{fs:List (Str×V)}{f:Str}{v:V}{A:Around}{E:Value->Shared->Prop}
end
def ztJ (X:Cx)(q:Operator)(B:V->V->Hp->VK->Prop):Prop:=
 ∀ (pins:List (Addr×Obj)) (s:Shared) (σ:St) (H:Hp) (x y:V) (u v:Value) (Q:VK),Inv X pins σ H s->yG x u->yG y v->B x y H Q->wpAny (model X.prog X.w) X.A (inplaceOp q u v) (EP X pins σ Q) X.xe s
section
variable {X:Cx}{o e value:Expr}{f:Str}{pos pos' tpos:Pos}{ta tv:TE}
def rAdd:V->V->Hp->VK->Prop:=λx y H Q=>∃i j,x = .int i/\y = .int j/\Q (.int (i+j)) H
def rSub:V->V->Hp->VK->Prop:=λx y H Q=>∃i j,x = .int i/\y = .int j/\Q (.int (i - j)) H
def zrm:ztJ X .Add rAdd:=by rintro pins s σ H x y u v Q I B D ⟨i,j,rfl,rfl,q⟩;obtain⟨t,rfl⟩:=(show ∃t,u=Value.int i t from B);obtain⟨t',rfl⟩:=(show ∃t',v=Value.int j t' from D);exact PyProof.Rows.iadd_int ⟨.int (i+j),H,I.tok _,⟨_,rfl⟩,q⟩
def zrn:ztJ X .Sub rSub:=by rintro pins s σ H x y u v Q I B D ⟨i,j,rfl,rfl,q⟩;obtain⟨t,rfl⟩:=(show ∃t,u=Value.int i t from B);obtain⟨t',rfl⟩:=(show ∃t',v=Value.int j t' from D);exact PyProof.Rows.isub_int ⟨.int (i - j),H,I.tok _,⟨_,rfl⟩,q⟩
end
section
variable {X:Cx}{pins:List (Addr×Obj)}{σ:St}{H:Hp}{s:Shared}{A:Around}{E:Value->Shared->Prop}{Q:Value->Shared->Prop}{c:Value}{b:Bool}
inductive TyOf (K:PySem.W.Frag) (H:Hp):V->Value->Prop where
 | non:TyOf K H .non (.type "NoneType")
 | bl (x:Bool):TyOf K H (.bl x) (.type "bool")
 | int (i:Int):TyOf K H (.int i) (.type "int")
 | str (x:Str):TyOf K H (.str x) (.type "str")
 | flt (x:UInt64):TyOf K H (.flt x) (.type "float")
 | lst {a:Addr} {xs:List V} (e:H a=some (.lst xs)):TyOf K H (.ref a) (.type "list")
 | frz {a:Addr} {o:Obj} {xs:List V} (e:H a=some (.frz o (.lst xs))):TyOf K H (.ref a) (.type "list")
 | tup {a:Addr} {xs:List V} (e:H a=some (.tup xs)):TyOf K H (.ref a) (.type "tuple")
 | dK {a:Addr} {kvs:List (Key×V)} (e:H a=some (.dK kvs)):TyOf K H (.ref a) (.type "dict")
 | dT {a:Addr} {kvs:List (List Key×V)} (e:H a=some (.dT kvs)):TyOf K H (.ref a) (.type "dict")
 | ins {a C dx:Addr} {fs:List (Str×V)} (e:H a=some (.ins C dx fs)) (cl:Cls K C) (ha:PySem.W.findIn K (.ref C) "__class__" = some (some (.builtin "object.__class__")))
   (hn:PySem.W.specialIn K (.builtin "object.__class__") "__get__" = some (some (.builtin "getset_descriptor.__get__"))) (htk:PySem.W.takesIn K (.builtin "object.__class__")=some true)
   (hm:PySem.W.mroIn K C (.type "object")=some true):TyOf K H (.ref a) (.ref C)
def zjy(I:Inv X pins σ H s)(B:yG x u)(ty:TyOf X.K H x t)(e:PySem.W.kitOne X.K t c=some b)(h:∀tk,Q (.bool b) { s with toks:=tk }) :
  wpAny (model X.prog X.w) A (call (.builtin "isinstance") [u,c]) Q E s:=by
 cases ty with
 | non=>cases (show u=Value.none from B);exact bG PySem.W.kitx_none I.kIn True.intro e (λz=>nomatch z) h
 | bl y=>cases (show u=Value.bool y from B);exact bG PySem.W.kitx_bool I.kIn True.intro e (λz=>nomatch z) h
 | int i=>obtain⟨t,q⟩:=(show ∃t,u=Value.int i t from B);cases q;exact bG PySem.W.kitx_int I.kIn True.intro e (λz=>nomatch z) h
 | str y=>obtain⟨t,q⟩:=(show ∃t,u=Value.str y t from B);cases q;exact bG PySem.W.kitx_str I.kIn True.intro e (λz=>nomatch z) h
 | flt y=>obtain⟨t,q⟩:=(show ∃t,u=Value.float y t from B);cases q;exact bG PySem.W.kitx_float I.kIn True.intro e (λz=>nomatch z) h
 | @lst a xs D=>
  cases (show u=Value.ref a from B);obtain⟨_,_,n,_,h1⟩:=(show yp X.prog X.w H s.heap a (.lst xs) from I.hok a _ D);exact bG PySem.W.kitx_list I.kIn ⟨_,h1,rfl⟩ e (λz=>nomatch z) h
 | @frz a ob xs D=>
  cases (show u=Value.ref a from B);obtain⟨_,_,_,n,_,h1⟩:=(show yp X.prog X.w H s.heap a (.frz ob (.lst xs)) from I.hok a _ D);exact bG PySem.W.kitx_list I.kIn ⟨_,h1,rfl⟩ e (λz=>nomatch z) h
 | @tup a xs D=>
  cases (show u=Value.ref a from B);obtain⟨_,_,_,p⟩:=(show yp X.prog X.w H s.heap a (.tup xs) from I.hok a _ D);obtain⟨o,h1,h2,_⟩:=p;exact bG PySem.W.kitx_tuple I.kIn ⟨o,h1,h2⟩ e (λz=>nomatch z) h
 | @dK a kvs D=>
  cases (show u=Value.ref a from B);obtain⟨_,_,vs,_,p⟩:=(show yp X.prog X.w H s.heap a (.dK kvs) from I.hok a _ D);obtain⟨o,es,U,h1,h2,_⟩:=p;exact bG PySem.W.kitx_dict I.kIn ⟨o,h1,h2.1⟩ e (λz=>nomatch z) h
 | @dT a kvs D=>
  cases (show u=Value.ref a from B);obtain⟨_,_,xs,_,o,es,U,h1,h2,_⟩:=(show yp X.prog X.w H s.heap a (.dT kvs) from I.hok a _ D);exact bG PySem.W.kitx_dict I.kIn ⟨o,h1,h2.1⟩ e (λz=>nomatch z) h
 | @ins a C dx fs D L Y Z F hm=>
  cases (show u=Value.ref a from B);obtain⟨mA,O,_⟩:=zoy I.hok D;obtain⟨od,J,_⟩:=O.look;exact bG (PySem.W.kitx_own (L.get _) L.hd Y Z F hm) I.kIn J e (λz=>nomatch z) h
end
structure Room (k:Nat)(A:Around):Prop where
 hd:A.handled=none
 dp:A.depth+3 * k+5<recursionLimit
 un:A.units+16 * k+200<cLine
def Room.mono {j k:Nat}{A:Around}(r:Room k A)(h:j<=k):Room j A:=⟨r.hd,by have:=r.dp;lia,by have:=r.un;lia⟩
def Room.deeper(r:Room (k+1) A)(env:Env):Room k (A.deeper env):=
 ⟨r.hd,by have:=r.dp;show A.depth+1+3 * k+5<_;lia,by have:=r.un;show A.units+3+16 * k+200<_;lia⟩
def Room.depth(r:Room k A):A.depth<recursionLimit:=by have:=r.dp;lia
def Room.units(r:Room k A):A.units+64<cLine:=by have:=r.un;lia
def znO:TA:=λ_ H Q=>Q [] H
def zcN (ta:TE)(q:TA):TA:=λσ H Q=>ta σ H λx H1=>q σ H1 λxs H2=>Q (x::xs) H2
section
variable {X:Cx}{e:Expr}{es:List Expr}{te:TE}{t:TA}{pos:Pos}
def zr2:PA X [] znO:=λ_ _ _ _ H Q I h=>Calls.spliced_nil ⟨[],H,I,.nil,h⟩
def zpc (q:PE X e te)(B:PA X es t)(hs:starEach (e::es) X.env=(false,eval e X.env)::starEach es X.env:=by rfl):PA X (e::es) (zcN te t):=by intro pos pins s σ H Q I h;rw[hs];show wpAny _ _ (spliced ((false,eval e X.env)::backTo pos (starEach es X.env))) _ _ s;refine Calls.spliced_cons (thn (q pins s σ H _ I h)  ?_);rintro u D ⟨x,H1,I1,F,J⟩;exact thn (B pos pins D σ H1 _ I1 J) <| by rintro U Y ⟨xs,H2,I2,L,O⟩;exact⟨x::xs,H2,I2,.cons F L,O⟩
end
abbrev Sp:=List V->Hp->VK->XK->Prop
abbrev CXT:=List Env->Hp->Shared->XK->Value->Shared->Prop
structure Env0 (P:Program)(w:World)(K:PySem.W.Frag)(mg:Str->Option Value)(base:Heap)(A:Around)(outer:List Env)(s:Shared)(H:Hp):Prop where
 frames:A.frames=some outer
 mod:Mod K mg base
 bs:∀b o,base.get? b=some o->s.heap.get? b=some o/\H b=none
 bsz:base.objs.size<=s.heap.objs.size
 funs:s.heap.FunFrames base outer
 frf:∀b∈frs outer,H b=none
 hok:HOk P w H s.heap
 bare:AllBare s.gens
def CE (q:List Env)(P:Program)(w:World)(H:Hp)(s:Shared)(Q:VK)(u:Value)(s':Shared):Prop:=
 ∃v H',s'.os=s.os/\AllBare s'.gens/\Un (frs q) [] H H' s.heap s'.heap/\HOk P w H' s'.heap/\yG v u/\Q v H'
def CR (CX:CXT)(q:List Env)(P:Program)(w:World)(H:Hp)(s:Shared)(Q:VK)(E:XK)(r:Result)(s':Shared):Prop:=
 match r with
 | .ok (.ret u)=>CE q P w H s Q u s'
 | .ok _=>False
 | .error e=>CX q H s E e s'
structure FnOk (P:Program)(w:World)(K:PySem.W.Frag)(mg:Str->Option Value)(base:Heap)(CX:CXT)(k:Nat)(f:Addr)(fd:FuncData)(ps:List Str)(sp:Sp):Prop where
 len:∀vs H Q E,sp vs H Q E->vs.length=ps.length
 run:∀ (A:Around) (outer:List Env) (s:Shared) (H:Hp) (args:Args) (us:List Value) (vs:List V) (Q:VK) (E:XK),Room k A->Env0 P w K mg base A outer s H->BindsTo s fd args (ps.zip us)->yb vs us->sp vs H Q E->
  codeAny (model P w) A (.call (.ref f) args) (CR CX outer P w H s Q E) s
def FnOk.mono{P:Program}{w:World}{K:PySem.W.Frag}{mg:Str->Option Value}{base:Heap}{CX:CXT}{f:Addr}{fd:FuncData}{ps:List Str}(F:FnOk P w K mg base CX j f fd ps sp)(h:j<=k) :
  FnOk P w K mg base CX k f fd ps sp:=⟨F.len,λA q s H args B vs Q E D=>F.run A q s H args B vs Q E (D.mono h)⟩
def FnOk.imp{P:Program}{w:World}{K:PySem.W.Frag}{mg:Str->Option Value}{base:Heap}{CX:CXT}{f:Addr}{fd:FuncData}{ps:List Str}{sp D:Sp}(F:FnOk P w K mg base CX k f fd ps sp)(h:∀vs H Q E,D vs H Q E->sp vs H Q E):FnOk P w K mg base CX k f fd ps D:=
 ⟨λvs H Q E q=>F.len vs H Q E (h _ _ _ _ q),λA B s H args I vs Q E J L O U hs=>F.run A B s H args I vs Q E J L O U (h _ _ _ _ hs)⟩
section
variable {X:Cx}{pins:List (Addr×Obj)}{σ:St}{H:Hp}{s s':Shared}
def Inv.env0 (I:Inv X pins σ H s):Env0 X.prog X.w X.K X.mg X.base X.A X.stack s H:=
 ⟨I.ok.frames,I.ok.mod,I.bs,ay I.ok.bsz I.sz,I.stack,I.stkFree,I.hok,I.bare⟩
def Inv.after(I:Inv X pins σ H s)(h:CE X.stack X.prog X.w H s Q u s'):EP X pins σ Q u s':=by obtain⟨v,H',J,B,L,D,r,q⟩:=h;obtain⟨O,g,d,t,F⟩:=s';obtain rfl:F=s.os:=J;exact⟨v,H',I.call (h':=O) (g':=g) (d':=d) (t':=t) (ch:=[]) L D B (λb z=>absurd z (by simp)),r,q⟩
end
def zfJ (sp:Sp)(dvs:List V)(E:XK)(t:TA):TE:=λσ H Q=>t σ H λvs H1=>sp (vs++dvs) H1 Q E
def zdA (K:PySem.W.Frag)(fd:FuncData)(ps:List Str)(ds:List Value):Prop:=
 ∀ (s:Shared) (q:List Value),K.In s.heap->(q++ds).length=ps.length->BindsTo s fd ⟨q,[]⟩ (ps.zip (q++ds))
def zdA.all {K:PySem.W.Frag}{fd:FuncData}{ps:List Str}(h:∀q:List Value,q.length=ps.length->bindArgs fd ⟨q,[]⟩=pure (ps.zip q)):zdA K fd ps []:=λs q _ B=>by rw[et] at B ⊢;exact .of_eq (h q B)
def ziA (CX:CXT)(X:Cx)(E:XK):Prop:=∀ (pins:List (Addr×Obj)) (σ:St) (H:Hp) (s:Shared) (e:Value) (s':Shared),Inv X pins σ H s->CX X.stack H s E e s'->X.xe e s'
section
variable {X:Cx}{CX:CXT}{k:Nat}{f C:Addr}{fd:FuncData}{ps:List Str}{sp:Sp}{dvs:List V}{ds:List Value}{E:XK}{x m:Str}{p pos apos:Pos}{e o:Expr}{es:List Expr}{ta:TE}{t:TA}
def zsZ{pins:List (Addr×Obj)}{σ:St}{H:Hp}{s:Shared}{Q:VK}{vs:List V}(F:FnOk X.prog X.w X.K X.mg X.base CX k f fd ps sp)(J:Room k X.A)(L:zdA X.K fd ps ds)(O:yb dvs ds)(U:ziA CX X E)(I:Inv X pins σ H s)(r:yb vs q)(h:sp (vs++dvs) H Q E):wpAny (model X.prog X.w) X.A (call (.ref f) q) (EP X pins σ Q) X.xe s:=by
 have D:yb (vs++dvs) (q++ds):=r.append O;have Y:(q++ds).length=ps.length:=by rw[<- D.length];exact F.len _ _ _ _ h
 refine wpAny_call (dP (F.run X.A X.stack s H ⟨q,[]⟩ (q++ds) (vs++dvs) Q E J I.env0 (L s q I.kIn Y) D h) λr s' B=>?_)
 cases r with
 | error e=>exact U pins σ H s e s' I B
 | ok fl=>
  cases fl with
  | ret u=>exact I.after B
  | next=>exact False.elim B
  | brk=>exact False.elim B
  | cont=>exact False.elim B
def zkj (F:FnOk X.prog X.w X.K X.mg X.base CX k f fd ps sp)(J:Room k X.A)(L:Gl X x)(O:X.mg x=some (.ref f))(U:PySem.W.keepIn X.K (.ref f)=true)(Y:zdA X.K fd ps ds)(Z:yb dvs ds)(hx:ziA CX X E)
  (ha:PA X (e::es) t) (B:(x==("__debug__" : Str))=false:=by decide) (he:starEach (e::es) X.env=(false,eval e X.env)::starEach es X.env:=by rfl) (D:(backTo pos (starEach es X.env)).any (·.1)=false:=by rfl) :
  PE X (.Call (.Name x p) (e::es) [] pos) (zfJ sp dvs E t):=by
 intro pins s σ H Q I h;refine eL (zoK I L O ?_ B);refine PySem.W.callWith_K (h₀:=X.base) I.ok.mod.kin U (thn (ha pos pins s σ H _ I h) λus s1 ⟨vs,H1,I1,r,q⟩=>⟨I1.kIn,?_⟩) he D;exact zsZ F J Y Z hx I1 r q
end
section
variable {X:Cx}{CX:CXT}{k:Nat}{f C:Addr}{fd:FuncData}{ps ks:List Str}{sp:Sp}{E:XK}{x m:Str}{p pos apos kpos:Pos}{e o:Expr}{es:List Expr}{kws:List Keyword}{te ta:TE}{t tk:TA}{nm:Option Str}
variable {g:List Value->List Value->List Value}{gV:List V->List V->List V}
end
structure FnScope (N P:List Str)(sc:Scope):Prop where
 kind:sc.kind = .function
 co:sc.isCoroutine=false
 gen:sc.isGenerator=false
 nd:N.Nodup
 pre:N.take P.length=P
 par:∀x∈P,sc.names.lookup x=some .local\/sc.names.lookup x=some .cell
 nofree:∀y∈sc.names,y.2≠.free
def zeQ {B:Str->Option NameKind}{x:Str}:∀ {q:List (Str×Value)} {m:Str->Option Value},(∀v,(x,v)∉q)->bindL B q m x=m x
 | [],_,_=>rfl
 | (n,v)::r,m,h=>by
  unfold bindL;rw[zeQ λw D=>h w (ao _ D)];split
  all_goals grind
def zeO {B:Str->Option NameKind}{x:Str}:∀ {q:List (Str×Value)} {m:Str->Option Value},(∀v,(x,v)∉q)->bindC B q m x=m x
 | [],_,_=>rfl
 | (n,v)::r,m,h=>by
  unfold bindC;rw[zeO λw D=>h w (ao _ D)];split
  all_goals grind
def zeP {q:Str->Option NameKind}{x:Str}{v:Value}:∀ {P:List Str} {vs:List Value} {i:Nat} {m:Str->Option Value},P.Nodup->P[i]?=some x->vs[i]?=some v->q x=some .local->
  bindL q (P.zip vs) m x=some v
 | [],_,_,_,_,h,_,_=>by simp at h
 | _::_,[],_,_,_,_,h,_=>by simp at h
 | p::P,w::vs,0,m,B,h1,h2,D=>by simp at h1 h2;subst h1;subst h2;show bindL q ((p,w)::P.zip vs) m p=_;unfold bindL;rw[zeQ λv F=>(bT.mp B).1 (List.of_mem_zip F).1,if_pos D];simp
 | p::P,w::vs,i+1,m,B,h1,h2,D=>by show bindL q ((p,w)::P.zip vs) m x=_;unfold bindL;exact zeP (i:=i) (bT.mp B).2 (by simpa using h1) (by simpa using h2) D
def zeN {q:Str->Option NameKind}{x:Str}{v:Value}:∀ {P:List Str} {vs:List Value} {i:Nat} {m:Str->Option Value},P.Nodup->P[i]?=some x->vs[i]?=some v->q x≠some .local->
  bindC q (P.zip vs) m x=some v
 | [],_,_,_,_,h,_,_=>by simp at h
 | _::_,[],_,_,_,_,h,_=>by simp at h
 | p::P,w::vs,0,m,B,h1,h2,D=>by simp at h1 h2;subst h1;subst h2;show bindC q ((p,w)::P.zip vs) m p=_;unfold bindC;rw[zeO λv F=>(bT.mp B).1 (List.of_mem_zip F).1,if_neg D];simp
 | p::P,w::vs,i+1,m,B,h1,h2,D=>by show bindC q ((p,w)::P.zip vs) m x=_;unfold bindC;exact zeN (i:=i) (bT.mp B).2 (by simpa using h1) (by simpa using h2) D
def xj (N:List Str)(vs:List V):St:=vs.map some++List.replicate (N.length - vs.length) none
def zcX (CX:CXT)(P:Program)(w:World)(K:PySem.W.Frag)(mg:Str->Option Value)(base:Heap)(N:List Str)(qual:Str)(scope:Scope)(f:Addr)(cd:Value)(A:Around)(outer:List Env)(s:Shared)(H:Hp)(E:XK):Cx where
 prog:=P
 w:=w
 K:=K
 mg:=mg
 base:=base
 A:=A.deeper (envOfC qual scope s.heap.objs.size f cd)
 N:=N
 s₀:=s
 H₀:=H
 env:=envOfC qual scope s.heap.objs.size f cd
 outer:=outer
 stack:=envOfC qual scope s.heap.objs.size f cd::outer
 ex:=[]
 calm:=true
 fn:=λ_=>true
 pn:=[]
 xe:=λe s'=>wpAny (model P w) (A.deeper (envOfC qual scope s.heap.objs.size f cd)) (leaving (envOfC qual scope s.heap.objs.size f cd) e) (λ_ s''=>CX outer H s E e s'') (λe' s''=>CX outer H s E e' s'') s'
def zgX{B:Scope}(h:B.names.lookup x=some .cell):∃c,(cellsFrom n B.names []).lookup x=some c:=by have q:=PySem.W.cellsFrom_some B.names n [] (.inl h);exact Option.isSome_iff_exists.mp q
def zjs{CX:CXT}{P:Program}{w:World}{K:PySem.W.Frag}{mg:Str->Option Value}{base:Heap}{N ps:List Str}{D:Str}{scope:Scope}{f:Addr}{U:Value}{A:Around}{B:List Env}{s Z:Shared}{H:Hp}{E:XK}{vs:List V}(S:FnScope N ps scope)(hd:A.handled=none)(F:Env0 P w K mg base A B s H)(hl:vs.length=ps.length)(r:yb vs Y)(x:InCallC s s.heap.objs.size (bindL (envOfC D scope s.heap.objs.size f U).kindOf (ps.zip Y) λ_=>none) (cellsFrom (s.heap.objs.size+1) scope.names []) (bindC (envOfC D scope s.heap.objs.size f U).kindOf (ps.zip Y) λ_=>none) Z) :
  Inv (zcX CX P w K mg base N D scope f U A B s H E) [] (xj N vs) H Z:=by
 have ad:ps.length<=N.length:=by have:=congrArg List.length S.pre;rw[aQ] at this;lia
 obtain⟨h1,tk,rfl,hk⟩:=x.done;have I:∀b:Addr,b∉(zcX CX P w K mg base N D scope f U A B s H E).ex:=λb z=>absurd (show b∈([]:List Addr) from z) (by simp)
 refine⟨⟨F.mod,S.kind,rfl,rfl,ai _,λy z c h1 h2=>?_,λy J=>?_,λy c _ h=>?_,λ_=>hd,Around.frames_deeper F.frames,.inr ⟨rfl,rfl⟩,λb z=>absurd z (I b),F.bs,F.bsz,λb _ _=>I b,λb z=>absurd z (I b),F.funs,F.frf⟩,
  rfl,F.bare,Un.kept hk,⟨_,x.toInCall.ns,λi y v h1 h2 h3=>?_⟩,λy c h=>⟨_,x.cell y c h⟩,F.hok.fresh (ai _),λy c h=>?_,λp L=>absurd (show p∈([]:List (Addr×Obj)) from L) (by simp),F.hok.kept hk,?_⟩
 ·exact name_of_addr x.apart (cL h1) (cL h2)
 ·have J:scope.names.lookup y=some .cell\/scope.names.lookup y=some .free:=J;rcases J with J | J
  ·exact zgX J
  ·exact absurd rfl (S.nofree _ (cL J))
 ·exact cj (x.above y c (cL h))
 ·have hi:i<vs.length:=by
   unfold xj at h2;by_cases hi:i<vs.length
   ·exact hi
   ·rw[bg (by simpa using hi)] at h2;rw[List.getElem?_replicate] at h2
    simp_all
  have ha:vs[i]?=some v:=by
   unfold xj at h2;rw[a8 (by simpa using hi),am] at h2
   simp_all
  obtain⟨u,hu,rv⟩:=r.get ha
  have L:ps[i]?=some y:=by rw[<- S.pre,di (by lia)];exact h1
  have O:ps.Nodup:=by rw[<- S.pre];exact S.nd.sublist (dD _ _)
  refine⟨u,rv,?_⟩;rcases S.par y (aj L) with k | k
  ·exact .inl ⟨k,zeP O L hu k⟩
  ·obtain⟨c,e⟩:=zgX (n:=s.heap.objs.size+1) k;refine .inr ⟨.inl k,c,e,?_⟩;have q:=x.cell y c e;rw[zeN O L hu (by show scope.names.lookup y≠_;rw[k];decide)] at q;exact q
 ·exact F.hok.fresh (cj (x.above y c (cL h)))
 ·unfold xj;show _=N.length
  grind
def zrf{CX:CXT}{P:Program}{w:World}{K:PySem.W.Frag}{mg:Str->Option Value}{base:Heap}{f:Addr}{name D:Str}{L:Arguments}{body:List Stmt}{scope:Scope}{dV kV Z pm F ct oc:Value}{an od:Option Addr}{N ps:List Str}{sp:Sp}(lk:K.lookup f=some ⟨oc,od,.func (PySem.W.fnOf name D L body scope dV kV Z pm an F ct),al⟩)(ap:PySem.W.codeIn K F D=true)(S:FnScope N ps scope)(ad:∀vs H Q E,sp vs H Q E->vs.length=ps.length)(U:∀ (A:Around) (B:List Env) (s:Shared) (H:Hp) (vs:List V) (Q:VK) (E:XK),Room k (A.deeper (envOfC D scope s.heap.objs.size f F))->sp vs H Q E->
   ∃t,PSs (zcX CX P w K mg base N D scope f F A B s H E) body t/\t { nx:=λ_ H'=>Q .non H',rt:=Q } (xj N vs) H) :
  FnOk P w K mg base CX (k+1) f (PySem.W.fnOf name D L body scope dV kV Z pm an F ct) ps sp:=by
 refine⟨ad,λA B s H args us vs Q E hr e0 hb r ag=>?_⟩;have hl:=ad _ _ _ _ ag;have KX:K.In s.heap:=e0.mod.kin.keeps λb o e=>(e0.bs b o e).1;have lim:s.heap.NoLimit:=e0.mod.nolimit.keeps λb o e=>(e0.bs b o e).1
 have Y:∀y∈ps.zip us,scope.names.lookup y.1=some .local\/(scope.names.lookup y.1=some .cell/\((cellsFrom (s.heap.objs.size+1) scope.names []).lookup y.1).isSome=true):=by
  rintro⟨n,v⟩ hy;rcases S.par n (List.of_mem_zip hy).1 with q | q
  ·exact .inl q
  ·exact .inr ⟨q,PySem.W.cellsFrom_some _ _ _ (.inl q)⟩
 refine codeAny_call_function hr.depth (KX _ _ lk) rfl S.co S.gen rfl (PySem.W.codeRec_of KX ap) (hb _ _ _ _ ?_);refine wpAny_newFunctionEnv_cells S.kind Y λenv he s1 x=>?_;subst he;refine⟨lim.keeps x.toInCall.keep,codeAny_func ?_⟩;obtain⟨t,ht,hq⟩:=U A B s H vs Q E (hr.deeper _) ag;have I:Inv (zcX CX P w K mg base N D scope f F A B s H E) [] (xj N vs) H s1:=zjs S hr.hd e0 hl r x;refine aU (ht [] s1 (xj N vs) H _ I hq) (λfl s' hs=>?_) λe s' hs=>hs
 have fin:∀ {O:St} {H':Hp} {v:V} {u:Value},Inv (zcX CX P w K mg base N D scope f F A B s H E) [] O H' s'->yG v u->Q v H'->CE B P w H s Q u s':=
  λ{O H' v u} J rv q=>⟨v,H',J.os,J.bare,J.base,J.hok,rv,q⟩
 cases fl with
 | ret u=>
  obtain⟨v,O,H',J,rv,q⟩:=hs;exact fin J rv q
 | next=>
  obtain⟨O,H',J,q⟩:=hs;exact fin (v:=V.non) (u:=Value.none) J rfl q
 | brk=>
  obtain⟨_,_,_,q⟩:=hs;exact False.elim q
 | cont=>
  obtain⟨_,_,_,q⟩:=hs;exact False.elim q
section
variable {X:Cx}{x:Str}{p pos:Pos}{e:Expr}{es:List Expr}{t:TA}{id T:String}{r:List V->Hp->VK->Prop}
def tCB (r:List V->Hp->VK->Prop)(t:TA):TE:=λσ H Q=>t σ H λvs H1=>r vs H1 Q
def zmi (D:zcS X (.builtin id) r)(F:Gl X x)(J:X.mg x=none)(L:bootBuiltins x=some (.builtin id))(O:PA X (e::es) t)(U:x ≠ "__name__" := by decide)(q:(x==("__debug__" : Str))=false:=by decide)
  (Y:starEach (e::es) X.env=(false,eval e X.env)::starEach es X.env:=by rfl) (B:(backTo pos (starEach es X.env)).any (·.1)=false:=by rfl):PE X (.Call (.Name x p) (e::es) [] pos) (tCB r t):=by
 intro pins s σ H Q I h;refine eL (zbq I F J L ?_ U q);exact PyProof.Rows.callWith_builtin1 (thn (O pos pins s σ H _ I h) <| by rintro Z s1 ⟨vs,H1,I1,r1,q1⟩;exact D pins s1 σ H1 vs Z Q I1 r1 q1) Y B
def zkk (D:zcS X (.type T) r)(F:Gl X x)(J:X.mg x=none)(L:bootBuiltins x=some (.type T))(O:PA X (e::es) t)(U:x ≠ "__name__" := by decide)(q:(x==("__debug__" : Str))=false:=by decide)
  (Y:starEach (e::es) X.env=(false,eval e X.env)::starEach es X.env:=by rfl) (B:(backTo pos (starEach es X.env)).any (·.1)=false:=by rfl):PE X (.Call (.Name x p) (e::es) [] pos) (tCB r t):=by
 intro pins s σ H Q I h;refine eL (zbq I F J L ?_ U q);exact bC (thn (O pos pins s σ H _ I h) <| by rintro Z s1 ⟨vs,H1,I1,r1,q1⟩;exact D pins s1 σ H1 vs Z Q I1 r1 q1) Y B
end
section
variable {κ:Type}[DecidableEq κ]
def za6 (kvs:List (κ×V))(k:κ):Option V:=(kvs.find? λkv=>decide (kv.1=k)).map (·.2)
def zao (kvs:List (κ×V))(k:κ)(v:V):List (κ×V):=
 if (kvs.any λkv=>decide (kv.1=k))=true then kvs.map (λkv=>if kv.1=k then (kv.1,v) else kv) else kvs++[(k,v)]
def xt{p:κ×V}(e:p.1=k):za6 (p::r) k=some p.2:=by simp[za6,bH,e]
def xM{p:κ×V}{r:List (κ×V)}(e:¬ p.1=k):za6 (p::r) k=za6 r k:=by simp[za6,bH,e]
def zeD (k:κ):∀kvs:List (κ×V),(kvs.any λkv=>decide (kv.1=k))=(za6 kvs k).isSome
 | []=>rfl
 | p::r=>by
  rw[cB];by_cases e:p.1=k
  ·simp only[xt e,a9 e,Bool.true_or,Option.isSome_some]
  ·rw[xM e,ba e,Bool.false_or];exact zeD k r
def xQ (kvs:List (κ×V))(k:κ)(v:V):(zao kvs k v).length<=kvs.length+1:=by
 unfold zao;split
 all_goals simp_all
def zmw {kvs:List (κ×V)}{k:κ}(v:V)(h:za6 kvs k=none):zao kvs k v=kvs++[(k,v)]:=by
 unfold zao;rw[zeD,h]
 simp_all
def ziB.isSome_eq(r:ziB o u):o.isSome=u.isSome:=by
 cases o with
 | none=>cases u with
  | none=>rfl
  | some _=>exact (show False from r).elim
 | some _=>cases u with
  | none=>exact (show False from r).elim
  | some _=>rfl
def KV.val(r:KV kvs vs)(k:κ):ziB (za6 kvs k) (valueAt vs k):=by
 unfold KV at r
 induction r with
 | nil=>exact True.intro
 | @cons p q ps B h t F=>
  obtain⟨h1,h2⟩:=h;by_cases e:p.1=k
  ·have D:q.1=k:=h1.symm.trans e;have b:valueAt (q::B) k=some q.2:=by simp[valueAt,bH,D]
   rw[xt e,b];exact h2
  ·have D:¬ q.1=k:=λz=>e (h1.trans z);have b:valueAt (q::B) k=valueAt B k:=by simp[valueAt,bH,D]
   rw[xM e,b];exact F
def KV.any(r:KV kvs vs)(k:κ):(kvs.any λkv=>decide (kv.1=k))=vs.any λkv=>decide (kv.1=k):=by
 unfold KV at r
 induction r with
 | nil=>rfl
 | cons h t q=>rw[cB,cB,q,h.1]
def KV.repl {kvs:List (κ×V)}{vs:List (κ×Value)}(r:KV kvs vs)(k:κ){y:V}{u:Value}(D:yG y u) :
  KV (kvs.map λkv=>if kv.1=k then (kv.1,y) else kv) (vs.map λkv=>if kv.1=k then (kv.1,u) else kv):=by
 unfold KV at r ⊢
 induction r with
 | nil=>exact .nil
 | @cons p q ps F h t B=>
  rw[aC,aC];refine .cons ?_ B
  grind
def KV.put(r:KV kvs vs)(k:κ)(q:yG y u):KV (zao kvs k y) (stored vs k u):=by
 unfold zao stored;rw[r.any k];by_cases e:(vs.any λkv=>decide (kv.1=k))=true
 ·rw[if_pos e,if_pos e];exact r.repl k q
 ·rw[if_neg e,if_neg e];exact Paired.snoc r ⟨rfl,q⟩
def KV.length {kvs:List (κ×V)}{vs:List (κ×Value)}(r:KV kvs vs):kvs.length=vs.length:=eh r
end
def zjH(r:yG (kV k) u):(z6 P w).is k u=true:=by
 cases k with
 | inl i=>obtain⟨t,e⟩:=(show ∃t,u=Value.int i t from r);subst e;exact zgr P w i t
 | inr x=>obtain⟨t,e⟩:=(show ∃t,u=Value.str x t from r);subst e;exact zgs P w x t
def ze8:∀ {ks:List Key} {q:List Value},yb (ks.map kV) q->ItemsAre (z6 P w) ks q
 | [],_,r=>by rw[dQ] at r;cases r;exact .nil
 | k::ks,_,r=>by
  rw[aC] at r
  cases r with
  | cons h t=>exact .cons (zjH h) (ze8 t)
abbrev KT (H:Hp):List (List Key×V)->List (List Key×Addr×Value)->Prop:=Paired λp q=>p.1=q.1/\H q.2.1=some (.tup (p.1.map kV))/\yG p.2 q.2.2
def KT.val(r:KT H kvs xs)(k:List Key):ziB (za6 kvs k) ((atKey xs k).map (·.2)):=by
 induction r with
 | nil=>exact True.intro
 | @cons p q ps B h t F=>
  obtain⟨h1,_,h2⟩:=h;by_cases e:p.1=k
  ·have D:q.1=k:=h1.symm.trans e;have b:atKey (q::B) k=some q.2:=by simp[atKey,bH,D]
   rw[xt e,b];exact h2
  ·have D:¬ q.1=k:=λz=>e (h1.trans z);have b:atKey (q::B) k=atKey B k:=by simp[atKey,bH,D]
   rw[xM e,b];exact F
def KT.repl(r:KT H kvs xs)(k:List Key)(D:yG y u) :
  KT H (kvs.map λkv=>if kv.1=k then (kv.1,y) else kv) (xs.map (putAt k u)):=by
 induction r with
 | nil=>exact .nil
 | @cons p q ps F h t B=>
  rw[aC,aC];refine .cons ?_ B;obtain⟨h1,h2,I⟩:=h;unfold putAt;by_cases e:p.1=k
  all_goals simp_all
def KT.put(r:KT H kvs xs)(k:List Key)(D:H b=some (.tup (k.map kV)))(B:yG y u) :
  KT H (zao kvs k y) (storedH xs k b u):=by
 have e:(kvs.any λkv=>decide (kv.1=k))=(atKey xs k).isSome:=by rw[zeD,(r.val k).isSome_eq,Option.isSome_map]
 unfold zao storedH;rw[e];by_cases q:(atKey xs k).isSome=true
 ·rw[if_pos q,if_pos q];exact r.repl k B
 ·rw[if_neg q,if_neg q];exact Paired.snoc r ⟨rfl,D,B⟩
def KT.keeps(r:KT H kvs xs)(q:∀b ys,H b=some (.tup ys)->H' b=some (.tup ys)):KT H' kvs xs:=
 Paired.mapP r λ_ _ z=>⟨z.1,q _ _ z.2.1,z.2.2⟩
section
variable {P:Program}{w:World}{H:Hp}{h:Heap}{a:Addr}
def zpZ(q:HOk P w H h)(e:Rd H a u):yp P w H h a u:=e.ok q
def zod(q:HOk P w H h)(e:Rd H a (.dK kvs)):kvs.length<=sizeLine/\(a==sysModules)=false/\∃vs,KV kvs vs/\h.DictOf (z6 P w) a vs:=
 show yp P w H h a (.dK kvs) from zpZ q e
def zoc(q:HOk P w H h)(e:H a=some (.dK kvs)):kvs.length<=sizeLine/\(a==sysModules)=false/\∃vs,KV kvs vs/\h.DictOf (z6 P w) a vs:=zod q (.inl e)
def zhj(q:HOk P w H h)(e:H a=some (.tup (ks.map kV))):(tupleKind (z6 P w)).is h ks a:=by obtain⟨_,its,r,o,h1,h2,⟨n,B⟩,_⟩:=(show yp P w H h a (.tup (ks.map kV)) from q a _ e);exact⟨o,its.toArray,n,h1,h2,B,by simpa using ze8 r⟩
def zoe(D:HOk P w H h)(e:Rd H a (.dT kvs)):kvs.length<=sizeLine/\(a==sysModules)=false/\
  ∃xs,KT H kvs xs/\h.DictOfH (tupleKind (z6 P w)) a xs:=by
 obtain⟨z,y,xs,r,o,es,F,h1,h2,I,J,L⟩:=(show yp P w H h a (.dT kvs) from zpZ D e);refine⟨z,y,xs,r,o,es,F,h1,h2,I,J,λx B=>?_,L⟩
 have all:∀ {l:List (List Key×V)} {m:List (List Key×Addr×Value)},KT H l m->∀x∈m,(tupleKind (z6 P w)).is h x.1 x.2.1:=by
  intro l m q
  induction q with
  | nil=>intro x B;exact nomatch B
  | @cons p q ps U Y t O=>
   intro x B;rcases aG.mp B with e | B
   ·subst e;exact zhj D (by simp_all)
   ·exact O x B
 exact all r x B
def zq9(q:HOk P w H h)(e:H a=some (.dT kvs)):kvs.length<=sizeLine/\(a==sysModules)=false/\
  ∃xs,KT H kvs xs/\h.DictOfH (tupleKind (z6 P w)) a xs:=zoe q (.inl e)
end
def zcQ (H:Hp)(a:Addr)(y:V)(r:Option V):Prop:=
 (∃kvs k,Rd H a (.dK kvs)/\y=kV k/\r=za6 kvs k)\/∃kvs k b,Rd H a (.dT kvs)/\y = .ref b/\H b=some (.tup (k.map kV))/\r=za6 kvs k
def zcT (H:Hp)(a:Addr)(y v:V)(H':Hp):Prop:=
 (∃kvs k,H a=some (.dK kvs)/\y=kV k/\kvs.length<sizeLine/\H'=upd H a (.dK (zao kvs k v)))\/
 ∃kvs k b,H a=some (.dT kvs)/\y = .ref b/\H b=some (.tup (k.map kV))/\kvs.length<sizeLine/\H'=upd H a (.dT (zao kvs k v))
def zcQ.k {H:Hp}{a:Addr}{kvs:List (Key×V)}{k:Key}(e:H a=some (.dK kvs)):zcQ H a (kV k) (za6 kvs k):=.inl ⟨kvs,k,.inl e,rfl,rfl⟩
def zcQ.t {H:Hp}{a b:Addr}{kvs:List (List Key×V)}{k:List Key}(e:H a=some (.dT kvs))(q:H b=some (.tup (k.map kV))):zcQ H a (.ref b) (za6 kvs k):=.inr ⟨kvs,k,b,.inl e,rfl,q,rfl⟩
def zcT.k {H:Hp}{a:Addr}{kvs:List (Key×V)}{k:Key}{v:V}(e:H a=some (.dK kvs))(q:kvs.length<sizeLine):zcT H a (kV k) v (upd H a (.dK (zao kvs k v))):=.inl ⟨kvs,k,e,rfl,q,rfl⟩
def zcT.t {H:Hp}{a b:Addr}{kvs:List (List Key×V)}{k:List Key}{v:V}(e:H a=some (.dT kvs))(q:H b=some (.tup (k.map kV)))(B:kvs.length<sizeLine) :
  zcT H a (.ref b) v (upd H a (.dT (zao kvs k v))):=.inr ⟨kvs,k,b,e,rfl,q,B,rfl⟩
section
variable {X:Cx}{pins:List (Addr×Obj)}{σ:St}{H:Hp}{s:Shared}{a:Addr}{y v:V}{u r:Value}{o:Option V}{A:Around}{E:Value->Shared->Prop}
def Inv.big (I:Inv X pins σ H s):sysModules<s.heap.objs.size:=by have h:mainGlobals<s.heap.objs.size:=(I.mod.glob.keeps I.bk).lt;exact Nat.lt_trans (by decide) h
def zeV(O:A.units+1<cLine)(I:Inv X pins σ H s)(g:zcQ H a y (some v))(L:yG y u)(h:∀w' s',Inv X pins σ H s'->yG v w'->Q w' s') :
  wpAny (model X.prog X.w) A (getItem (.ref a) u) Q E s:=by
 rcases g with ⟨kvs,k,e,ey,l⟩ | ⟨kvs,k,b,e,ey,eb,l⟩
 ·subst ey;obtain⟨z,U,vs,q,D⟩:=zod I.hok e;obtain⟨w',F,B⟩:=ziB.some_of (v:=v) (o:=valueAt vs k) (by rw[l];exact q.val k);exact wpAny_getItem_of (zjH L) D.mapOf F (h w' _ (I.tok _) B)
 ·subst ey;cases (show u=Value.ref b from L);obtain⟨z,U,xs,q,D⟩:=zoe I.hok e;obtain⟨w',F,B⟩:=ziB.some_of (v:=v) (o:=(atKey xs k).map (·.2)) (by rw[l];exact q.val k);obtain⟨p,Y,J⟩:=aB.mp F;refine wpAny_getItem_heap (tupleKind_room_in1 O) (zhj I.hok eb) D Y ?_;rw[J];exact h w' _ (I.tok _) B
def zb8(I:Inv X pins σ H s)(D:Mut (H a))(hs:Heap.SameBut a s.heap h')(F:∃q,h'.get? a=some q)(B:yp X.prog X.w (upd H a ob) h' a ob) :
  Inv X pins σ (upd H a ob) { s with heap:=h',toks:=t' }:=
 I.write (x:=a) (e:=a) D (.inl rfl) (λb q J z=>(hs.2 b J).trans z) F B
def zi8(z:kvs.length<=sizeLine)(B:(a==sysModules)=false)(q:KV kvs vs)(D:h'.DictOf (z6 P w) a vs) :
  yp P w H' h' a (.dK kvs):=⟨z,B,vs,q,D⟩
def zeW(hu:A.units+1<cLine)(I:Inv X pins σ H s)(g:zcT H a y v H')(Y:yG y u)(Z:yG v r)(h:∀s',Inv X pins σ H' s'->Q () s') :
  wpAny (model X.prog X.w) A (setItem (.ref a) u r) Q E s:=by
 rcases g with ⟨kvs,k,e,ey,l,eH⟩ | ⟨kvs,k,b,e,ey,eb,l,eH⟩
 ·subst ey eH;obtain⟨z,J,vs,B,L⟩:=zoc I.hok e;have O:vs.length<=sizeLine:=by rw[<- B.length];exact z
  have U:(zao kvs k v).length<=sizeLine:=by have:=xQ kvs k v;lia
  refine wpAny_setItem_pairs (hsz:=O) (zjH Y) L λh' D hs=>h _ ?_;have he:∃q,h'.get? a=some q:=let ⟨q,_,_,F,_⟩:=D;⟨q,F⟩;exact zb8 I (by rw[e];exact True.intro) hs he (zi8 U J (B.put k Z) D)
 ·subst ey eH;cases (show u=Value.ref b from Y);obtain⟨z,J,xs,B,L⟩:=zq9 I.hok e;have O:xs.length<=sizeLine:=by rw[<- eh B];exact z
  have U:(zao kvs k v).length<=sizeLine:=by have:=xQ kvs k v;lia
  refine wpAny_setItem_heap (hsz:=O) (tupleKind_room_in1 hu) (zhj I.hok eb) L λh' D hs=>h _ ?_;obtain⟨q,es,ep,F,h2,h3,h4,_,h5⟩:=D;refine zb8 I (by rw[e];exact True.intro) hs ⟨q,F⟩ ⟨U,J,_,(B.put k eb Z).keeps λc ys ec=>?_,q,es,ep,F,h2,h3,h4,h5⟩;rw[zg (by grind)];exact ec
end
section
variable {X:Cx}{pins:List (Addr×Obj)}{σ:St}{H:Hp}{s:Shared}{a:Addr}{kvs:List (Key×V)}{k:Key}{u:Value}{A:Around}{E:Value->Shared->Prop}
end
def zqF (i:Expr):Prop:=∀q B,subscripted i false q B=operate [q,B] (getItem q B)
def zqf {prog:Program}{w:World}{A:Around}{E:Value->Shared->Prop}{s:Shared}{env:Env}{value q:Expr}{pos:Pos}{T id:String}{Q:Value->Shared->Prop}
  (O:typeLookup (.type T) "__getitem__" = pure (some (.builtin id))) (hs:zqF q)
  (h:wpAny (model prog w) A (eval value env) (λo F=>wpAny (model prog w) A (eval q env) (λi B=>B.TypeIs o T/\wpAny (model prog w) A (getItem o i) Q E B) E F) E s) :
  wpAny (model prog w) A (eval (.Subscript value q pos) env) Q E s:=by
 refine fP (aU h (λo F h₁=>aU h₁ (λi B D=>?_) λ_ _ x=>x) λ_ _ x=>x);obtain⟨L,D⟩:=D;unfold subscriptTail;refine aa ?_;rw[getitemInPython_of_ne L.not_modules];refine aa (eu L O ?_)
 have fin:wpAny (model prog w) A (subscripted q false o i) (λr I=>wpAny (model prog w) A (letTemporaryGo value o r >>= λ_=>pure r) Q E I) E B:=by rw[hs o i];exact wpAny_operating (aU D (λr I J=>aa (wpAny_letTemporaryGo (ae J))) λ_ _ x=>x)
 first
  | exact ae (aa fin)
  | exact aa (by grind)
  | exact aa fin
def zf0{X:Cx}{pins:List (Addr×Obj)}{σ:St}{H:Hp}{s:Shared}{a:Addr}{y:V}(I:Inv X pins σ H s)(g:zcQ H a y o):s.TypeIs (.ref a) "dict" := by
 rcases g with ⟨kvs,k,e,_,_⟩ | ⟨kvs,k,b,e,_,_,_⟩
 ·obtain⟨_,_,vs,_,q⟩:=zod I.hok e;exact q.typeIs
 ·obtain⟨_,_,xs,_,q⟩:=zoe I.hok e;exact q.typeIs
def zs7 (td ty:TE):TE:=λσ H Q=>td σ H λx H1=>ty σ H1 λy H2=>∃a v,x = .ref a/\zcQ H2 a y (some v)/\Q v H2
def zs0 (td ty tv:TE):TS:=λD σ H=>tv σ H λv H1=>td σ H1 λx H2=>ty σ H2 λy H3=>∃a H4,x = .ref a/\zcT H3 a y v H4/\D.nx σ H4
def zvC (td ty tv:TE)(q:V->V->Hp->VK->Prop):TS:=λD σ H=>td σ H λx H1=>ty σ H1 λy H2=>∃a v,x = .ref a/\zcQ H2 a y (some v)/\
 tv σ H2 λB H3=>q v B H3 λz H4=>∃H5,zcT H4 a y z H5/\D.nx σ H5
section
variable {X:Cx}{o i e value:Expr}{pos pos' tpos:Pos}{td ty tv:TE}
def zpf (B:X.A.units+1<cLine)(D:PE X o td)(hi:PE X i ty)(hs:zqF i):PE X (.Subscript o i pos) (zs7 td ty):=by intro pins s σ H Q I h;refine zqf PySem.F.slot_dict_getitem.lookup hs (thn (D pins s σ H _ I h) λu J ⟨x,H1,I1,L,O⟩=>thn (hi pins J σ H1 _ I1 O)  ?_);rintro Z s2 ⟨y,H2,I2,U,a,v,ex,g,Y⟩;subst ex;obtain rfl:u=Value.ref a:=L;exact⟨zf0 I2 g,zeV B I2 g U λw' s3 I3 q=>⟨v,H2,I3,q,Y⟩⟩
def zpw (q:X.A.units+1<cLine)(B:PE X o td)(hi:PE X i ty)(F:PE X value tv)(hs:swapsWith value (some (.Subscript o i pos')) pos.line X.env=pure false) :
  PS X (.Assign [.Subscript o i pos'] value pos) (zs0 td ty tv):=by
 intro pins s σ H D I h;refine wpAny_Assign_Subscript (thn (F pins s σ H _ I h) λr J ⟨v,H1,I1,L,O⟩=>thn (B pins J σ H1 _ I1 O) λu U ⟨x,H2,I2,Y,Z⟩=>thn (hi pins U σ H2 _ I2 Z) λiv s3 ⟨y,H3,I3,ry,a,H4,ex,g,q3⟩=>?_) hs;subst ex;obtain rfl:u=Value.ref a:=Y;exact zeW q I3 g ry L λs4 I4=>⟨σ,H4,I4,q3⟩
def zpv(hu:X.A.units+1<cLine)(ho:PE X o td)(hi:PE X i ty)(hv:PE X value tv)(hop:ztJ X op rd)(ha:∀ov iv new,augStore i ov iv new=(do holding [new,ov,iv] (setItem ov iv new);release [new,ov,iv] [];pure .next)):PS X (.AugAssign (.Subscript o i tpos) op value pos) (zvC td ty tv rd):=by
 intro pins s σ H D I h;refine wpAny_AugAssign_SubscriptAny (thn (ho pins s σ H _ I h) λu s1 ⟨x,H1,I1,rx,q1⟩=>thn (hi pins s1 σ H1 _ I1 q1) λiv s2 ⟨y,H2,I2,ry,a,v,ex,g,q2⟩=>?_) ha;subst ex;obtain rfl:u=Value.ref a:=rx;refine zeV hu I2 g ry λw' s3 I3 rw'=>thn (hv pins s3 σ H2 _ I3 q2) λw2 s4 ⟨y2,H3,I4,ry2,q3⟩=>thn (hop pins s4 σ H3 v y2 w' w2 _ I4 rw' ry2 q3)  ?_;rintro w3 s5 ⟨z,H4,I5,rz,H5,g5,q4⟩;exact zeW hu I5 g5 ry rz λs6 I6=>⟨σ,H5,I6,q4⟩
end
def zdT(h:Heap)(q:sysModules<h.objs.size):yp P w H (h.push { cls:=.type "dict",data:=.dict #[] }) h.objs.size (.dK []):=
 ⟨aN _,eA.mpr (Ne.symm (aJ q)),[],.nil,Heap.DictOf.new h⟩
def zg2(h:Heap)(q:sysModules<h.objs.size):yp P w H (h.push { cls:=.type "dict",data:=.dict #[] }) h.objs.size (.dT []):=
 ⟨aN _,eA.mpr (Ne.symm (aJ q)),[],.nil,_,#[],0,aq _ rfl,⟨rfl,rfl,rfl⟩,rfl,rfl,eV⟩
def znN:TE:=λ_ H Q=>∀p,H p=none->Q (.ref p) (upd H p (.dK []))
def zs8:TE:=λ_ H Q=>∀p,H p=none->Q (.ref p) (upd H p (.dT []))
section
variable {X:Cx}{pos:Pos}
def zmj:PE X (.Dict [] [] pos) znN:=λpins s σ H Q I h=>
 wpAny_Dict_empty ⟨.ref s.heap.objs.size,_,I.laid (a:=s.heap.objs.size) (o:=.dK []) (t':=s.toks) (λ_ _ q=>af _ q) (ai _) (zdT s.heap I.big),rfl,h _ (I.hok.fresh (ai _))⟩
def zmk:PE X (.Dict [] [] pos) zs8:=λpins s σ H Q I h=>
 wpAny_Dict_empty ⟨.ref s.heap.objs.size,_,I.laid (a:=s.heap.objs.size) (o:=.dT []) (t':=s.toks) (λ_ _ q=>af _ q) (ai _) (zg2 s.heap I.big),rfl,h _ (I.hok.fresh (ai _))⟩
end
def zkV:List (TE×TE)->St->Hp->(List (V×V)->Hp->Prop)->Prop
 | [],_,H,Q=>Q [] H
 | (tk,tv)::r,σ,H,Q=>tk σ H λx H1=>tv σ H1 λy H2=>zkV r σ H2 λps H3=>Q ((x,y)::ps) H3
abbrev VV:List (V×V)->List (Value×Value)->Prop:=Paired λp q=>yG p.1 q.1/\yG p.2 q.2
def PPs (X:Cx)(pos:Pos)(B:List (Option Expr))(q:List Expr)(D:List (TE×TE)):Prop:=
 ∀ (pins:List (Addr×Obj)) (s:Shared) (σ:St) (H:Hp) (Q:List (V×V)->Hp->Prop),Inv X pins σ H s->zkV D σ H Q->
  wpAny (model X.prog X.w) X.A (evalPairs (pairTrees B q X.env pos)) (λvs s'=>∃ps H',Inv X pins σ H' s'/\VV ps vs/\Q ps H') X.xe s
def zpt:PPs X pos [] [] []:=λpins s σ H Q I h=>pairTrees_nil_walk ⟨[],H,I,.nil,h⟩
def zms(D:PE X k tk)(F:PE X v tv)(J:PPs X pos ks vs q) :
  PPs X pos (some k::ks) (v::vs) ((tk,tv)::q):=λpins s σ H Q I h=>
 pairTrees_cons_walk (thn (D pins s σ H _ I h) λu L ⟨x,H1,I1,O,U⟩=>thn (F pins L σ H1 _ I1 U) λw2 Y ⟨y,H2,I2,Z,q2⟩=>
  thn (J pins Y σ H2 _ I2 q2) <| by rintro ws s3 ⟨ps,H3,I3,B,q3⟩;exact⟨(x,y)::ps,H3,I3,.cons ⟨O,Z⟩ B,q3⟩)
def zcr (kvs more:List (Key×V)):List (Key×V):=more.foldl (λacc kv=>zao acc kv.1 kv.2) kvs
def KV.merge:∀ {more:List (Key×V)} {B:List (Key×Value)} {kvs:List (Key×V)} {vs:List (Key×Value)},KV more B->KV kvs vs->KV (zcr kvs more) (merged vs B):=by
 intro more B kvs vs r;unfold KV at r
 induction r generalizing kvs vs with
 | nil=>intro q;exact q
 | @cons p q ps I h t D=>
  intro F
  have e:KV (zao kvs p.1 p.2) (stored vs q.1 q.2):=by
   have:=F.put p.1 h.2
   simp_all
  exact D e
def zaL:∀ (more kvs:List (Key×V)),(zcr kvs more).length<=kvs.length+more.length
 | [],kvs=>by show kvs.length<=kvs.length+0;lia
 | p::r,kvs=>by
  have h1:=zaL r (zao kvs p.1 p.2);have h2:=xQ kvs p.1 p.2;show (zcr (zao kvs p.1 p.2) r).length<=_
  grind
def zdf:∀ {kvs:List (Key×V)} {D:List (Value×Value)},VV (kvs.map λkv=>(kV kv.1,kv.2)) D->∃B,Carries (z6 P w) D B/\KV kvs B
 | [],_,r=>by rw[dQ] at r;cases r;exact⟨[],True.intro,.nil⟩
 | p::kvs,_,r=>by
  rw[aC] at r
  cases r with
  | @cons a b as I h t=>
   obtain⟨B,c,q⟩:=zdf (P:=P) (w:=w) t;obtain⟨J,F⟩:=b;exact⟨(p.1,F)::B,⟨zjH h.1,rfl,c⟩,.cons ⟨rfl,h.2⟩ q⟩
def zs9 (q:List (TE×TE)):TE:=λσ H Q=>∀p,H p=none->zkV q σ (upd H p (.dK [])) λps H2=>H2 p=some (.dK [])/\∃kvs:List (Key×V),ps=kvs.map (λkv=>(kV kv.1,kv.2))/\kvs.length<=15/\Q (.ref p) (upd H2 p (.dK (zcr [] kvs)))
def zpg(h:PPs X pos B D F)(J:B.all (·.isSome)=true)(Y:B.length=D.length)(Z:B≠[])(O:B.length<=15):PE X (.Dict B D pos) (zs9 F):=by
 intro pins s σ H Q I q;have hn:=I.hok.fresh (ai s.heap.objs.size);have I1:=I.laid (a:=s.heap.objs.size) (o:=.dK []) (h':=s.heap.push { cls:=.type "dict",data:=.dict #[] }) (t':=s.toks) (λ_ _ q=>af _ q) (ai _) (zdT s.heap I.big);refine wpAny_Dict_walk (knd:=z6 X.prog X.w) J Y Z O (thn (h pins _ σ _ _ I1 (q _ hn))  ?_);rintro ws s2 ⟨ps,H2,I2,U,e,kvs,ep,lk,q2⟩;subst ep;obtain⟨rs,c,rk⟩:=zdf (P:=X.prog) (w:=X.w) U;obtain⟨z,hd,ad,r0,dd⟩:=zoc I2.hok e;cases r0;refine⟨rs,c,dd,λh' L hs=>⟨.ref s.heap.objs.size,_,?_,rfl,q2⟩⟩
 have hz:(zcr [] kvs).length<=sizeLine:=by have h1:=zaL kvs [];rw[List.length_nil] at h1;rw[bQ];lia
 have he:∃q,h'.get? s.heap.objs.size=some q:=let ⟨q,_,_,hq,_⟩:=L;⟨q,hq⟩;exact zb8 I2 (by rw[e];exact True.intro) hs he (zi8 hz hd (rk.merge .nil) L)
section
variable {X:Cx}{pins:List (Addr×Obj)}{σ:St}{H:Hp}{s:Shared}{a:Addr}{y d:V}{u r:Value}{o:Option V}{A:Around}{E:Value->Shared->Prop}
end
section
variable {X:Cx}{o e f:Expr}{apos cpos:Pos}{td ty tx:TE}
end
section
variable {X:Cx}{pins:List (Addr×Obj)}{σ:St}{H:Hp}{s:Shared}{a:Addr}{kvs:List (Key×V)}{A:Around}{E:Value->Shared->Prop}
end
section
variable {X:Cx}{pins:List (Addr×Obj)}{σ:St}{H:Hp}{s:Shared}{a:Addr}{y:V}{u:Value}{A:Around}{E:Value->Shared->Prop}
end
end L2
namespace HT
open PySem PyProof.Rows
def lexLt:List Int->List Int->Bool
 | [],[]=>false
 | [],_::_=>true
 | _::_,[]=>false
 | x::xs,y::ys=>if x=y then lexLt xs ys else decide (x<y)
section
open PySem.SeqAt
open PySem.AutoSeq1 (wpAny_loadPart')
open PySem.MeetsSeq PySem.MeetsSeq2 PySem.MeetsSeq3
end
section
variable {prog:Program}{w:World}{A:Around}{E:Value->Shared->Prop}{s:Shared}
def cat_tup(ht:IsTup s.heap t vs.toArray)(hb:IsTup s.heap b q.toArray)(Z:vs≠[])(h1:q=[]->Q (.ref t) s)(h2:q≠[]->Q (.ref s.heap.objs.size) { s with heap:=s.heap.push { cls:=.type "tuple",data:=.seq (vs++q).toArray } })(hsz:vs.length+q.length<=sizeLine):wpAny (model prog w) A (binaryOp .Add (.ref t) (.ref b)) Q E s:=by
 obtain⟨⟨cls,dd,data,sl⟩,O,hc,n,hd⟩:=id ht;obtain⟨⟨ad,D,Y,I⟩,B,J,n2,L⟩:=id hb;simp only at hc hd J L;subst hc hd J L;have e:vs.toArray++q.toArray=(vs++q).toArray:=by simp
 by_cases U:q=[]
 ·exact concat_meets ⟨_,O,rfl⟩ ⟨_,B,rfl⟩ noFill_tuple_add seq_tuple_add PySem.F.slot_tuple_add PySem.F.entry_tuple_add (PySem.F.args_tuple_add_2 _ _)
   (tuple_addW1 t b vs.toArray q.toArray n n2 dd D sl I (by simpa using Z) (by simp[U])) ⟨O,B,h1 U⟩
 ·refine concat_meets ⟨_,O,rfl⟩ ⟨_,B,rfl⟩ noFill_tuple_add seq_tuple_add PySem.F.slot_tuple_add PySem.F.entry_tuple_add (PySem.F.args_tuple_add_2 _ _)
   (tuple_addW2 t b vs.toArray q.toArray n n2 dd D sl I (by simpa using Z) (by simpa using U) (by simp_all)) ⟨O,B,?_⟩
  rw[e];exact h2 U
def sIx (n d:Nat):Option Int->Nat
 | none=>d
 | some v=>if v<0 then (v+(n:Int)).toNat else min v.toNat n
def sIx_none (n d:Nat):sIx n d none=d:=rfl
def sIx_nat (n d k:Nat):sIx n d (some (k:Int))=min k n:=by show (if (k:Int)<0 then ((k:Int)+(n:Int)).toNat else min (k:Int).toNat n)=min k n;rw[if_neg (by lia),Int.toNat_natCast]
def zs2 (n d:Nat)(B:d<=n)(o:Option Int):sIx n d o<=n:=by
 cases o with
 | none=>exact B
 | some v=>
  show (if v<0 then (v+(n:Int)).toNat else min v.toNat n)<=n;by_cases q:v<0
  ·rw[if_pos q];lia
  ·rw[if_neg q];exact Nat.min_le_right _ _
def ziQ (v:Int)(n d:Nat):(if v<0 then max (v+(n:Int)) 0 else min v (n:Int))=((sIx n d (some v):Nat):Int):=by
 show (if v<0 then max (v+(n:Int)) 0 else min v (n:Int))=(((if v<0 then (v+(n:Int)).toNat else min v.toNat n):Nat):Int)
 grind
def zhO (lo hi:Option Int)(n:Nat):Builtin.Slice.sliceAdjust lo hi 1 (n:Int)=(((sIx n 0 lo:Nat):Int),((sIx n n hi:Nat):Int)):=by
 have h1:¬ ((1:Int)<0):=by lia
 unfold Builtin.Slice.sliceAdjust;simp only[h1,if_false];refine Prod.ext ?_ ?_
 ·cases lo with
  | none=>rfl
  | some v=>exact ziQ v n 0
 ·cases hi with
  | none=>rfl
  | some v=>exact ziQ v n n
def zie (i j:Nat):Builtin.Slice.slicePlaces (i:Int) (j:Int) 1=j - i:=by
 unfold Builtin.Slice.slicePlaces;have h1:(1:Int) > 0:=by lia
 simp only[h1,if_true,Int.ediv_one];split <;> lia
def ux{o:Option Int}{Q:Option Int->Shared->Prop}(p:IsPart v o)(h:Q o s):wpAny (model prog w) A (Builtin.Slice.slicePartIndex v) Q E s:=by
 cases p with
 | none=>exact slicePart_none h
 | int i t=>exact slicePart_int h
def uQ{lo hi:Option Int}{Q:Int×Int×Nat->Shared->Prop}(hs:s.heap.IsSliceOf I D F .none)(pl:IsPart D lo)(J:IsPart F hi)(h:Q (((sIx n 0 lo:Nat):Int),1,sIx n n hi - sIx n 0 lo) s):wpAny (model prog w) A (Builtin.Slice.sliceApplied (.ref I) (pure (n:Int))) Q E s:=by
 obtain⟨O,q,L,B⟩:=id hs;unfold Builtin.Slice.sliceApplied Builtin.Slice.sliceFields;refine wpAny_bind (wpAny_bind (wpAny_field q B (x:=D) rfl (wpAny_bind (wpAny_field q B (x:=F) rfl (wpAny_bind (wpAny_field q B (x:=.none) rfl (wpAny_pure ?_)))))));refine wpAny_bind (slicePart_none ?_);show wpAny _ _ (if ((1:Int)==0)=true then _ else _) _ _ s;rw[if_neg (by decide)];refine wpAny_bind (ux pl (wpAny_bind (ux J (wpAny_bind (wpAny_pure ?_)))));show wpAny _ _ (match Builtin.Slice.sliceAdjust lo hi 1 (n:Int) with | (lo,hi)=>pure (lo,(1:Int),Builtin.Slice.slicePlaces lo hi 1)) _ _ s;rw[zhO lo hi n];show wpAny _ _ (pure (((sIx n 0 lo:Nat):Int),(1:Int),Builtin.Slice.slicePlaces ((sIx n 0 lo:Nat):Int) ((sIx n n hi:Nat):Int) 1)) _ _ s;rw[zie];exact wpAny_pure h
def zmr (xs:Array Value)(i k:Nat):((List.range k).filterMap λ(m:Nat)=>xs[((i:Int)+(m:Int) * 1).toNat]?).toArray=((xs.toList.drop i).take k).toArray:=by
 have e:(λ(m:Nat)=>xs[((i:Int)+(m:Int) * 1).toNat]?)=λm=>xs[i+m]?:=by
  funext m;have:((i:Int)+(m:Int) * 1).toNat=i+m:=by lia
  rw[this]
 rw[e];have:=pick_run xs i k;rw[List.filterMap_map] at this;have q:((λx=>xs[x]?) ∘ λx=>i+x)=λm=>xs[i+m]?:=rfl
 simp_all
def getItem_tuple_cut{lo hi:Option Int}(B:IsTup s.heap t items)(hs:s.heap.IsSliceOf D O U .none)(pl:IsPart O lo)(Y:IsPart U hi)(hw:¬ (sIx items.size 0 lo=0/\sIx items.size items.size hi=items.size))(h:Q (.ref s.heap.objs.size) { s with heap:=s.heap.push { cls:=.type "tuple",data:=.seq ((items.toList.drop (sIx items.size 0 lo)).take (sIx items.size items.size hi - sIx items.size 0 lo)).toArray } })(hsz:items.size<=sizeLine):wpAny (model prog w) A (getItem (.ref t) (.ref D)) Q E s:=by
 have q:sizeOk (.seq ((items.toList.drop (sIx items.size 0 lo)).take (sIx items.size items.size hi - sIx items.size 0 lo)).toArray):=by show ((items.toList.drop (sIx items.size 0 lo)).take (sIx items.size items.size hi - sIx items.size 0 lo)).toArray.size<=sizeLine;rw[List.size_toArray,List.length_take,List.length_drop,Array.length_toList];lia
 have hj:sIx items.size items.size hi<=items.size:=zs2 _ _ (Nat.le_refl _) hi;obtain⟨Z,F,I,ad⟩:=id hs;have J:s.TypeIs (.ref D) "slice" := ⟨Z,F,I⟩;unfold getItem;try with_reducible refine wpAny_holding ?_
 first | refine wpAny_bind (wpAny_pure ?_) | skip
 refine wpAny_bind (wpAny_sequenceKey B.typeIs (by decide) ?_)
 refine wpAny_bind (wpAny_callSpecial?_slot (name:=Str.ofString "__getitem__") B.typeIs PyProof.Rows.slot_tuple_getitem
  (wpAny_call_entry PyProof.Rows.slot_tuple_getitem B.typeIs entry_tuple_getitem ?_ (args_tuple_getitem _ _)))
 show wpAny _ _ (Builtin.Tuple.tupleItemsOf (.ref t) >>= _) _ _ s;refine wpAny_bind (tupleItemsOf_ B ?_);refine wpAny_bind (wpAny_typeOf J ?_);rw[if_pos (by decide)];refine wpAny_bind (uQ hs pl Y ?_)
 have L:¬ ((((sIx items.size 0 lo:Nat):Int)==0&&(1:Int)==1&&(sIx items.size items.size hi - sIx items.size 0 lo)==items.size)=true):=by grind
 show wpAny _ _ (if (((sIx items.size 0 lo:Nat):Int)==0&&(1:Int)==1&&(sIx items.size items.size hi - sIx items.size 0 lo)==items.size)=true then _ else _) _ _ s;rw[if_neg L,zmr]
 first
  | exact wpAny_bind (m:=Builtin.Tuple.tupleExact _) (wpAny_newObj_type (wpAny_pure ⟨_,rfl,wpAny_pure h⟩) q)
  | exact wpAny_bind (by grind) (by grind)
  | exact wpAny_bind (by grind)
  | exact wpAny_bind (by grind)
end
end HT
namespace L2
open PySem PySem.Spec PyProof.Rows
abbrev TO:=St->Hp->(Option Int->Hp->Prop)->Prop
def PO (X:Cx)(e:Option Expr)(t:TO):Prop:=
 ∀ (pins:List (Addr×Obj)) (s:Shared) (σ:St) (H:Hp) (Q:Option Int->Hp->Prop),Inv X pins σ H s->t σ H Q->
  wpAny (model X.prog X.w) X.A (evalPart e X.env) (λu s'=>∃o H',Inv X pins σ H' s'/\IsPart u o/\Q o H') X.xe s
def zkU:TO:=λ_ H Q=>Q none H
def ztd (t:TE):TO:=λσ H Q=>t σ H λx H1=>∃i,x = .int i/\Q (some i) H1
section
variable {X:Cx}{e:Expr}{te:TE}{lo hi:Option Expr}{tl th:TO}{pos p2:Pos}
def zpr:PO X none zkU:=by intro pins s σ H Q I h;rw[fg];exact ae ⟨none,H,I,.none,h⟩
def zps (h:PE X e te):PO X (some e) (ztd te):=by intro pins s σ H Q I B;rw[evalPart_some];refine thn (h pins s σ H _ I B)  ?_;rintro u J ⟨x,H1,I1,D,F⟩;obtain⟨i,rfl,q⟩:=F;obtain⟨t,rfl⟩:=D;exact⟨some i,H1,I1,.int i t,q⟩
def SlR (X:Cx)(r:V->Option Int->Option Int->Hp->VK->Prop):Prop:=
 ∀ (pins:List (Addr×Obj)) (s:Shared) (σ:St) (H:Hp) (x:V) (v q B:Value) (lo hi:Option Int) (D:Addr) (Q:VK),Inv X pins σ H s->yG x v->s.heap.IsSliceOf D q B .none->IsPart q lo->IsPart B hi->r x lo hi H Q->
  ∃T id,typeLookup (.type T) "__getitem__" = pure (some (.builtin id))/\s.TypeIs v T/\wpAny (model X.prog X.w) X.A (getItem v (.ref D)) (EP X pins σ Q) X.xe s
def tSl (r:V->Option Int->Option Int->Hp->VK->Prop)(te:TE)(tl th:TO):TE:=λσ H Q=>te σ H λx H1=>tl σ H1 λl H2=>th σ H2 λu H3=>r x l u H3 Q
def zmm {r:V->Option Int->Option Int->Hp->VK->Prop}(J:SlR X r)(L:PE X e te)(O:PO X lo tl)(U:PO X hi th):PE X (.Subscript e (.Slice lo hi none p2) pos) (tSl r te tl th):=by intro pins s σ H Q I h;refine fP (thn (L pins s σ H _ I h)  ?_);rintro v Y ⟨x,H1,I1,Z,q1⟩;refine wpAny_Slice (thn (O pins Y σ H1 _ I1 q1) λD s2 ⟨l,H2,I2,pl,q2⟩=>thn (U pins s2 σ H2 _ I2 q2)  ?_);rintro F B ⟨u,H3,I3,pu,q3⟩;rw[fg];refine ae ?_;have I4:Inv X pins σ H3 { B with heap:=B.heap.push { cls:=.type "slice",data:=.fields #[D,F,.none] } }:=I3.kept (t':=B.toks) λb ob q=>af _ q;obtain⟨T,id,hT,ht,hg⟩:=J pins { B with heap:=B.heap.push { cls:=.type "slice",data:=.fields #[D,F,.none] } } σ H3 x v D F l u B.heap.objs.size Q I4 Z (eP ..) pl pu q3;show wpAny (model X.prog X.w) X.A (subscriptTail e (.Slice lo hi none p2) v (.ref B.heap.objs.size)) (EP X pins σ Q) X.xe { B with heap:=B.heap.push { cls:=.type "slice",data:=.fields #[D,F,.none] } };exact tail_any (ops:=[.ref B.heap.objs.size,v]) ht hT hg (by with_unfolding_all rfl)
def zcW (xs:List V)(lo hi:Option Int):List V:=(xs.drop (HT.sIx xs.length 0 lo)).take (HT.sIx xs.length xs.length hi - HT.sIx xs.length 0 lo)
def zb5 (xs:List V)(lo hi:Option Int):(zcW xs lo hi).length<=xs.length:=by unfold zcW;rw[aQ,fG];lia
def rSlT (K:PySem.W.Frag):V->Option Int->Option Int->Hp->VK->Prop:=λx lo hi H Q=>∃a xs,x = .ref a/\SqT K H a xs/\
 ¬ (HT.sIx xs.length 0 lo=0/\HT.sIx xs.length xs.length hi=xs.length)/\∀p,H p=none->Q (.ref p) (upd H p (.tup (zcW xs lo hi)))
def zs4:SlR X (rSlT X.K):=by
 intro pins s σ H x v Y Z lo hi sl Q I J hs pl L h;obtain⟨a,xs,rfl,O,U,q⟩:=h;cases J;obtain⟨its,r,D,F⟩:=I.tuple O;have B:its.toArray.size=xs.length:=by rw[aV];exact r.length.symm
 refine⟨"tuple",_,PyProof.Rows.slot_tuple_getitem.lookup,D.typeIs,?_⟩;refine HT.getItem_tuple_cut D hs pl L (by rw[B];exact U) ?_ (by rw[B];exact F);rw[B];refine⟨.ref s.heap.objs.size,_,I.laid (t':=s.toks) (o:=.tup (zcW xs lo hi)) (λb ob q=>af _ q) (ai _) ?_,rfl,q _ (I.hok.fresh (ai _))⟩;exact⟨ay (zb5 xs lo hi) F,_,(r.drop (HT.sIx xs.length 0 lo)).take (HT.sIx xs.length xs.length hi - HT.sIx xs.length 0 lo),uU.new _ _⟩
def zvt (K:PySem.W.Frag):R2:=λx y H Q=>∃a b xs ys,x = .ref a/\y = .ref b/\SqT K H a xs/\SqT K H b ys/\xs≠[]/\xs.length+ys.length<=sizeLine/\
 (ys=[]->Q (.ref a) H)/\(ys≠[]->∀p,H p=none->Q (.ref p) (upd H p (.tup (xs++ys))))
def yb.nil_iff(r:yb xs q):q=[]↔xs=[]:=by
 cases r with
 | nil=>simp
 | cons _ _=>simp
def zo9:OpR X (binaryOp .Add) (zvt X.K):=by intro pins s σ H x y v u Q I J L h;obtain⟨a,b,xs,ys,rfl,rfl,O,U,Y,Z,q1,q2⟩:=h;cases J;cases L;obtain⟨its,D,p1,_⟩:=I.tuple O;obtain⟨F,B,p2,_⟩:=I.tuple U;refine HT.cat_tup p1 p2 (λz=>Y (D.nil_iff.mp z)) (λz=>⟨.ref a,H,I,rfl,q1 (B.nil_iff.mp z)⟩) (λz=>?_) (by rw[<- D.length,<- B.length];exact Z);refine⟨.ref s.heap.objs.size,_,I.laid (t':=s.toks) (o:=.tup (xs++ys)) (λb ob q=>af _ q) (ai _) ?_,rfl,q2 (λw=>z (B.nil_iff.mpr w)) _ (I.hok.fresh (ai _))⟩;exact⟨by simp_all,_,D.append B,uU.new _ _⟩
end
def ixN (n:Nat)(i:Int):Option Nat:=if 0<=i then (if i<n then some i.toNat else none) else if -(n:Int)<=i then some (i+n).toNat else none
def atI {α:Type}(xs:List α)(i:Int):Option α:=(ixN xs.length i).bind λj=>xs[j]?
def zgh {n:Nat}{i:Int}{j:Nat}(h:ixN n i=some j):seqIndex? i n=some j/\j<n/\-(n:Int)<=i/\i<n:=by
 unfold ixN at h;by_cases q:0<=i
 ·rw[if_pos q] at h;by_cases h1:i<n
  ·rw[if_pos h1] at h;have e:i.toNat=j:=bw h;exact⟨by rw[seqIndex_of q h1,e],by lia,by lia,h1⟩
  ·simp_all
 ·rw[if_neg q] at h;by_cases h1:-(n:Int)<=i
  ·rw[if_pos h1] at h;have e:(i+n).toNat=j:=bw h;exact⟨by rw[seqIndex_neg (by lia) h1,e],by lia,h1,by lia⟩
  ·simp_all
def ziH {α:Type}{xs:List α}{i:Int}{v:α}(h:atI xs i=some v):∃j,seqIndex? i xs.length=some j/\xs[j]?=some v/\j<xs.length/\-(xs.length:Int)<=i/\i<xs.length:=by
 unfold atI at h
 cases e:ixN xs.length i with
 | none=>rw[e] at h;cases h
 | some j=>
  rw[e] at h;obtain⟨h1,h2,q,B⟩:=zgh e;exact⟨j,h1,h,h2,q,B⟩
def znW {α:Type}{xs:List α}{j:Nat}{v:α}(h:xs[j]?=some v):atI xs (j:Int)=some v:=by
 have q:j<xs.length:=(ac.mp h).1
 have e:ixN xs.length (j:Int)=some j:=by
  unfold ixN
  simp_all
 unfold atI;rw[e];exact h
def zfQ (b:Expr):Prop:=∀o i,subscripted b false o i=operate [o,i] (getItem o i)
def IxR (X:Cx)(r:R2):Prop:=
 ∀ (value q:Expr) (pins:List (Addr×Obj)) (s:Shared) (σ:St) (H:Hp) (x y:V) (v u:Value) (Q:VK),Inv X pins σ H s->yG x v->yG y u->r x y H Q->
  subscripted q false v u=operate [v,u] (getItem v u)->wpAny (model X.prog X.w) X.A (subscriptTail value q v u) (EP X pins σ Q) X.xe s
def MtR (X:Cx)(id:String)(r:V->List V->Hp->VK->Prop):Prop:=
 ∀ (pins:List (Addr×Obj)) (s:Shared) (σ:St) (H:Hp) (x:V) (xs:List V) (v:Value) (q:List Value) (Q:VK),Inv X pins σ H s->yG x v->yb xs q->r x xs H Q->
  wpAny (model X.prog X.w) X.A (call (.builtin id) (v::q)) (EP X pins σ Q) X.xe s
section
variable {X:Cx}{a b:Expr}{ta tb:TE}{pos:Pos}
def zvk(B:IxR X r)(D:PE X a ta)(F:PE X b tb)(hs:zfQ b):PE X (.Subscript a b pos) (tOp r ta tb):=by intro pins s σ H Q I h;exact fP (zud D F I h λv u J x y H2 I2 L O q=>B a b pins J σ H2 x y v u Q I2 L O q (hs _ _))
def ztY (K:PySem.W.Frag):R2:=λx y H Q=>∃p xs i v,x = .ref p/\y = .int i/\SqL K H p xs/\atI xs i=some v/\Q v H
def ztZ (K:PySem.W.Frag):R2:=λx y H Q=>∃p xs i v,x = .ref p/\y = .int i/\SqT K H p xs/\atI xs i=some v/\Q v H
def zoD:IxR X (ztY X.K):=by
 intro value B pins s σ H x y v u Q I O U h hs;obtain⟨p,xs,i,z,rfl,rfl,Y,Z,q⟩:=h;cases O;obtain⟨t,rfl⟩:=U;obtain⟨its,r,pl,hz⟩:=I.list Y;obtain⟨j,h1,h2,h3,h4,h5⟩:=ziH Z;obtain⟨w,J,D⟩:=r.get h2;have hl:=r.length;have hn:=zfd;have fin:EP X pins σ Q w s:=⟨z,H,I,D,q⟩;by_cases L:0<=i
 ·have F:i.toNat=j:=by
   rw[seqIndex_of L h5] at h1
   simp_all
  exact item_listR pl.isList L (by lia) (by rw[F];simpa using J) fin hs
 ·have F:(i+(its.toArray.size:Int)).toNat=j:=by
   rw[seqIndex_neg (by lia) h4] at h1
   simp_all
  exact subscriptTail_builtinR (x:=w) pl.isList.typeIs slot_list_getitem.lookup
   (wpAny_getItem_list_neg (Q:=λr s'=>r=w/\EP X pins σ Q r s') pl.isList (by lia) (by simp_all) (by lia) (by rw[F];simpa using J) ⟨rfl,fin⟩) hs
def zrs:IxR X (ztZ X.K):=by
 intro value B pins s σ H x y v u Q I F J h hs;obtain⟨p,xs,i,z,rfl,rfl,L,O,q⟩:=h;cases F;obtain⟨t,rfl⟩:=J;obtain⟨its,r,pl,Y⟩:=I.tuple L;obtain⟨j,h1,h2,Z,h4,h5⟩:=ziH O;obtain⟨w,U,D⟩:=r.get h2;have hl:=r.length;have hn:=zfd;have fin:EP X pins σ Q w s:=⟨z,H,I,D,q⟩
 exact subscriptTail_builtinR (x:=w) pl.typeIs slot_tuple_getitem.lookup
  (getItem_tuple (j:=j) (Q:=λr s'=>r=w/\EP X pins σ Q r s') pl (by lia) (by lia) (by simp_all) (by simpa using U) ⟨rfl,fin⟩) hs
def zh7 (its:List Value)(n j:Nat)(u:Value):Obj.mapSeq (·.setIfInBounds j u) { cls:=.type "list",data:=.seq its.toArray n }={ cls:=.type "list",data:=.seq (its.set j u).toArray n }:=by simp[Obj.mapSeq]
def Inv.lst {pins:List (Addr×Obj)}{σ:St}{H:Hp}{s:Shared}{p:Addr}{xs:List V}(I:Inv X pins σ H s)(h:H p=some (.lst xs)) :
  ∃ (its:List Value) (n:Nat),yb xs its/\s.heap.get? p=some { cls:=.type "list",data:=.seq its.toArray n }/\xs.length<=sizeLine:=by
 obtain⟨z,its,n,r,e⟩:=I.hok p _ h;exact⟨its,n,r,e,z⟩
def Inv.lstUpd{pins:List (Addr×Obj)}{σ:St}{H:Hp}{s:Shared}{p:Addr}{xs ys:List V}{its its':List Value}{f:Obj->Obj}(I:Inv X pins σ H s)(h:H p=some (.lst xs))(F:s.heap.get? p=some { cls:=.type "list",data:=.seq its.toArray n })(D:f { cls:=.type "list",data:=.seq its.toArray n }={ cls:=.type "list",data:=.seq its'.toArray B })(r:yb ys its')(J:ys.length<=sizeLine)(t:Nat) :
  Inv X pins σ (upd H p (.lst ys)) { s with heap:=s.heap.update p f,toks:=t }:=by
 have e:(s.heap.update p f).get? p=some { cls:=.type "list",data:=.seq its'.toArray B }:=by rw[bi f F (by rw[D] <;> rfl),D]
 refine I.write (x:=p) (e:=p) (by rw[h];trivial) (.inl rfl) (λb u L q=>(bB _ _ (Ne.symm L)).trans q) ⟨_,e⟩ ?_;exact⟨J,its',B,r,e⟩
def zvv:V->V->V->Hp->(Hp->Prop)->Prop:=λo i v H Q=>∃p xs k j,o = .ref p/\i = .int k/\H p=some (.lst xs)/\ixN xs.length k=some j/\Q (upd H p (.lst (xs.set j v)))
def zmQ:PSet X zvv:=by
 intro pins s σ H o i v ov iv u Q I L O U h;obtain⟨p,xs,k,j,rfl,rfl,F,Y,q⟩:=h;cases L;obtain⟨t,rfl⟩:=O;obtain⟨its,n,r,B,hz⟩:=I.lst F;obtain⟨h1,h2,Z,h4⟩:=zgh Y;have hl:=r.length;have hn:=zfd
 have I':Inv X pins σ (upd H p (.lst (xs.set j v))) { s with heap:=s.heap.update p (Obj.mapSeq (·.setIfInBounds j u)) }:=
  I.lstUpd F B (zh7 its n j u) (r.set U j) (by simp_all) s.toks
 by_cases J:0<=k
 ·have D:k.toNat=j:=by
   rw[seqIndex_of J h4] at h1
   simp_all
  exact PySem.W.ki_setAt B J (by lia) (by simp_all) (by rw[D];exact⟨_,I',q⟩)
 ·have D:(k+(its.toArray.size:Int)).toNat=j:=by
   rw[seqIndex_neg (by lia) Z] at h1
   simp_all
  exact PySem.W.ki_setBack B (by lia) (by simp_all) (by lia) (by rw[D];exact⟨_,I',q⟩)
def zfG (lo hi:Option Int)(n:Nat):(sliceBounds lo hi none n).1=((HT.sIx n 0 lo:Nat):Int)/\(sliceBounds lo hi none n).2.1=((HT.sIx n n hi:Nat):Int)/\(sliceBounds lo hi none n).2.2=1:=by
 refine⟨?_,?_,rfl⟩
 ·cases lo with
  | none=>simp[sliceBounds,HT.sIx]
  | some i=>
   simp only[sliceBounds,HT.sIx,Option.getD_none,show (1:Int) > 0 by decide,if_true];by_cases h:i<0
   ·simp only[h,if_true] <;> lia
   ·simp only[h,if_false] <;> lia
 ·cases hi with
  | none=>simp[sliceBounds,HT.sIx]
  | some i=>
   simp only[sliceBounds,HT.sIx,Option.getD_none,show (1:Int) > 0 by decide,if_true];by_cases h:i<0
   ·simp only[h,if_true] <;> lia
   ·simp only[h,if_false] <;> lia
def zew (its:List Value)(lo hi:Option Int):slicePick its.toArray lo hi none=((its.drop (HT.sIx its.length 0 lo)).take (HT.sIx its.length its.length hi - HT.sIx its.length 0 lo)).toArray:=by obtain⟨h1,h2,q⟩:=zfG lo hi its.toArray.size;unfold slicePick;rw[h1,h2,q];simp only[sliceRange_one,pick_run,aV] <;> rfl
def rSlL (K:PySem.W.Frag):V->Option Int->Option Int->Hp->VK->Prop:=λx lo hi H Q=>∃a xs,x = .ref a/\SqL K H a xs/\∀p,H p=none->Q (.ref p) (upd H p (.lst (zcW xs lo hi)))
def zp8:SlR X (rSlL X.K):=by intro pins s σ H x v U Y lo hi Z Q I F hs pl J h;obtain⟨a,xs,rfl,L,q⟩:=h;cases F;obtain⟨its,r,D,O⟩:=I.list L;have B:=r.length;refine⟨"list",_,slot_list_getitem.lookup,D.isList.typeIs,?_⟩;refine wpAny_getItem_list_slice D.isList hs pl J .none (by simp) ?_ (by grind);rw[zew,<- B];refine⟨.ref s.heap.objs.size,_,I.laid (t':=s.toks) (o:=.lst (zcW xs lo hi)) (λb ob q=>af _ q) (ai _) ?_,rfl,q _ (I.hok.fresh (ai _))⟩;exact⟨ay (zb5 xs lo hi) O,_,0,(r.drop (HT.sIx xs.length 0 lo)).take (HT.sIx xs.length xs.length hi - HT.sIx xs.length 0 lo),aq _ rfl⟩
def zc0:V->Bool
 | .non=>true
 | .bl _=>true
 | .int _=>true
 | .str _=>true
 | _=>false
def eqV:V->V->Bool
 | .non,.non=>true
 | .bl a,.bl b=>a==b
 | .bl a,.int b=>(if a then 1 else 0)==b
 | .int a,.bl b=>a==(if b then 1 else 0)
 | .int a,.int b=>a==b
 | .str a,.str b=>a==b
 | _,_=>false
def zrb(B:yG y u)(q:yG x v)(F:zc0 y=true)(D:zc0 x=true):SeqAt.EqAt A s u v (eqV y x):=by
 cases y with
 | non=>
  cases B
  cases x with
  | non=>cases q;exact SeqAt.EqAt.same _
  | bl b=>cases q;exact SeqAt.EqAt.none_bool b
  | int b=>obtain⟨t,rfl⟩:=q;exact SeqAt.EqAt.none_int b t
  | str b=>obtain⟨t,rfl⟩:=q;exact SeqAt.EqAt.none_str b t
  | _=>exact absurd (show false=true from D) aI
 | bl a=>
  cases B
  cases x with
  | non=>cases q;exact SeqAt.EqAt.bool_none a
  | bl b=>cases q;exact SeqAt.EqAt.bool_bool a b
  | int b=>obtain⟨t,rfl⟩:=q;exact SeqAt.EqAt.bool_int a b t
  | str b=>obtain⟨t,rfl⟩:=q;exact SeqAt.EqAt.bool_str a b t
  | _=>exact absurd (show false=true from D) aI
 | int a=>
  obtain⟨t',rfl⟩:=B
  cases x with
  | non=>cases q;exact SeqAt.EqAt.int_none a t'
  | bl b=>cases q;exact SeqAt.EqAt.int_bool a t' b
  | int b=>obtain⟨t,rfl⟩:=q;exact SeqAt.EqAt.int_int a t' b t
  | str b=>obtain⟨t,rfl⟩:=q;exact SeqAt.EqAt.int_str a t' b t
  | _=>exact absurd (show false=true from D) aI
 | str a=>
  obtain⟨t',rfl⟩:=B
  cases x with
  | non=>cases q;exact SeqAt.EqAt.str_none a t'
  | bl b=>cases q;exact SeqAt.EqAt.str_bool a t' b
  | int b=>obtain⟨t,rfl⟩:=q;exact SeqAt.EqAt.str_int a t' b t
  | str b=>obtain⟨t,rfl⟩:=q;exact SeqAt.EqAt.str_str a t' b t
  | _=>exact absurd (show false=true from D) aI
 | _=>exact absurd (show false=true from F) aI
def eqU (x:V)(u:Value):Bool:=match u with
 | .none=>eqV .non x
 | .bool b=>eqV (.bl b) x
 | .int i _=>eqV (.int i) x
 | .str z _=>eqV (.str z) x
 | _=>false
def zni(r:yG y u)(f:zc0 y=true):eqU x u=eqV y x:=by
 cases y with
 | non=>cases r;rfl
 | bl b=>cases r;rfl
 | int i=>obtain⟨t,rfl⟩:=r;rfl
 | str z=>obtain⟨t,rfl⟩:=r;rfl
 | _=>exact absurd (show false=true from f) aI
def zb1:∀ {xs:List V} {q:List Value},yb xs q->xs.all zc0=true->q.any (eqU x)=xs.any λy=>eqV y x
 | _,_,.nil,_=>rfl
 | y::xs,u::q,.cons r t,f=>by rw[cN,bN] at f;rw[cB,cB,zni r f.1,zb1 t f.2]
def zaP {A:Around}{s:Shared}{x:V}{v:Value}(D:yG x v)(F:zc0 x=true):∀ {xs:List V} {q:List Value},yb xs q->xs.all zc0=true->∀u∈q,SeqAt.EqAt A s u v (eqU x u)
 | _,_,.nil,_=>by grind
 | y::xs,u::q,.cons r t,f=>λI B=>by
  rw[cN,bN] at f;rcases aG.mp B with rfl | B
  ·rw[zni r f.1];exact zrb r D f.1 F
  ·exact zaP D F t f.2 I B
def inV (x:V)(xs:List V):Bool:=xs.any λy=>eqV y x
def rIn (K:PySem.W.Frag)(q:Bool):R2:=λx y H Q=>∃p xs,y = .ref p/\(SqL K H p xs\/SqT K H p xs)/\zc0 x=true/\xs.all zc0=true/\Q (.bl (if q then !inV x xs else inV x xs)) H
def zkg:OpR X (compareOp .In) (rIn X.K false):=by
 intro pins s σ H x y v u Q I F L h;obtain⟨p,xs,rfl,B,J,fs,q⟩:=h;cases L;rcases B with B | B
 ·obtain⟨its,r,pl,O⟩:=I.list B;refine SeqAt.in_listAt (eqU x) pl.isList (λw D=>zaP F J r fs w (by simpa using D)) ⟨.bl _,H,I,rfl,?_⟩;rw[show its.toArray.any (eqU x)=its.any (eqU x) by simp,zb1 r fs];exact q
 ·obtain⟨its,r,pl,O⟩:=I.tuple B;refine SeqAt.in_tupleAt (eqU x) pl (λw D=>zaP F J r fs w (by simpa using D)) ⟨.bl _,H,I,rfl,?_⟩;rw[show its.toArray.any (eqU x)=its.any (eqU x) by simp,zb1 r fs];exact q
def zfr:OpR X (compareOp .NotIn) (rIn X.K true):=by
 intro pins s σ H x y v u Q I F L h;obtain⟨p,xs,rfl,B,J,fs,q⟩:=h;cases L;rcases B with B | B
 ·obtain⟨its,r,pl,O⟩:=I.list B;refine SeqAt.notIn_listAt (eqU x) pl.isList (λw D=>zaP F J r fs w (by simpa using D)) ⟨.bl _,H,I,rfl,?_⟩;rw[show its.toArray.any (eqU x)=its.any (eqU x) by simp,zb1 r fs];exact q
 ·obtain⟨its,r,pl,O⟩:=I.tuple B;refine SeqAt.notIn_tupleAt (eqU x) pl (λw D=>zaP F J r fs w (by simpa using D)) ⟨.bl _,H,I,rfl,?_⟩;rw[show its.toArray.any (eqU x)=its.any (eqU x) by simp,zb1 r fs];exact q
def zeR:zcS X (.type "list") (λxs H Q=>∃p ys,xs=[.ref p]/\(SqL X.K H p ys\/SqT X.K H p ys)/\∀l,H l=none->Q (.ref l) (upd H l (.lst ys))):=by
 intro pins s σ H xs us Q I r h;obtain⟨p,ys,rfl,F,q⟩:=h;obtain⟨u,rfl,rx⟩:=zay r;cases rx
 have fin:∀ (its:List Value),yb ys its->ys.length<=sizeLine->∀ (h':Heap) (B:Nat),(∀b o',s.heap.get? b=some o'->h'.get? b=some o')->
   h'.get? s.heap.objs.size=some { cls:=.type "list",dict:=none,data:=.seq its.toArray B,slots:=#[] }->EP X pins σ Q (.ref s.heap.objs.size) { s with heap:=h' }:=λits D J h' B L e=>
  ⟨.ref s.heap.objs.size,_,I.laid (t':=s.toks) L (ai _) (show yp X.prog X.w _ h' _ (.lst ys) from ⟨J,its,B,D,e⟩),rfl,q _ (I.hok.fresh (ai _))⟩
 rcases F with F | F
 ·obtain⟨its,D,pl,J⟩:=I.list F;have O:=D.length;obtain⟨o,U,Y,n,Z⟩:=pl.isList;exact call_list_seq p (.inl rfl) U Y Z (λh' B L e=>fin its D J h' B L e) (by grind)
 ·obtain⟨its,D,pl,J⟩:=I.tuple F;have O:=D.length;obtain⟨o,U,Y,n,Z⟩:=pl;exact call_list_seq p (.inr rfl) U Y Z (λh' B L e=>fin its D J h' B L e) (by grind)
def zdJ:zcS X (.type "tuple") (λxs H Q=>∃p ys,xs=[.ref p]/\((SqL X.K H p ys/\∀l,H l=none->Q (.ref l) (upd H l (.tup ys)))\/(SqT X.K H p ys/\Q (.ref p) H))):=by
 intro pins s σ H xs O Q I r h;obtain⟨p,ys,rfl,h⟩:=h;obtain⟨u,rfl,J⟩:=zay r;cases J;rcases h with ⟨hq,q⟩ | ⟨hq,q⟩
 ·obtain⟨its,B,pl,D⟩:=I.list hq;have F:=B.length;refine call_tuple_list pl.isList (λh' L=>?_) (by grind);have I1:Inv X pins σ H { s with heap:=h' }:=I.kept (t':=s.toks) L
  have I2:Inv X pins σ (upd H h'.objs.size (.tup ys)) { s with heap:=h'.push { cls:=.type "tuple",data:=.seq its.toArray } }:=
   I1.laid (t':=s.toks) (λb o e=>af _ e) (ai _) (show yp X.prog X.w _ _ _ (.tup ys) from ⟨D,its,B,uU.new _ _⟩)
  exact⟨.ref h'.objs.size,_,I2,rfl,q _ (I1.hok.fresh (ai _))⟩
 ·obtain⟨its,B,pl,D⟩:=I.tuple hq;exact call_tuple_same pl ⟨.ref p,H,I,rfl,q⟩
def tyV (K:PySem.W.Frag)(T:String)(x:V)(H:Hp):Prop:=match x with
 | .str _=>T = "str"
 | .int _=>T = "int"
 | .ref p=>(T = "list" /\ ∃xs,SqL K H p xs)\/(T = "tuple" /\ ∃o,K.lookup p=some o/\o.cls = .type "tuple" /\ o.dict=none)\/
   (T = "dict" /\ ((∃kvs,H p=some (.dK kvs))\/∃kvs,H p=some (.dT kvs)))\/(T = "set" /\ ∃S n,H p=some (.set S n))
 | _=>False
def ztk {pins:List (Addr×Obj)}{σ:St}{H:Hp}{s:Shared}{T:String}{x:V}{v:Value}(I:Inv X pins σ H s)(r:yG x v)(ty:tyV X.K T x H) :
  s.TypeIs v T/\∀a,v = .ref a->∃ob,s.heap.get? a=some ob/\ob.dict=none:=by
 cases x with
 | str z=>
  obtain⟨t,rfl⟩:=r;cases (show T = "str" from ty);exact⟨typeIs_str s z t,λ_ e=>nomatch e⟩
 | int i=>
  obtain⟨t,rfl⟩:=r;cases (show T = "int" from ty);exact⟨fQ s i t,λ_ e=>nomatch e⟩
 | ref p=>
  cases r;rcases ty with ⟨rfl,xs,hq⟩ | ⟨rfl,o,q,hc,B⟩ | ⟨rfl,q⟩ | ⟨rfl,S,n,q⟩
  ·obtain⟨its,_,pl,_⟩:=I.list hq;refine⟨pl.isList.typeIs,λa e=>?_⟩;cases e;obtain⟨o,n,e,c,B,_⟩:=pl;exact⟨o,e,B⟩
  ·refine⟨⟨o,I.kIn p o q,hc⟩,λa e=>?_⟩;cases e;exact⟨o,I.kIn _ o q,B⟩
  ·have z:∃o,s.heap.get? p=some o/\o.ExactDict:=by
    rcases q with ⟨kvs,q⟩ | ⟨kvs,q⟩
    ·obtain⟨_,_,_,_,o,_,_,e,ex,_⟩:=I.hok p _ q;exact⟨o,e,ex⟩
    ·obtain⟨_,_,_,_,o,_,_,e,ex,_⟩:=I.hok p _ q;exact⟨o,e,ex⟩
   obtain⟨o,e,ex⟩:=z;refine⟨⟨o,e,ex.1⟩,λa D=>?_⟩;cases D;exact⟨o,e,ex.2.1⟩
  ·obtain⟨o,_,_,_,e,ex,_⟩:=I.hok p _ q;refine⟨⟨o,e,ex.1⟩,λa D=>?_⟩;cases D;exact⟨o,e,ex.2.1⟩
 | _=>exact False.elim ty
def tBM (K:PySem.W.Frag)(T:String)(r:V->List V->Hp->VK->Prop)(to:TE)(t:TA):TE:=λσ H Q=>to σ H λx H1=>tyV K T x H1/\t σ H1 λxs H2=>r x xs H2 Q
variable {o e:Expr}{es:List Expr}{to:TE}{t:TA}{name:Str}{apos cpos:Pos}{T id:String}{r:V->List V->Hp->VK->Prop}
def zr7 (Y:PlainAttrs T)(F:Slot T name id)(L:typeOf (.builtin id)=pure (.type "method_descriptor"))(Z:MtR X id r)(ho:PE X o to)(ha:PA X (e::es) t)
  (B:attributeBase o name X.env (eval o X.env)=eval o X.env:=by rfl)
  (J:((backTo cpos (starEach (e::es) X.env)).all (λx=>!x.1)&&(backToKw cpos (keywordEach [] X.env)).all (λx=>x.1.isSome)
   && decide ((e::es).length+([]:List Keyword).length+(if ([]:List Keyword).isEmpty then 0 else 1)<30))=true:=by rfl)
  (D:(apos.endLine==cpos.line)=true:=by rfl) (hs:starEach (e::es) X.env=(false,eval e X.env)::starEach es X.env:=by rfl) (q:(backTo cpos (starEach es X.env)).any (·.1)=false:=by rfl) :
  PE X (.Call (.Attribute o name apos) (e::es) [] cpos) (tBM X.K T r to t):=by
 intro pins s σ H Q I h;refine wpAny_Call_method_late B J D rfl (thn (ho pins s σ H _ I h)  ?_);rintro v s1 ⟨x,H1,I1,O,ty,q1⟩;obtain⟨h1,h2⟩:=ztk I1 O ty;refine⟨T,id,Y,F,L,h1,h2,?_⟩;have U:=ha cpos pins s1 σ H1 _ I1 q1;rw[hs] at U ⊢;refine Calls.callWith_builtin (by show (false || (backTo cpos (starEach es X.env)).any (·.1))=false;rw[q] <;> rfl) (Calls.evalArgs_plain ?_);exact thn U <| by rintro us s2 ⟨vs,H2,I2,r2,q2⟩;exact Z pins s2 σ H2 x vs v us Q I2 O r2 q2
end
def MtM (X:Cx)(id:String)(r:V->List V->Hp->VK->Prop):Prop:=
 ∀ (pins:List (Addr×Obj)) (s:Shared) (σ:St) (H:Hp) (x:V) (xs:List V) (v:Value) (q:List Value) (Q:VK),Inv X pins σ H s->yG x v->yb xs q->r x xs H Q->
  wpAny (model X.prog X.w) X.A (call (.builtin id) (v::q)) (EP X pins σ Q) X.xe s
def yb.one:∀ {x:V} {q:List Value},yb [x] q->∃u,q=[u]/\yG x u
 | _,_,.cons r .nil=>⟨_,rfl,r⟩
def yb.eraseIdx:∀ {xs:List V} {q:List Value} (i:Nat),yb xs q->yb (xs.eraseIdx i) (q.eraseIdx i)
 | _,_,_,.nil=>.nil
 | _,_,0,.cons _ t=>t
 | _,_,i+1,.cons r t=>.cons r (yb.eraseIdx i t)
def yb.rep(h:yb xs q):∀k:Nat,yb (List.replicate k xs).flatten (List.replicate k q).flatten
 | 0=>.nil
 | k+1=>by rw[cO,cO,dE,dE];exact yb.append h (yb.rep h k)
def zfc {α:Type}:∀ (l:List α) (i:Nat),(l.eraseIdx i).length<=l.length
 | [],_=>ai _
 | _::_,0=>db _
 | _::r,i+1=>Nat.succ_le_succ (zfc r i)
def ze4 (its:List Value):∀ (k:Nat) (acc:List Value),
  List.foldl (λx1 q=>x1++q) acc.toArray (List.replicate k its.toArray)=(acc++(List.replicate k its).flatten).toArray
 | 0,acc=>by simp
 | k+1,acc=>by
  have e:acc.toArray++its.toArray=(acc++its).toArray:=by simp
  have B:(acc++its)++(List.replicate k its).flatten=acc++(List.replicate (k+1) its).flatten:=by grind
  rw[<- B,<- ze4 its k (acc++its),<- e,cO,List.foldl_cons]
section
variable {X:Cx}{pins:List (Addr×Obj)}{σ:St}{H:Hp}{s:Shared}{l b:Addr}{xs ys zs:List V}
def Inv.lset{its its':List Value}{f:Array Value->Array Value}(I:Inv X pins σ H s)(B:H l=some (.lst xs))(e:s.heap.get? l=some { cls:=.type "list",data:=.seq its.toArray n })(D:f its.toArray=its'.toArray)(F:yb ys its')(J:ys.length<=sizeLine) :
  Inv X pins σ (upd H l (.lst ys)) { s with heap:=s.heap.update l (Obj.mapSeq f),toks:=t' }:=by
 have q:=PySem.IsL.update e f;rw[D] at q;refine I.write (x:=l) (e:=l) (by rw[B];exact trivial) (.inl rfl) (λU u L O=>(bB s.heap (Obj.mapSeq f) (Ne.symm L)).trans O) ⟨_,q⟩ ?_;exact⟨J,its',_,F,q⟩
def Inv.lnew(I:Inv X pins σ H s)(B:yb ys its)(D:ys.length<=sizeLine) :
  Inv X pins σ (upd H s.heap.objs.size (.lst ys)) { s with heap:=s.heap.push { cls:=.type "list",data:=.seq its.toArray },toks:=t' }:=
 I.laid (λ_ _ q=>af _ q) (ai _) ⟨D,its,0,B,aq _ rfl⟩
def Inv.fresh (I:Inv X pins σ H s):H s.heap.objs.size=none:=I.hok.fresh (ai _)
def Inv.lstM (I:Inv X pins σ H s)(q:H l=some (.lst xs)):xs.length<=sizeLine/\∃ (its:List Value) (n:Nat),yb xs its/\xs.length=its.length/\s.heap.get? l=some { cls:=.type "list",data:=.seq its.toArray n }:=by obtain⟨z,its,n,r,e⟩:=I.hok l _ q;exact⟨z,its,n,r,r.length,e⟩
def zhp(h:n<=sizeLine):Builtin.List.listTooLong n=false:=by
 unfold Builtin.List.listTooLong
 simp_all
end
section
variable {X:Cx}
def zgE:V->List V->Hp->VK->Prop:=λx vs H Q=>∃l xs y,x = .ref l/\vs=[y]/\H l=some (.lst xs)/\xs.length<sizeLine/\Q .non (upd H l (.lst (xs++[y])))
def zfi:MtM X "list.append" zgE:=by intro pins s σ H x vs v O Q I D J h;obtain⟨l,xs,y,rfl,rfl,B,U,q⟩:=h;cases D;obtain⟨u,rfl,L⟩:=J.one;obtain⟨z,its,n,r,Y,e⟩:=I.lstM B;refine dF F.slot_list_append ⟨_,e,rfl⟩ F.entry_list_append (F.args_list_append_2 _ _) (PySem.list_append l its.toArray n u (by grind)) ⟨e,?_⟩;refine⟨.non,_,I.lset (its':=its++[u]) B e (by simp) (r.append (.cons L .nil)) ?_,rfl,q⟩;rw[aD,dR];lia
def zpV:V->List V->Hp->VK->Prop:=λx vs H Q=>∃l b xs zs,x = .ref l/\vs=[.ref b]/\H l=some (.lst xs)/\H b=some (.lst zs)/\xs.length+zs.length<=sizeLine/\Q .non (upd H l (.lst (xs++zs)))
def zj0:MtM X "list.extend" zpV:=by
 intro pins s σ H x vs v us Q I L O h;obtain⟨l,b,xs,zs,rfl,rfl,J,U,hz,q⟩:=h;cases L;obtain⟨u,rfl,Y⟩:=O.one;cases Y;obtain⟨z,its,n,r,hl,e⟩:=I.lstM J;obtain⟨z2,B,Z,r2,ad,e2⟩:=I.lstM U;have hsz:its.toArray.size+B.toArray.size<=sizeLine:=by rw[aV,aV];lia
 have D:¬ (!its.toArray.isEmpty&&Builtin.List.listTooLong (its.toArray.size+B.toArray.size))=true:=by
  rw[zhp hsz,Bool.and_false]
  grind
 refine dF F.slot_list_extend ⟨_,e,rfl⟩ F.entry_list_extend (F.args_list_extend_2 _ _)
  (AutoSeq1.list_extend_list_list_0 l its.toArray n b B.toArray Z D (by lia) (by lia)) ⟨e,e2,?_⟩
 refine⟨.non,_,I.lset (its':=its++B) J e (by simp) (r.append r2) ?_,rfl,q⟩
 simp_all
def znC:V->List V->Hp->VK->Prop:=λx vs H Q=>∃l xs i k y,x = .ref l/\vs=[.int i]/\H l=some (.lst xs)/\-(2 ^ 63)<=i/\i<2 ^ 63/\seqIndex? i xs.length=some k/\xs[k]?=some y/\Q y (upd H l (.lst (xs.eraseIdx k)))
def zhm:MtM X "list.pop" znC:=by
 intro pins s σ H x vs v Y Q I J L h;obtain⟨l,xs,i,k,y,rfl,rfl,D,h1,h2,Z,O,q⟩:=h;cases J;obtain⟨u,rfl,U⟩:=L.one;obtain⟨t,rfl⟩:=U;obtain⟨z,its,n,r,hl,e⟩:=I.lstM D;obtain⟨w,hw,B⟩:=r.get O
 refine dF F.slot_list_pop ⟨_,e,rfl⟩ F.entry_list_pop (F.args_list_pop_2 _ _)
  (MeetsSeq.list_pop_at l its.toArray n i t k w (fitsIndex_both h1 h2) (by simp_all) (by simp_all) (by simp_all)) ⟨e,?_⟩
 refine⟨y,_,I.lset (its':=its.eraseIdx k) D e ?_ (r.eraseIdx k) ?_,B,q⟩
 ·simp_all
 ·have:=zfc xs k;lia
def rCat:R2:=λx y H Q=>∃l b xs zs,x = .ref l/\y = .ref b/\H l=some (.lst xs)/\H b=some (.lst zs)/\xs.length+zs.length<=sizeLine/\∀p,H p=none->Q (.ref p) (upd H p (.lst (xs++zs)))
def zrS:OpR X (binaryOp .Add) rCat:=by
 intro pins s σ H x y v u Q I D F h;obtain⟨l,b,xs,zs,rfl,rfl,J,L,hz,q⟩:=h;cases D;cases F;obtain⟨z,its,n,r,hl,e⟩:=I.lstM J;obtain⟨z2,B,n2,O,U,Y⟩:=I.lstM L;refine PySem.P.add_list e Y ?_ (by simp_all);have Z:its.toArray++B.toArray=(its++B).toArray:=by simp
 rw[Z];exact⟨.ref _,_,I.lnew (t':=s.toks) (r.append O) (by simp_all),rfl,q _ I.fresh⟩
def zt0:R2:=λx y H Q=>∃l k xs,x = .ref l/\y = .int k/\H l=some (.lst xs)/\-(2 ^ 63)<=k/\k<2 ^ 63/\xs.length * k.toNat<=sizeLine/\
 ∀p,H p=none->Q (.ref p) (upd H p (.lst (List.replicate k.toNat xs).flatten))
def zoL {α:Type}(xs:List α)(k:Nat):(List.replicate k xs).flatten.length=k * xs.length:=by simp_all
def zrX:OpR X (binaryOp .Mult) zt0:=by
 intro pins s σ H x y v u Q I rx ry h;obtain⟨l,k,xs,rfl,rfl,hH,h1,h2,hz,q⟩:=h;cases rx;obtain⟨t,rfl⟩:=ry;obtain⟨z,its,n,r,hl,e⟩:=I.lstM hH;have hlen:its.toArray.size * k.toNat<=sizeLine:=by rw[aV,<- hl];exact hz
 have hcap:¬ its.toArray.size * k.toNat > (2 ^ 63 - 1) / 8:=by
  have:(sizeLine:Nat)<=(2 ^ 63 - 1) / 8:=by decide
  lia
 have hfit:¬ (!Builtin.List.listFitsIndex k)=true:=by
  rw[fitsIndex_both h1 h2]
  grind
 have hlong:¬ Builtin.List.listTooLong (its.toArray.size * k.toNat)=true:=by
  rw[zhp hlen]
  grind
 have hnew:List.foldl (λx1 x2=>x1++x2) #[] (List.replicate (if its.toArray.isEmpty=true then 0 else k.toNat) its.toArray)=(List.replicate k.toNat its).flatten.toArray:=by
  have f0:∀m:Nat,List.foldl (λx1 x2=>x1++x2) #[] (List.replicate m its.toArray)=(List.replicate m its).flatten.toArray:=λm=>by
   have:=ze4 its m []
   simp_all
  rw[f0]
  cases its with
  | nil=>simp
  | cons a r'=>rw[if_neg (by simp)]
 refine wpAny_binaryOp_repeat_ref (T := "list") (U := "int") (by decide) ⟨_,e,rfl⟩ (λs'=>fQ s' k t) noFill_list_mul F.fills_int_mul F.slot_int_rmul repeat_list F.slot_int_index.lookup
  (dF F.slot_int_rmul (fQ s k t) F.entry_int_rmul (F.args_int_rmul_2 _ _) (int___rmul___int_list k t l its.toArray n)
   ⟨e,rfl,⟨_,e,rfl⟩,dF F.slot_list_mul ⟨_,e,rfl⟩ F.entry_list_mul (F.args_list_mul_2 _ _) (AutoListH.list___mul___list_int_3 l its.toArray n k t hfit hcap hlong) ⟨e,?_⟩⟩)
 rw[hnew];exact⟨.ref _,_,I.lnew (t':=s.toks) (r.rep k.toNat) (by rw[zoL,fN];exact hz),rfl,q _ I.fresh⟩
end
section
variable {prog:Program}{w:World}{A:Around}{E:Value->Shared->Prop}{s:Shared}
end
section
variable {X:Cx}
end
end L2
namespace Att
open PySem PySem.W PySem.Calls PyProof.Rows
def zch:∀ (ns:List Int) (vs:List Value),WellAll P h vs (ns.map WData.int)->IntsAre vs ns:=by
 intro ns
 induction ns with
 | nil=>
  intro vs w;rw[List.map_nil] at w;cases w;exact .nil
 | cons n ns q=>
  intro vs w;rw[List.map_cons] at w
  cases w with
  | cons a b=>
   cases a;exact .cons _ _ (q _ b)
def zkJ{l:OpenLaw}(hn:l.most=some n){P:Params}{h:Heap}{q:List Value}(B:l.row.toRowW.claim.pre args=true)(I:WellAll P h q args) :
  ∃a vs ns,q=[Value.ref a]/\args=[WData.list (ns.map WData.int)]/\h.get? a=some { cls:=.type "list",data:=.seq vs.toArray }/\IntsAre vs ns/\ns.length<=n:=by
 have J:WShape.hasAll [] args [.list .int]=true:=(pre_splitW B).1;have L:l.pre.holds [] { args:=args }=true:=(pre_splitW B).2;obtain⟨d,r,rfl,h1,h2⟩:=hasAllW_cons J;obtain rfl:=hasAllW_nil h2;obtain⟨xs,rfl,U⟩:=hasW_list h1;obtain⟨ns,rfl⟩:=items_int U
 have D:ns.length<=n:=by
  unfold OpenLaw.pre at L
  have O:(WTm.not (.lt (.lit (.int (n:Int))) (.len (.arg 0)))).holds [] { args:=[.list (ns.map .int)] }=true:=by
   have O:=(holds_andW L).1
   simp_all
  have h5:=condW_of O (w_not (w_lt w_lit (w_len_list (w_arg rfl))))
  grind
 cases I with
 | cons Y Z=>
  cases Z
  cases Y with
  | list ho F=>exact⟨_,_,ns,rfl,rfl,ho,zch ns _ F,D⟩
def zko (l:OpenLaw)(args:List WData):l.row.toRowW.claim.post args (.bool true) args=true:=
 postW_of (r:=l.row.toRowW) (X:=(true==true))
  (show WShape.has [] (.bool true) .bool=true by first | rfl | decide | simp[WShape.has,WShape.arms,WShape.armsAll])
  (show (WTm.eq .res (.lit (.bool true))).value [] { args:=args,res:=some (.bool true),after:=args }=some (.bool (true==true)) from w_eq_bool (w_res rfl) w_lit) rfl
def attach_call{l:OpenLaw}{q:Program}{D:List Str}{XP:(Str->Option Value)->Heap->Prop}{YP:World->Heap->Prop}{d:DefRec}(hn:l.most=some n)(ad:d.params.defaults=[])(L:∀ (w:World) (F B:Shared) (mg mb:Str->Option Value) (fa:Addr) (o:Obj) (pm cd I:Value) (a:Addr) (vs:List Value) (ns:List Int),
   Ground q D [] XP w F mg mb B.heap->YP w B.heap->
   B.heap.get? fa=some o->o.data = .func (docDef d.name d.params d.body d.scope pm cd I)->B.heap.CodeRec cd d.name->mg d.name=some (.ref fa)->
   B.heap.get? a=some { cls:=.type "list",data:=.seq vs.toArray }->IntsAre vs ns->ns.length<=n->B.gens = #[]->
   codeAny (model l.prog w) callerA (.call (.ref fa) ⟨[.ref a],[]⟩) (λr s'=>r = .ok (.ret (.bool true))/\OldK B.heap s'.heap/\s'.os=B.os/\AllBare s'.gens) B) :
  WalkO q D XP YP l.row.toRowW d [] (λf vs=>PySem.call f vs):=by
 intro w F B mg mb G Y fa o pm cd I dV kV ho hd ag hD al hg args ap as O av a0 an a1;obtain rfl:dV = .none:=Dflts.none hD ad;obtain rfl:kV = .none:=Dflts.noKw hD;obtain⟨a,vs,ns,rfl,rfl,U,J,Z⟩:=zkJ hn O an;refine enter_call (codeAny_mono (L w F B mg mb fa o pm cd I a vs ns G Y ho (fd_plain hd) ag al U J Z hg) λr s' hq=>?_);obtain⟨rfl,h2,h3,h4⟩:=hq;exact⟨.inl ⟨.bool true,.bool true,[],rfl,λ_=>rfl,.bool true,zko l _,λ_=>⟨List.Pairwise.nil,λ_ hm=>(nomatch hm)⟩⟩,h2,h3,h4⟩
section
variable {prog:Program}{w:World}{A:Around}{E:Value->Shared->Prop}{s:Shared}{K:Frag}
def ledger (h:Heap)(L d:Addr):List (Addr×Obj):=(List.range h.objs.size).filterMap λa=>if a=L\/a=d then none else (h.get? a).map λo=>(a,o)
end
end Att
namespace L2
open PySem PySem.Spec PyProof.Rows
def zfK:∀ {vs:List Value} {ns:List Int},IntsAre vs ns->yb (ns.map V.int) vs
 | _,_,.nil=>.nil
 | _,_,.cons n t h=>.cons ⟨t,rfl⟩ (zfK h)
def zt8 (H:Hp):Prop:=∀b,H b=none\/∃o xs,H b=some (.frz o (.lst xs))
def zl0{P:Program}{w:World}{K:PySem.W.Frag}{mg mb:Str->Option Value}{CX:CXT}{fa a:Addr}{fd:FuncData}{sp:Sp}{B:Shared}{vs:List Value}{ns:List Int}(KX:K.In B.heap)(U:B.heap.Ns mainGlobals mg)(I:B.heap.Ns builtinsNs mb)(an:∀x:Str,x ≠ "__name__" -> mb x=bootBuiltins x)(Y:B.heap.NoLimit)(hg:B.gens = #[])(ha:B.heap.get? a=some { cls:=.type "list",data:=.seq vs.toArray })(hi:IntsAre vs ns)(hl:ns.length<=sizeLine)(hr:Room k callerA)(F:∀base:Heap,K.In base->base.Ns mainGlobals mg->FnOk P w K mg base CX k fa fd [x] sp)(O:∀ (s:Shared) (u:Value),BindsTo s fd ⟨[u],[]⟩ [(x,u)])(ap:∀H:Hp,zt8 H->SqL K H a (ns.map V.int)->sp [.ref a] H (λv _=>v = .bl true) λ_ _ _=>False)(as:∀H e s',CX [] H B (λ_ _ _=>False) e s'->False) :
  codeAny (model P w) callerA (.call (.ref fa) ⟨[.ref a],[]⟩) (λr s'=>r = .ok (.ret (.bool true))/\OldK B.heap s'.heap/\s'.os=B.os/\AllBare s'.gens) B:=by
 have rv:=zfK hi;have a0:=hi.length
 have L:∀H:Hp,zt8 H->SqL K H a (ns.map V.int)->HOk P w H B.heap->(∀b,H b≠none->b=a)->(H a≠none->K.lookup a=none)->
   codeAny (model P w) callerA (.call (.ref fa) ⟨[.ref a],[]⟩) (λr s'=>r = .ok (.ret (.bool true))/\OldK B.heap s'.heap/\s'.os=B.os/\AllBare s'.gens) B:=by
  intro H hO hS Z hA hK;have D:∀ {b:Addr} {o:Obj},B.heap.get? b=some o->H b=none->(zlH B.heap H).get? b=some o:=λe n=>zlI e n
  have av:∀ {b:Addr} {o:Obj} {es:Array DictEntry} {ep:Nat},B.heap.get? b=some o->o.data = .dict es ep->H b=none:=λ{b o es ep} e d=>by grind
  have J:∀ {b:Addr} {m:Str->Option Value},B.heap.Ns b m->(zlH B.heap H).Ns b m:=λ{b m} ⟨o,es,ep,e,d,r⟩=>⟨o,es,ep,D e (av e d),d,r⟩;have ad:K.In (zlH B.heap H):=λb o e=>D (KX b o e) (by grind);have hM:Mod K mg (zlH B.heap H):=⟨ad,J U,⟨mb,J I,an⟩,let ⟨mc,h1,h2⟩:=Y;⟨mc,J h1,h2⟩⟩;have e0:Env0 P w K mg (zlH B.heap H) callerA [] B H:=⟨rfl,hM,λb o e=>zo5 e,Nat.le_of_eq (zjn _ _),trivial,λb I=>absurd (show b∈([]:List Addr) from I) (by simp),Z,.of_eq hg⟩;refine dP ((F _ ad (J U)).run callerA [] B H ⟨[.ref a],[]⟩ [.ref a] [.ref a] _ _ hr e0 (O B (.ref a)) (.cons rfl .nil) (ap H hO hS)) λr s' h=>?_
  cases r with
  | error e=>exact (as H e s' h).elim
  | ok fl=>
   cases fl with
   | next=>exact False.elim h
   | brk=>exact False.elim h
   | cont=>exact False.elim h
   | ret u=>
    obtain⟨v,H',os,ag,un,al,r',q⟩:=h;have q':v = .bl true:=q;subst q';obtain rfl:u=Value.bool true:=r';refine⟨rfl,OldK.of_keep λb o e=>?_,os,ag⟩
    cases q:H b with
    | none=>exact un.keep b o e q (by intro z;exact absurd (show b∈([]:List Addr) from z) (by simp)) (by simp)
    | some u=>
     rcases hO b with z | ⟨ob,xs,z⟩
     ·grind
     ·have z2:=un.frzs b ob _ z;obtain⟨e1,_⟩:=Z b _ z;obtain⟨e2,_⟩:=al b _ z2
      grind
 cases hk:K.lookup a with
 | some o=>
  have e:=KX a o hk;rw[ha] at e;cases e;refine L (λ_=>none) (λ_=>.inl rfl) (.inr ⟨_,vs.toArray,_,hk,rfl,rfl,rfl,by simp_all,by simpa using rv⟩) (λb u z=>by lia) (by grind) λz=>absurd rfl z
 | none=>
  refine L (λb=>if b=a then some (.frz { cls:=.type "list",data:=.seq vs.toArray } (.lst (ns.map V.int))) else none) (λb=>?_) (.inl (.inr ⟨{ cls:=.type "list",data:=.seq vs.toArray },if_pos rfl⟩)) (λb u z=>?_) (λb z=>?_) λ_=>hk
  ·by_cases I:b=a
   ·exact .inr ⟨_,_,if_pos I⟩
   ·exact .inl (if_neg I)
  ·by_cases I:b=a
   ·have z':=(if_pos I).symm.trans z;cases z';subst I;exact⟨ha,by simp_all,vs,_,rv,ha⟩
   ·simp_all
  ·grind
def zqv{l:PySem.W.OpenLaw}{q:Program}{D:List Str}{XP:(Str->Option Value)->Heap->Prop}{YP:World->Heap->Prop}{d:DefRec}{K:Params->PySem.W.Frag}{CX:World->CXT}{sp:World->Sp}(hn:l.most=some n)(O:n<=sizeLine)(U:d.params.defaults=[])(hr:Room k callerA)(hY:∀ (w:World) (h:Heap),YP w h->(K w.params).In h)(F:∀ (w:World) (mg:Str->Option Value) (fa:Addr) (h:Heap),(K w.params).In h->h.Ns mainGlobals mg->mg d.name=some (.ref fa)->
   ∃fd:FuncData,(∀ (s:Shared) (u:Value),BindsTo s fd ⟨[u],[]⟩ [(x,u)])/\
    ∀base:Heap,(K w.params).In base->base.Ns mainGlobals mg->FnOk l.prog w (K w.params) mg base (CX w) k fa fd [x] (sp w))(Z:∀ (w:World) (H:Hp) (a:Addr) (ns:List Int),ns.length<=n->zt8 H->SqL (K w.params) H a (ns.map V.int)->sp w [.ref a] H (λv _=>v = .bl true) λ_ _ _=>False)(ad:∀ (w:World) (H:Hp) (s:Shared) (e:Value) (s':Shared),CX w [] H s (λ_ _ _=>False) e s'->False) :
  PySem.W.WalkO q D XP YP l.row.toRowW d [] (λf vs=>PySem.call f vs):=by
 refine Att.attach_call hn U λw al J mg mb fa o pm cd an a vs ns G Y ho hd ap ag L I B hg=>?_;have KX:=hY w _ Y;obtain⟨fd,hb,hF⟩:=F w mg fa _ KX G.T.g ag;exact zl0 KX G.T.g G.T.b G.T.builtins G.T.nolimit hg L I (ay B O) hr hF hb (λH hO hS=>Z w H a ns B hO hS) λH e s'=>ad w H J e s'
def xc (s:Stmt):Arguments:=match s with
 | .FunctionDef _ a _ _ _ _ _ _ _ _=>a
 | _=>{ posonlyargs:=[],args:=[],vararg:=none,kwonlyargs:=[],kw_defaults:=[],kwarg:=none,defaults:=[] }
def zP (s:Stmt):List Stmt:=match s with
 | .FunctionDef _ _ b _ _ _ _ _ _ _=>b
 | _=>[]
def zf (s:Stmt):Scope:=match s with
 | .FunctionDef _ _ _ _ _ _ q _ _ _=>q
 | _=>{ kind:=.function,names:=[],isGenerator:=false,isCoroutine:=false }
abbrev CX0:CXT:=λ_ _ _ _ _ _=>False
abbrev E0:XK:=λ_ _ _=>False
def zr4:ziA CX0 X E0:=λ_ _ _ _ _ _ _ h=>h.elim
structure Fun (K:PySem.W.Frag)(x qual:Str)(st:Stmt)(f:Addr)(fd:FuncData):Prop where
 ex:∃ (oc:Value) (od:Option Addr) (kV doc pm:Value) (an:Option Addr) (cdv ct:Value) (osl:Array (Option Value)),
  fd=PySem.W.fnOf x qual (xc st) (zP st) (zf st) .none kV doc pm an cdv ct/\K.lookup f=some ⟨oc,od,.func fd,osl⟩/\PySem.W.codeIn K cdv qual=true
 kp:PySem.W.keepIn K (.ref f)=true
section
variable {P:Program}{w:World}{K:PySem.W.Frag}{mg:Str->Option Value}{base:Heap}
def Fun.ok{x D:Str}{st:Stmt}{f:Addr}{fd:FuncData}{N ps:List Str}{sp:Sp}(F:Fun K x D st f fd)(S:FnScope N ps (zf st))(L:∀vs H Q E,sp vs H Q E->vs.length=ps.length)(J:∀ (I:Value) (A:Around) (B:List Env) (s:Shared) (H:Hp) (vs:List V) (Q:VK) (E:XK),Room k (A.deeper (envOfC D (zf st) s.heap.objs.size f I))->sp vs H Q E->
   ∃t,PSs (zcX CX0 P w K mg base N D (zf st) f I A B s H E).nox (zP st) t/\t { nx:=λ_ H'=>Q .non H',rt:=Q } (xj N vs) H):FnOk P w K mg base CX0 (k+1) f fd ps sp:=by
 obtain⟨oc,od,kV,Y,pm,an,I,ct,Z,rfl,lk,O⟩:=F.ex;refine zrf lk O S L λA B s H vs Q E hr U=>?_;obtain⟨t,h,q⟩:=J I A B s H vs Q E hr U;exact⟨t,h.nox,q⟩
def Fun.binds {x q:Str}{st:Stmt}{f:Addr}{fd:FuncData}{ps:List Str}(F:Fun K x q st f fd)
  (h:∀ (kV B I:Value) (J:Option Addr) (D ct:Value) (L:List Value),L.length=ps.length->bindArgs (PySem.W.fnOf x q (xc st) (zP st) (zf st) .none kV B I J D ct) ⟨L,[]⟩=pure (ps.zip L)):zdA K fd ps []:=by
 obtain⟨Y,Z,kV,B,I,J,D,ct,O,rfl,lk,U⟩:=F.ex;exact .all (h kV B I J D ct)
def znk{x q:Str}{st:Stmt}{f:Addr}{O I:Option Addr}{F:Array (Option Value)}{kV D J B ct:Value}(l:K.lookup f=some ⟨L,O,.func (PySem.W.fnOf x q (xc st) (zP st) (zf st) .none kV D J I B ct),F⟩)(c:PySem.W.codeIn K B q=true)(k:PySem.W.keepIn K (.ref f)=true):Fun K x q st f (PySem.W.fnOf x q (xc st) (zP st) (zf st) .none kV D J I B ct):=⟨⟨L,O,kV,D,J,I,B,ct,F,rfl,l,c⟩,k⟩
end
def xy(q:Room k A):A.units+1<cLine:=aP (Nat.add_le_add_left (by decide:1<=64) _) q.units
def zcM(h:n<=1000):n<sizeLine:=aP h (by decide)
section
variable {X:Cx}
end
def iteF {A B:Prop}(h:B):if false=true then A else B:=by grind
def ztP {c A B:Prop}[Decidable c](h1:c->A)(h2:¬ c->B):if c then A else B:=by grind
def xh (H H':Hp):Prop:=∀b o,H b=some o->H' b=some o
def xh.trans(a:xh H H1)(b:xh H1 H2):xh H H2:=λc o h=>b c o (a c o h)
def xh.free(e:xh H H')(h:H' l=Option.none):H l=Option.none:=by
 cases q:H l with
 | none=>rfl
 | some o=>
  rw[e l o q] at h;cases h
def xh.seq{K:PySem.W.Frag}{H H':Hp}{a:Addr}(e:xh H H')(h:SqL K H a xs):SqL K H' a xs:=by
 rcases h with (h | ⟨o,h⟩) | h
 ·exact .inl (.inl (e _ _ h))
 ·exact .inl (.inr ⟨o,e _ _ h⟩)
 ·exact .inr h
section
variable {κ:Type}[DecidableEq κ]
end
section
variable {X:Cx}
def zfT:zcS X (.builtin "isinstance") (λxs H Q=>∃x T t b,xs=[x,.ty T]/\TyOf X.K H x t/\PySem.W.kitOne X.K t (.type T)=some b/\Q (.bl b) H):=by intro pins s σ H xs F Q I r h;obtain⟨x,T,t,b,rfl,ty,e,q⟩:=h;obtain⟨u,c,rfl,B,D⟩:=ztC r;cases D;exact zjy I B ty e λtk=>⟨.bl b,H,I.tok tk,rfl,q⟩
def zgy:OpR X (compareOp .IsNot) (λx y H Q=>∃a b,x = .bl a/\y = .bl b/\Q (.bl (a != b)) H):=by intro pins s σ H x y v u Q I B D h;obtain⟨a,b,rfl,rfl,q⟩:=h;cases B;cases D;exact isnot_bool ⟨.bl _,H,I,rfl,q⟩
def zkv (K:PySem.W.Frag):R2:=λx y H Q=>∃a b xs ys,x = .ref a/\y = .ref b/\H a=some (.tup xs)/\H b=some (.tup ys)/\xs.length+ys.length<=sizeLine/\
 ∀p H',H' p=some (.tup (xs++ys))->xh H H'->Q (.ref p) H'
def zo8:OpR X (binaryOp .Add) (zkv X.K):=by
 intro pins s σ H x y v u Q I Z ry h;obtain⟨a,b,xs,ys,rfl,rfl,ha,L,hz,q⟩:=h;by_cases hx:xs=[]
 ·subst hx;cases Z;cases ry;obtain⟨its,r1,p1,_⟩:=I.tuple (.of ha);obtain⟨B,r2,p2,_⟩:=I.tuple (.of L);obtain⟨⟨cls,dd,data,sl⟩,ho,hc,n,hd⟩:=id p1;obtain⟨⟨ad,O,U,Y⟩,D,F,n2,J⟩:=id p2;simp only at hc hd F J;subst hc hd F J;have hi:its=[]:=r1.nil_iff.mpr rfl
  exact concat_meets ⟨_,ho,rfl⟩ ⟨_,D,rfl⟩ fF seq_tuple_add dB dn (dj _ _)
   (tuple_addW0 a b its.toArray B.toArray n n2 dd O sl Y (by simp[hi])) ⟨ho,D,⟨.ref b,H,I,rfl,q b H L λ_ _ e=>e⟩⟩
 ·refine zo9 pins s σ H _ _ v u Q I Z ry ⟨a,b,xs,ys,rfl,rfl,.of ha,.of L,hx,hz,λe=>?_,λe p hp=>?_⟩
  ·subst e;exact q a H (by simp_all) λ_ _ e=>e
  ·exact q p _ zk λc o e=>by rw[zg (zc e hp)];exact e
end
section
variable {X:Cx}
end
end L2
namespace HT
open PySem PySem.Spec PyProof.Rows
section
variable {prog:Program}{w:World}{A:Around}{E:Value->Shared->Prop}{s:Shared}
def getItem_tuple_whole{lo hi:Option Int}(q:IsTup s.heap t items)(hs:s.heap.IsSliceOf D L O .none)(pl:IsPart L lo)(U:IsPart O hi)(hw:sIx items.size 0 lo=0/\sIx items.size items.size hi=items.size)(h:Q (.ref t) s)(hsz:items.size<=sizeLine):wpAny (model prog w) A (getItem (.ref t) (.ref D)) Q E s:=by
 obtain⟨Y,F,I,Z⟩:=id hs;have J:s.TypeIs (.ref D) "slice" := ⟨Y,F,I⟩;unfold getItem;try with_reducible refine wpAny_holding ?_
 first | refine wpAny_bind (wpAny_pure ?_) | skip
 refine wpAny_bind (wpAny_sequenceKey q.typeIs (by decide) ?_)
 refine wpAny_bind (wpAny_callSpecial?_slot (name:=Str.ofString "__getitem__") q.typeIs PyProof.Rows.slot_tuple_getitem
  (wpAny_call_entry PyProof.Rows.slot_tuple_getitem q.typeIs entry_tuple_getitem ?_ (args_tuple_getitem _ _)))
 show wpAny _ _ (Builtin.Tuple.tupleItemsOf (.ref t) >>= _) _ _ s;refine wpAny_bind (tupleItemsOf_ q ?_);refine wpAny_bind (wpAny_typeOf J ?_);rw[if_pos (by decide)];refine wpAny_bind (uQ hs pl U ?_)
 have B:(((sIx items.size 0 lo:Nat):Int)==0&&(1:Int)==1&&(sIx items.size items.size hi - sIx items.size 0 lo)==items.size)=true:=by simp_all
 show wpAny _ _ (if (((sIx items.size 0 lo:Nat):Int)==0&&(1:Int)==1&&(sIx items.size items.size hi - sIx items.size 0 lo)==items.size)=true then _ else _) _ _ s;rw[if_pos B];unfold Builtin.Tuple.tupleIsExact;refine wpAny_bind (wpAny_bind (wpAny_typeOf q.typeIs ?_));refine wpAny_pure ?_;rw[if_pos (by decide)];refine wpAny_bind (wpAny_rule ?_);exact wpAny_pure ⟨_,rfl,wpAny_pure h⟩
end
end HT
namespace L2
open PySem PySem.Spec PyProof.Rows
section
variable {X:Cx}
def rSlA:V->Option Int->Option Int->Hp->VK->Prop:=λx lo hi H Q=>∃a xs,x = .ref a/\H a=some (.tup xs)/\∀p H',H' p=some (.tup (zcW xs lo hi))->xh H H'->Q (.ref p) H'
def zp9:SlR X rSlA:=by
 intro pins s σ H x v U Y lo hi Z Q I D hs pl F h;obtain⟨a,xs,rfl,J,q⟩:=h;by_cases L:HT.sIx xs.length 0 lo=0/\HT.sIx xs.length xs.length hi=xs.length
 ·cases D;obtain⟨its,r,O,hz⟩:=I.tuple (.of J);have B:its.toArray.size=xs.length:=by rw[aV];exact r.length.symm
  refine⟨"tuple",_,PyProof.Rows.slot_tuple_getitem.lookup,O.typeIs,?_⟩;refine HT.getItem_tuple_whole O hs pl F (by rw[B];exact L) ⟨.ref a,H,I,rfl,q a H ?_ λ_ _ e=>e⟩ (by rw[B];exact hz);unfold zcW
  grind
 ·exact zs4 pins s σ H _ v U Y lo hi Z Q I D hs pl F ⟨a,xs,rfl,.of J,L,λp hp=>q p _ zk λc o e=>by rw[zg (zc e hp)];exact e⟩
inductive Dt where
 | non | bl (b:Bool) | int (i:Int) | str (x:Str) | tup (l:List Dt) | lst (l:List Dt) | dct
mutual
def Is (H:Hp):Dt->V->Prop
 | .non,v=>v = .non
 | .bl b,v=>v = .bl b
 | .int i,v=>v = .int i
 | .str x,v=>v = .str x
 | .tup l,v=>∃a xs,v = .ref a/\H a=some (.tup xs)/\IsL H l xs
 | .lst l,v=>∃a xs,v = .ref a/\H a=some (.lst xs)/\IsL H l xs
 | .dct,v=>∃a kvs,v = .ref a/\H a=some (.dK kvs)/\za6 kvs (Sum.inr "at" : Key)=none
def IsL (H:Hp):List Dt->List V->Prop
 | [],xs=>xs=[]
 | d::ds,xs=>∃x r,xs=x::r/\Is H d x/\IsL H ds r
end
def zB (H H':Hp):Prop:=∀b o,H b=some o->(∀kvs,o = .dK kvs->za6 kvs (Sum.inr "at" : Key)=none)->H' b=some o
def zB.refl (H:Hp):zB H H:=λ_ _ e _=>e
def zB.trans(a:zB H H1)(b:zB H1 H2):zB H H2:=λc o e n=>b c o (a c o e n) n
def zB.same(a:xh H H1):zB H H1:=λc o e _=>a c o e
def zB.upd(h:H p=none):zB H (upd H p o):=λc u e _=>by rw[zg (zc e h)];exact e
def xh.upd(h:H p=none):xh H (upd H p o):=λc u e=>by rw[zg (zc e h)];exact e
def zB.tup(a:zB H H1)(h:H p=some (.tup xs)):H1 p=some (.tup xs):=a _ _ h λ_ e=>by cases e
def zB.lst(a:zB H H1)(h:H p=some (.lst xs)):H1 p=some (.lst xs):=a _ _ h λ_ e=>by cases e
mutual
def Is.stay {H H1:Hp}(a:zB H H1):∀ {d:Dt} {v:V},Is H d v->Is H1 d v
 | .non,_,h=>h
 | .bl _,_,h=>h
 | .int _,_,h=>h
 | .str _,_,h=>h
 | .tup l,v,h=>by obtain⟨p,xs,e,hp,hl⟩:=h;exact⟨p,xs,e,a.tup hp,IsL.stay a hl⟩
 | .lst l,v,h=>by obtain⟨p,xs,e,hp,hl⟩:=h;exact⟨p,xs,e,a.lst hp,IsL.stay a hl⟩
 | .dct,v,h=>by obtain⟨p,kvs,e,hp,hl⟩:=h;exact⟨p,kvs,e,a _ _ hp λkvs' e=>by cases e;exact hl,hl⟩
def IsL.stay {H H1:Hp}(a:zB H H1):∀ {ds:List Dt} {xs:List V},IsL H ds xs->IsL H1 ds xs
 | [],_,h=>h
 | d::ds,xs,h=>by obtain⟨x,r,e,h1,h2⟩:=h;exact⟨x,r,e,Is.stay a h1,IsL.stay a h2⟩
end
def IsL.length:∀ {ds:List Dt} {xs:List V},IsL H ds xs->xs.length=ds.length
 | [],_,h=>by cases h;rfl
 | d::ds,xs,h=>by obtain⟨x,r,rfl,_,h2⟩:=h;rw[aS,aS,IsL.length h2]
def IsL.get:∀ {ds:List Dt} {xs:List V} {i:Nat} {x:V},IsL H ds xs->xs[i]?=some x->∃d,ds[i]?=some d/\Is H d x
 | [],_,_,_,h,e=>by cases h;simp at e
 | d::ds,xs,i,x,h,e=>by
  obtain⟨y,r,rfl,h1,h2⟩:=h
  cases i with
  | zero=>simp at e;subst e;exact⟨d,rfl,h1⟩
  | succ i=>
   obtain⟨d',q,B⟩:=IsL.get (i:=i) (x:=x) h2 (by simpa using e)
   simp_all
def IsL.getD:∀ {ds:List Dt} {xs:List V} {i:Nat} {d:Dt},IsL H ds xs->ds[i]?=some d->∃x,xs[i]?=some x/\Is H d x
 | [],_,_,_,_,e=>by simp at e
 | d::ds,xs,i,x,h,e=>by
  obtain⟨y,r,rfl,h1,h2⟩:=h
  cases i with
  | zero=>simp at e;subst e;exact⟨y,rfl,h1⟩
  | succ i=>
   obtain⟨d',q,B⟩:=IsL.getD (i:=i) (d:=x) h2 (by simpa using e)
   simp_all
def IsL.append:∀ {ds es:List Dt} {xs ys:List V},IsL H ds xs->IsL H es ys->IsL H (ds++es) (xs++ys)
 | [],_,_,_,h,k=>by cases h;exact k
 | d::ds,es,xs,ys,h,k=>by obtain⟨y,r,rfl,h1,h2⟩:=h;exact⟨y,r++ys,rfl,h1,IsL.append h2 k⟩
def IsL.take:∀ {ds:List Dt} {xs:List V} (n:Nat),IsL H ds xs->IsL H (ds.take n) (xs.take n)
 | _,_,0,_=>by simp[IsL]
 | [],_,n+1,h=>by cases h;simp[IsL]
 | d::ds,xs,n+1,h=>by obtain⟨y,r,rfl,h1,h2⟩:=h;exact⟨y,r.take n,rfl,h1,IsL.take n h2⟩
def IsL.drop:∀ {ds:List Dt} {xs:List V} (n:Nat),IsL H ds xs->IsL H (ds.drop n) (xs.drop n)
 | _,_,0,h=>h
 | [],_,n+1,h=>by cases h;simp[IsL]
 | d::ds,xs,n+1,h=>by obtain⟨y,r,rfl,h1,h2⟩:=h;exact IsL.drop n h2
def IsL.one(h:Is H d x):IsL H [d] [x]:=⟨x,[],rfl,h,rfl⟩
def IsL.ints:∀ {ns:List Int},IsL H (ns.map .int) (ns.map .int)
 | []=>rfl
 | n::ns=>⟨_,_,rfl,rfl,IsL.ints⟩
def IsL.of_ints:∀ {ns:List Int} {xs:List V},IsL H (ns.map .int) xs->xs=ns.map .int
 | [],_,h=>h
 | n::ns,xs,h=>by obtain⟨y,r,rfl,h1,h2⟩:=h;cases h1;rw[IsL.of_ints h2];rfl
def Dt.ty:Dt->String
 | .non => "NoneType" | .bl _ => "bool" | .int _ => "int" | .str _ => "str" | .tup _ => "tuple" | .lst _ => "list" | .dct => "dict"
def Is.ty {K:PySem.W.Frag}{H:Hp}:∀ {d:Dt} {v:V},Is H d v->TyOf K H v (.type d.ty)
 | .non,_,h=>by cases h;exact .non
 | .bl _,_,h=>by cases h;exact .bl _
 | .int _,_,h=>by cases h;exact .int _
 | .str _,_,h=>by cases h;exact .str _
 | .tup l,v,h=>by obtain⟨p,xs,rfl,q,B⟩:=h;exact .tup q
 | .lst l,v,h=>by obtain⟨p,xs,rfl,q,B⟩:=h;exact .lst q
 | .dct,v,h=>by obtain⟨p,xs,rfl,q,B⟩:=h;exact .dK q
abbrev Dt.isTup:Dt->Bool
 | .tup _=>true | _=>false
abbrev Dt.isLst:Dt->Bool
 | .lst _=>true | _=>false
abbrev Dt.isInt:Dt->Bool
 | .int _=>true | .bl _=>true | _=>false
abbrev Dt.isBl:Dt->Bool
 | .bl _=>true | _=>false
def Dt.isWhole:Dt->Bool
 | .int _=>true | _=>false
def zoJ (K:PySem.W.Frag)(d:Dt):PySem.W.kitOne K (.type d.ty) (.type "tuple")=some d.isTup:=by cases d <;> rfl
def zoI (K:PySem.W.Frag)(d:Dt):PySem.W.kitOne K (.type d.ty) (.type "int")=some d.isInt:=by cases d <;> rfl
def zrG (K:PySem.W.Frag)(d:Dt):PySem.W.kitOne K (.type d.ty) (.type "bool")=some d.isBl:=by cases d <;> rfl
end
def zhQ (env:Env):List (Str×NameKind)->List (Str×Addr)->List (Str×Addr)
 | [],cs=>cs
 | x::r,cs=>zhQ env r (if (x.2==NameKind.free)=true then (x.1,(env.cells.lookup x.1).getD 0)::cs else cs)
def zhR(h:∀x∈scope.names,x.2 = .free->∃c,env.cells.lookup x.1=some c):closureFor scope env=pure (zhQ env scope.names []):=by
 have gen:∀ (names:List (Str×NameKind)) (cs:List (Str×Addr)),(∀x∈names,x.2 = .free->∃c,env.cells.lookup x.1=some c)->
   (forIn names cs (λx r=>match x with
    | (name,kind)=>if (kind==NameKind.free)=true then do let a <- cellOf env name;pure (ForInStep.yield ((name,a)::r)) else pure (ForInStep.yield r)):Sem (List (Str×Addr)))=pure (zhQ env names cs):=by
  intro names
  induction names with
  | nil=>intro cs _;rfl
  | cons x r ih=>
   intro cs hh;obtain⟨n,k⟩:=x;rw[eC];by_cases hk:(k==NameKind.free)=true
   ·obtain⟨c,hc⟩:=hh (n,k) ak (eq_of_beq hk);have hc':env.cells.lookup n=some c:=hc;have e:cellOf env n=pure c:=by unfold cellOf;rw[hc']
    simp only[hk,if_true,e,pure_bind];rw[ih _ λy hy=>hh y (ao _ hy)];show pure _=pure (zhQ env r (if (k==NameKind.free)=true then (n,(env.cells.lookup n).getD 0)::cs else cs))
    simp_all
   ·simp only[hk,pure_bind]
    have e2:zhQ env ((n,k)::r) cs=zhQ env r cs:=by show zhQ env r (if (k==NameKind.free)=true then _ else cs)=_;rw[if_neg hk]
    simp_all
 unfold closureFor;have:=gen scope.names [] h;simpa using this
def zb2:∀ {names:List (Str×NameKind)} {cs:List (Str×Addr)} {x:Str} {c:Addr},(∀y∈names,y.2 = .free->∃c,env.cells.lookup y.1=some c)->(zhQ env names cs).lookup x=some c->env.cells.lookup x=some c\/cs.lookup x=some c
 | [],_,_,_,_,h=>.inr h
 | (n,k)::r,cs,x,c,B,h=>by
  have q:=zb2 (names:=r) (x:=x) (c:=c) (λy D=>B y (ao _ D)) h;rcases q with q | q
  ·exact .inl q
  ·by_cases F:(k==NameKind.free)=true
   ·obtain⟨I,J⟩:=B (n,k) ak (eq_of_beq F)
    grind
   ·simp_all
def zde:∀ {names:List (Str×NameKind)} {cs:List (Str×Addr)} {x:Str},(∃c,cs.lookup x=some c)->∃c,(zhQ env names cs).lookup x=some c
 | [],_,_,h=>h
 | (n,k)::r,cs,x,h=>by
  refine zde (names:=r) ?_
  grind
def zbR:∀ {names:List (Str×NameKind)} {cs:List (Str×Addr)} {x:Str},names.lookup x=some .free->∃c,(zhQ env names cs).lookup x=some c
 | [],_,_,h=>by simp at h
 | (n,k)::r,cs,x,h=>by
  rw[List.lookup_cons] at h
  cases e:x==n with
  | true=>
   rw[e] at h;have h':some k=some NameKind.free:=h;cases h';refine zde (names:=r) ?_
   simp_all
  | false=>
   rw[e] at h;exact zbR (names:=r) h
def y3 {env:Env}:∀ {names:List (Str×NameKind)} {x:Str} {k:NameKind},(∀y∈names,y.2≠.cell)->
  (names.map λ(n,k)=>if (k==NameKind.free&&env.scope.kind==.function&&env.kindOf n==some .cell) then (n,NameKind.cell) else (n,k)).lookup x=some k->(k = .cell\/k = .free)->names.lookup x=some .free
 | [],_,_,_,h,_=>by simp at h
 | (n,k)::r,x,q,B,h,F=>by
  have I:=@y3 env r x q (λy D=>B y (ao _ D))
  grind
def xR {env:Env}:∀ {names:List (Str×NameKind)} {x:Str},names.lookup x=some .free->
  (names.map λ(n,k)=>if (k==NameKind.free&&env.scope.kind==.function&&env.kindOf n==some .cell) then (n,NameKind.cell) else (n,k)).lookup x=some .cell\/
  (names.map λ(n,k)=>if (k==NameKind.free&&env.scope.kind==.function&&env.kindOf n==some .cell) then (n,NameKind.cell) else (n,k)).lookup x=some .free
 | [],_,h=>by simp at h
 | (n,k)::r,x,h=>by
  have q:=@xR env r x
  grind
def zw (X:Cx)(scope:Scope)(N:List Str)(C:Addr)(s:Shared)(H:Hp)(ex:List Addr):Cx where
 prog:=X.prog
 w:=X.w
 K:=X.K
 mg:=X.mg
 base:=X.base
 A:=X.A
 N:=N
 s₀:=s
 H₀:=H
 env:=compEnvC scope (zhQ X.env scope.names []) C X.env
 outer:=X.stack
 stack:=X.stack
 ex:=ex
 fn:=λ_=>false
 calm:=X.calm
 pn:=[]
 xe:=λ_ _=>False
def caps (XN:List Str)(Xnames names:List (Str×NameKind))(N:List Str)(cix:List (Option Nat)):Bool:=
 N.length==cix.length&&(names.all λy=>y.2 != .cell)&&((N.zip cix).all λp=>match p.2 with
  | none=>true
  | some i=>XN[i]?==some p.1&&names.lookup p.1==some .free&&(Xnames.lookup p.1==some .cell || Xnames.lookup p.1==some .free)) &&
 (names.all λy=>y.2 != .free || (Xnames.lookup y.1==some .cell || Xnames.lookup y.1==some .free))
def zaB (σ:St)(cix:List (Option Nat)):St:=cix.map λo=>match o with
 | none=>none
 | some i=>(σ[i]?).join
structure CompOk (X:Cx)(scope:Scope)(N:List Str)(cix:List (Option Nat)):Prop where
 kind:scope.kind = .function
 names:∀x∈scope.names,x.2 = .local->scope.names.lookup x.1=some .local
 caps:caps X.N X.env.scope.names scope.names N cix=true
section
variable {X:Cx}{pins:List (Addr×Obj)}{σ:St}{H:Hp}{s:Shared}{scope:Scope}{N:List Str}{cix:List (Option Nat)}
def CompOk.cell (c:CompOk X scope N cix):∀y∈scope.names,y.2≠.cell:=λy q e=>by
 have h:=c.caps;unfold L2.caps at h;rw[bN,bN,bN] at h;have:=cy.mp h.1.1.2 y q
 simp_all
def CompOk.len (c:CompOk X scope N cix):N.length=cix.length:=by
 have h:=c.caps;unfold L2.caps at h
 simp_all
def CompOk.cells (c:CompOk X scope N cix)(B:X.Ok):∀x∈scope.names,x.2 = .free->∃a,X.env.cells.lookup x.1=some a:=λx D e=>by
 have h:=c.caps;unfold L2.caps at h;rw[bN] at h;have q:=cy.mp h.2 x D;rw[e] at q;have F:(X.env.scope.names.lookup x.1==some NameKind.cell || X.env.scope.names.lookup x.1==some NameKind.free)=true:=by simpa using q
 rcases Bool.or_eq_true_iff.mp F with q | q
 ·exact B.has _ (.inl (eq_of_beq q))
 ·exact B.has _ (.inr (eq_of_beq q))
def CompOk.cap (c:CompOk X scope N cix){j i:Nat}{x:Str}(h1:N[j]?=some x)(h2:cix[j]?=some (some i)):X.N[i]?=some x/\scope.names.lookup x=some .free/\(X.env.scope.names.lookup x=some .cell\/X.env.scope.names.lookup x=some .free):=by
 have h:=c.caps;unfold L2.caps at h;rw[bN,bN] at h
 have B:(x,some i)∈N.zip cix:=by refine aj (i:=j) ?_;rw[List.getElem?_zip_eq_some];exact⟨h1,h2⟩
 have q:=cy.mp h.1.2 _ B
 grind
def zlM {fp:List Addr}{h':Heap}{tk:Nat}{m:Str->Option Value}(I:Inv X pins σ H s)(c:CompOk X scope N cix)(U:∀b∈fp,zeF X pins H b)(Z:∀b∈fp,b<s.heap.objs.size)
  (hn:h'.Ns s.heap.objs.size m) (Y:∀b o,s.heap.get? b=some o->h'.get? b=some o) :
  Inv (zw X scope N s.heap.objs.size s H fp) [] (zaB σ cix) H { s with heap:=h',toks:=tk }:=by
 have ad:=c.cells I.ok
 have B:∀x a,(zhQ X.env scope.names []).lookup x=some a->X.env.cells.lookup x=some a:=λx a e=>by
  rcases zb2 ad e with z | z
  ·exact z
  ·simp at z
 refine⟨⟨I.mod,c.kind,I.ok.glob,I.ok.blt,ai _,λx y a e1 e2=>I.ok.inj x y a (B x a e1) (B y a e2),λx hx=>?_,λx a z _=>absurd (show (false:Bool)=true from z) (by decide),I.ok.hd,I.ok.frames,.inl rfl,
  λb F=>⟨aJ (Z b F),λx a e=>(U b F).2.2.2.2.1 x a (B x a e)⟩,I.bs,ay I.ok.bsz I.sz,λb o e F=>?_,λb F z=>?_,I.stack,I.stkFree⟩,
  I.os ▸ rfl,I.bare,Un.kept Y,⟨m,hn,λj x v h1 h2 h3=>?_⟩,λx a e=>?_,I.hok.fresh (ai _),λx a e=>I.freeC x a (B x a e),λp hp=>absurd (show p∈([]:List (Addr×Obj)) from hp) (by simp),I.hok.kept Y,?_⟩
 ·have ag:((relabel scope X.env).names.lookup x=some .cell\/(relabel scope X.env).names.lookup x=some .free):=hx;rcases ag with z | z
  ·exact zbR (y3 c.cell z (.inl rfl))
  ·exact zbR (y3 c.cell z (.inr rfl))
 ·rcases (U b F).2.2.2.1 with z | z
  ·exact I.ok.noex b o e z
  ·exact absurd (a6 (ax e) (ay I.ok.bsz z)) (cA _)
 ·rcases aG.mp (I.stkSub b z) with e | e
  ·exact (U b F).2.1 e
  ·exact (U b F).2.2.1 e
 ·have al:N[j]?=some x:=h1;unfold zaB at h2;rw[am] at h2
  cases e:cix[j]? with
  | none=>rw[e] at h2;cases h2
  | some o=>
   rw[e] at h2
   cases o with
   | none=>cases h2
   | some i=>
    have D:(σ[i]?).join=some v:=bw h2
    have L:σ[i]?=some (some v):=by
     cases q:σ[i]? with
     | none=>rw[q] at D;cases D
     | some z=>rw[q] at D;have:z=some v:=D;rw[this]
    obtain⟨q1,q2,q3⟩:=c.cap al e;obtain⟨m0,ap,an⟩:=I.loc;obtain⟨u,ru,hu⟩:=an i x v q1 L (q3.elim (λz=>.inr (.inl z)) λz=>.inr (.inr z));refine⟨u,ru,.inr ⟨xR q2,?_⟩⟩;rcases hu with ⟨z,_⟩ | ⟨_,a,ha,hcell⟩
    ·have z':X.env.scope.names.lookup x=some .local:=z
     simp_all
    ·obtain⟨a',O⟩:=zbR (env:=X.env) (cs:=[]) q2;have:a'=a:=by have:=(B x a' O).symm.trans ha;exact bw this
     subst this;obtain⟨oc,J,hd⟩:=hcell;exact⟨a',O,oc,Y _ _ J,hd⟩
 ·obtain⟨v,oc,J,hd⟩:=I.cell x a (B x a e);exact⟨v,oc,Y _ _ J,hd⟩
 ·show (zaB σ cix).length=N.length;unfold zaB;rw[ab,c.len]
def zga(x:HOk P w H h)(B:H a=none)(hs:Heap.SameBut a h h'):HOk P w H h':=λb o e=>by
 refine (x b o e).stay (λc u D q=>(hs.2 c ?_).trans q) (λ_ q=>q) λ_ _ q=>q
 grind
def zh2{L:St}{H':Hp}{s':Shared}(I:Inv X pins σ H s)(J:∀b∈fp,zeF X pins H b)(I':Inv (zw X scope N s.heap.objs.size s H fp) [] L H' s')(hs:Heap.SameBut s.heap.objs.size s'.heap D) :
  Inv X pins σ H' { s' with heap:=D }:=by
 have O:∀b o,s.heap.get? b=some o->b≠s.heap.objs.size:=λb o e=>aJ (ax e);have u:=I'.base;refine Inv.call' (ch:=fp) I I'.os ⟨λb o e n B F=>?_,λb o e n B F=>?_,u.free,λb o e F=>?_,u.tups,u.frzs,u.tbls⟩ (zga I'.hok I'.free hs) I'.bare λb B=>⟨(J b B).2.2.2.1,(J b B).2.1,(J b B).2.2.2.2.1,(J b B).2.2.2.2.2⟩
 ·exact (hs.2 b (O b o e)).trans (u.keep b o e n B F)
 ·obtain⟨U,q⟩:=u.slot b o e n B F;exact⟨U,(hs.2 b (O b o e)).trans q⟩
 ·obtain⟨o',q⟩:=u.there b o e F;exact⟨o',(hs.2 b (O b o e)).trans q⟩
end
section
variable {prog:Program}{w:World}{A:Around}{R:Result->Shared->Prop}{s:Shared}
def zdO(I:Nat->Shared->Prop)(turn:∀n s,I n s->wpAny (model prog w) A (pyNext it) (λr s₁=>match r with
   | none=>R (.ok .next) s₁
   | some v=>wpAny (model prog w) A (letOwnedTupleGo target it v) (λ_ s₂=>wpAny (model prog w) A (assign target env v) (λ_ s₃=>
     wpAny (model prog w) A (forIn ifs true λc r=>if r=true then do let ok <- isTrue c env (eval c env);pure (ForInStep.yield ok) else pure (ForInStep.yield r)) (λok s₄=>
      if ok=true then wpAny (model prog w) A (eval elt env) (λx s₅=>
       wpAny (model prog w) A (call (.builtin "list.append") [acc,x]) (λ_ s₆=>∃m,m<n/\I m s₆) (λ_ _=>False) s₅) (λ_ _=>False) s₄
      else ∃m,m<n/\I m s₄) (λ_ _=>False) s₃) (λ_ _=>False) s₂) (λ_ _=>False) s₁) (λ_ _=>False) s)(n:Nat)(h:I n s) :
  codeAny (model prog w) A (.compLoop (.ListComp elt [⟨target,iter,ifs,0⟩] scope pos) 0 it acc env) R s:=by
 refine eQ rfl I (λn s hI=>?_) n h;show wpAny _ A ((compTurn (.ListComp elt [⟨target,iter,ifs,0⟩] scope pos) 0 it acc env).onRaise (λx=>do noteFrame x env;theTreesLotGoes x)) _ _ s;refine fj ?_;rw[compTurn_list];refine aa (bM (aa (aU (turn n s hI) (λr s₁ h₁=>?_) λ_ _ h'=>h'.elim)))
 cases r with
 | none=>exact ae h₁
 | some v=>
  refine aa (aU h₁ (λ_ s₂ h₂=>?_) λ_ _ h'=>h'.elim);refine aa (aU h₂ (λ_ s₃ h₃=>aa (aU h₃ (λok s₄ h₄=>?_) λ_ _ h'=>h'.elim)) λ_ _ h'=>h'.elim)
  cases ok with
  | false=>exact ae ⟨rfl,h₄⟩
  | true=>
   exact aa (aa (aU h₄ (λx s₅ h₅=>aa (aU h₅ (λ_ s₆ h₆=>ae (ae ⟨rfl,h₆⟩)) λ_ _ h'=>h'.elim)) λ_ _ h'=>h'.elim))
end
def PTs (X:Cx)(ifs:List Expr)(t:TT):Prop:=
 ∀ (pins:List (Addr×Obj)) (s:Shared) (σ:St) (H:Hp) (Q:Bool->Hp->Prop),Inv X pins σ H s->t σ H Q->
  wpAny (model X.prog X.w) X.A (forIn ifs true λc r=>if r=true then do let ok <- isTrue c X.env (eval c X.env);pure (ForInStep.yield ok) else pure (ForInStep.yield r)) (TP X pins σ Q) X.xe s
def zbl:TT:=λ_ H Q=>Q true H
def zpB:PTs X [] zbl:=λpins s σ H Q I h=>wpAny_tests_nil ⟨H,I,h⟩
def zpC(h:PT X c t):PTs X [c] t:=λpins s σ H Q I q=>wpAny_tests_one (h pins s σ H Q I q)
def zvF (wi:TI)(g:TG)(ti:TT)(te:TE)(cix:List (Option Nat)):TE:=λσ H Q=>wi σ H λJ H1=>∀acc,H1 acc=none->∃W:Nat->Nat->St->Hp->Prop,(∃m,W 0 m (zaB σ cix) (upd H1 acc (.lst [])))/\
 ∀i m B H',W i m B H'->(J.stop i H'/\Q (.ref acc) H')\/(J.go i H'/\∃N:St->Hp->Prop,(∀ D H2,N D H2->∃F,F<m/\W (i+1) F D H2)/\
  ∀x H2,J.yld i H' x H2->g x B H2 λq H3=>ti q H3 λI H4=>if I=true then te q H4 λv H5=>∃xs,H5 acc=some (.lst xs)/\xs.length<sizeLine/\N q (upd H5 acc (.lst (xs++[v]))) else N q H4)
def zhU (g:TG)(ti:TT)(te:TE)(acc:Addr)(N:St->Hp->Prop)(x:V)(σ:St)(H:Hp):Prop:=
 g x σ H λq H3=>ti q H3 λB H4=>if B=true then te q H4 λv H5=>∃xs,H5 acc=some (.lst xs)/\xs.length<sizeLine/\N q (upd H5 acc (.lst (xs++[v]))) else N q H4
def zm6 (M:Model)(A:Around)(e:Expr)(k:Nat)(tg:Expr)(ifs:List Expr)(it acc:Value)(env:Env)(B:(Shared->Prop)->Shared->Prop):Prop:=
 ∀ (R:Result->Shared->Prop) (s:Shared) (I:Nat->Shared->Prop),(∀n s,I n s->wpAny M A (pyNext it) (λr s₁=>match r with
   | none=>R (.ok .next) s₁
   | some v=>wpAny M A (letOwnedTupleGo tg it v) (λ_ s₂=>wpAny M A (assign tg env v) (λ_ s₃=>
     wpAny M A (forIn ifs true λc r=>if r=true then do let ok <- isTrue c env (eval c env);pure (ForInStep.yield ok) else pure (ForInStep.yield r)) (λok s₄=>
      if ok=true then B (λs'=>∃m,m<n/\I m s') s₄ else ∃m,m<n/\I m s₄) (λ_ _=>False) s₃) (λ_ _=>False) s₂) (λ_ _=>False) s₁) (λ_ _=>False) s)->
  ∀n,I n s->codeAny M A (.compLoop e k it acc env) R s
def zfg{X:Cx}{ifs:List Expr}{it acc:Addr}{fp:List Addr}{tn:Nat->Heap->Prop}{J:It}{g:TG}{ti:TT}{tb:(St->Hp->Prop)->St->Hp->Prop}{B:(Shared->Prop)->Shared->Prop}{pl:List (Addr×Obj)}{Fin:St->Hp->Prop}{R:Result->Shared->Prop}{W:Nat->Nat->St->Hp->Prop}{σ0:St}{H0:Hp}{s0:Shared}(L:zm6 (model X.prog X.w) X.A e k tg ifs (.ref it) (.ref acc) X.env B)(hc:X.calm=true)(xX:X.xe=λ_ _=>False)(T:Turn X.prog X.w X.K tg J fp it tn)(f4:∀ {H':Hp},(∀b∈fp,H' b=none)->∀b∈fp,zeF X pl H' b)(hg:PG X tg g)(ht:PTs X ifs ti)(F:∀pl' s σ H (Nx:St->Hp->Prop) (P:Shared->Prop),Inv X (pl++pl') σ H s->tb Nx σ H->(∀ q H' s',Inv X (pl++pl') q H' s'->Nx q H'->P s')->B P s)(U:∀i n σ H,W i n σ H->(J.stop i H/\Fin σ H)\/(J.go i H/\∃Nx:St->Hp->Prop,(∀ q H',Nx q H'->∃m,m<n/\W (i+1) m q H')/\∀x H',J.yld i H x H'->g x σ H' λI H2=>ti I H2 λb H3=>if b=true then tb Nx I H3 else Nx I H3))(fin:∀ σ H s,Inv X pl σ H s->Fin σ H->R (.ok .next) s)(I0:Inv X pl σ0 H0 s0)(al:tn 0 s0.heap)(an:∀b∈fp,H0 b=none)(w0:W 0 m0 σ0 H0) :
  codeAny (model X.prog X.w) X.A (.compLoop e k (.ref it) (.ref acc) X.env) R s0:=by
 refine L R s0 (λn s'=>∃i q H',Inv X pl q H' s'/\tn i s'.heap/\(∀b∈fp,H' b=none)/\W i n q H') ?_ m0 ⟨0,σ0,H0,I0,al,an,w0⟩;rintro n s5 ⟨i,D,H5,I5,Y,Z,w5⟩;rcases U i n D H5 w5 with ⟨stop,qn⟩ | ⟨go,Nx,hN,step⟩
 ·refine thn (T.done X rfl rfl rfl hc i pl s5 D H5 (λ_ _=>False) I5 (f4 Z) Y stop) ?_;rintro r s6 ⟨hr,I6⟩;subst hr;exact fin D H5 s6 I6 qn
 ·refine thn (T.item X rfl rfl rfl hc i pl s5 D H5 (λ_ _=>False) I5 (f4 Z) Y go) ?_;rintro r s6 ⟨u,hr,h6⟩;subst hr;refine thn h6 ?_;rintro _ s7 ⟨x,H7,I7,r7,y7,O,ap⟩;have I7':=I7.pinned (f4 ap) (T.obj _ _ O);have a7:=hg _ s7 D H7 x u _ I7' r7 (step x H7 y7);rw[xX] at a7;refine thn a7 ?_;rintro _ s8 ⟨ad,H8,I8,q8⟩;have t8:=ht _ s8 ad H8 _ I8 q8;rw[xX] at t8;refine thn t8 ?_;rintro ok s9 ⟨H9,I9,q9⟩
  have ag:∀ q H' s',Inv X (pl++zfx fp s7.heap) q H' s'->Nx q H'->∃m,m<n/\∃i q H',Inv X pl q H' s'/\tn i s'.heap/\(∀b∈fp,H' b=none)/\W i m q H':=λq H' s' J' n'=>by
   obtain⟨m',hm,w'⟩:=hN q H' n'
   have pn:∀b∈fp,∀o,s7.heap.get? b=some o->s'.heap.get? b=some o/\H' b=none:=λb F o e=>by
    have:=J'.pin (b,o) (aL _ (aL _ (zai F e)))
    simp_all
   refine⟨m',hm,i+1,q,H',J'.unpinned,T.keep _ _ _ O λb F o e=>(pn b F o e).1,λb F=>?_,w'⟩;obtain⟨o,e,_⟩:=T.obj _ _ O b F
   simp_all
  cases ok with
  | false=>exact ag _ _ _ I9 q9
  | true=>exact F _ s9 ad H9 _ _ I9 q9 ag
structure Inn (X X':Cx)(pins:List (Addr×Obj))(σ:St)(fp:List Addr)(C:Addr):Prop where
 pX:X'.prog=X.prog
 wX:X'.w=X.w
 KX:X'.K=X.K
 AX:X'.A=X.A
 cX:X'.calm=X.calm
 xX:X'.xe=λ_ _=>False
 lX:X'.env.locals=C
 f4:∀ {H':Hp},(∀b∈fp,H' b=none)->∀b∈fp,zeF X' [] H' b
 back:∀ {σ':St} {H':Hp} {s':Shared} {h'':Heap},Inv X' [] σ' H' s'->Heap.SameBut C s'.heap h''->Inv X pins σ H' { s' with heap:=h'' }
structure Opn (X:Cx)(scope:Scope)(cix:List (Option Nat))(Fam:Cx->Prop):Prop where
 kind:scope.kind = .function
 names:∀x∈scope.names,x.2 = .local->scope.names.lookup x.1=some .local
 cells:X.Ok->∀x∈scope.names,x.2 = .free->∃a,X.env.cells.lookup x.1=some a
 run:∀ (pins:List (Addr×Obj)) (σ:St) (H3:Hp) (s3:Shared) (fp:List Addr) (Q:Env->Shared->Prop),Inv X pins σ H3 s3->(∀b∈fp,zeF X pins H3 b)->(∀b∈fp,b<s3.heap.objs.size)->
  (∀X' cenv s4,Fam X'->Inn X X' pins σ fp s3.heap.objs.size->cenv.locals=s3.heap.objs.size->X'.env={ cenv with scope:=relabel scope X.env }->Inv X' [] (zaB σ cix) H3 s4->(∀b o,s3.heap.get? b=some o->s4.heap.get? b=some o)->Q cenv s4)->
  wpAny (model X.prog X.w) X.A (newFunctionEnv scope X.env.globals (zhQ X.env scope.names []) [] X.env.qual none .none (some X.env)) Q X.xe s3
def zaD{X:Cx}{Fam:Cx->Prop}{scope:Scope}{cix:List (Option Nat)}{use:Option (Value->Sem Unit)}{Qp:Value->Shared->Prop}{ifs:List Expr}{pos:Pos}{F:Sem Value}{o0:Addr->HO}{B:Cx->Addr->(Shared->Prop)->Shared->Prop}{tb:Addr->(St->Hp->Prop)->St->Hp->Prop}{Fin:Addr->Hp->Prop}{wi:TI}{g:TG}{ti:TT}{Kk:It->Hp->Prop}{pins:List (Addr×Obj)}{σ:St}{H:Hp}{s:Shared}(O:Opn X scope cix Fam)(hc:X.calm=true)(a4:clausesOf e=⟨tg,iter,ifs,0⟩::gs)(hs:∀x,foldedSetIterable iter X.env x=pure x)(a5:∀ (R:Result->Shared->Prop) (s:Shared) (Z acc:Value) (env:Env),codeAny (model X.prog X.w) X.A (.compLoop e 0 Z acc env) R s->wpAny (model X.prog X.w) X.A (pyIter Z) (λa7 s'=>codeAny (model X.prog X.w) X.A (.compLoop e 0 a7 acc env) R s') (notedBy (model X.prog X.w) X.A env λx s'=>R (.error x) s') s->codeAny (model X.prog X.w) X.A (.compStart e 0 Z acc env) R s)(hL:∀X',Fam X'->∀Z acc,zm6 (model X'.prog X'.w) X'.A e 0 tg ifs Z (.ref acc) X'.env (B X' acc))(an:∀ (s:Shared) (Q:Value->Shared->Prop),Q (.ref s.heap.objs.size) { s with heap:=s.heap.push ob }->wpAny (model X.prog X.w) X.A F Q X.xe s)(bb:∀ {pins σ H s},Inv X pins σ H s->∀H',yp X.prog X.w H' (s.heap.push ob) s.heap.objs.size (o0 s.heap.objs.size))(hi:PI X tg iter wi)(hg:∀X',Fam X'->PG X' tg g)(ht:∀X',Fam X'->PTs X' ifs ti)(L:∀X',Fam X'->X'.prog=X.prog->X'.w=X.w->X'.A=X.A->X'.calm=true->X'.xe=(λ_ _=>False)->∀acc pl s σ H (Nx:St->Hp->Prop) (P:Shared->Prop),Inv X' pl σ H s->tb acc Nx σ H->(∀ U H' s',Inv X' pl U H' s'->Nx U H'->P s')->B X' acc P s)(I:Inv X pins σ H s)(h:wi σ H Kk)(hK:∀J H1 acc,Kk J H1->H1 acc=none->∃W:Nat->Nat->St->Hp->Prop,(∃m,W 0 m (zaB σ cix) (upd H1 acc (o0 acc)))/\∀i n σ H,W i n σ H->(J.stop i H/\Fin acc H)\/(J.go i H/\∃Nx:St->Hp->Prop,(∀ U H',Nx U H'->∃m,m<n/\W (i+1) m U H')/\∀x H',J.yld i H x H'->g x σ H' λad H2=>ti ad H2 λb H3=>if b=true then tb acc Nx ad H3 else Nx ad H3))(ap:∀acc C H5 s6,zeF X pins H5 C->(∃m,s6.heap.Ns C m)->(∀ag,Heap.SameBut C s6.heap ag->Inv X pins σ H5 { s6 with heap:=ag })->Fin acc H5->compPost (model X.prog X.w) X.A X.xe use Qp (.ref acc) C (.ok .next) s6) :
  wpAny (model X.prog X.w) X.A (comprehension e scope X.env pos F false (eval iter X.env) use) Qp X.xe s:=by
 refine wpAny_comprehension_free (use:=use) a4 hs (zhR (O.cells I.ok)) O.kind O.names (thn (hi pins s σ H _ I h) λxv s1 h1=>thn h1 λbl D h2=>?_);obtain⟨Z,fp,tn,J,H2,e,I2,T,as,f2,q2⟩:=h2;subst e;refine an D _ ?_;have al:=I2.hok.fresh (ai D.heap.objs.size);obtain⟨W,⟨m0,w0⟩,av⟩:=hK J H2 D.heap.objs.size q2 al;have a0:∀b o,D.heap.get? b=some o->(D.heap.push ob).get? b=some o:=λb u e=>af _ e;have I3:Inv X pins σ (upd H2 D.heap.objs.size (o0 D.heap.objs.size)) { D with heap:=D.heap.push ob,toks:=D.toks }:=I2.laid (t':=D.toks) a0 (ai _) (bb I2 _)
 have a1:∀b∈fp,b<D.heap.objs.size:=λb L=>by obtain⟨o,ho,_⟩:=T.obj _ _ as b L;exact ax ho
 have fn:∀b∈fp,upd H2 D.heap.objs.size (o0 D.heap.objs.size) b=none:=λb L=>by rw[zg (aJ (a1 b L))];exact (f2 b L).1
 refine O.run pins σ _ _ fp _ I3 (λb L=>⟨fn b L,(f2 b L).2⟩) (λb L=>Nat.lt_trans (a1 b L) (by simp)) λX' bk s4 hF N hl hE I4 kp=>?_;rw[<- hE,hl];have a2:tn 0 s4.heap:=T.keep _ _ _ as λb L o e=>kp b o (a0 b o e);have cX:=N.cX.trans hc;have Y:=zfg (X:=X') (R:=compPost (model X.prog X.w) X.A X.xe use Qp (.ref D.heap.objs.size) (D.heap.push ob).objs.size) (Fin:=λ_ H=>Fin D.heap.objs.size H) (pl:=[]) (hL X' hF (.ref Z) D.heap.objs.size) cX N.xX (by rw[N.pX,N.wX,N.KX];exact T) N.f4 (hg X' hF) (ht X' hF) (L X' hF N.pX N.wX N.AX cX N.xX D.heap.objs.size) av (λbn H5 s6 I6 q=>?_) I4 a2 fn w0
 ·rw[N.pX,N.wX,N.AX] at Y;exact a5 _ _ _ _ _ Y (T.self X.A 0 _ _ _ a2 Y)
 ·have bd:H5 (D.heap.push ob).objs.size=none:=by have:=I6.free;rwa[N.lX] at this
  obtain⟨m6,a3,_⟩:=I6.loc;rw[N.lX] at a3;exact ap _ _ H5 s6 (I3.fpOk (ai _) bd) ⟨m6,a3⟩ (λag hs=>N.back I6 hs) q
section
variable {X:Cx}{scope:Scope}{N:List Str}{cix:List (Option Nat)}{z:Str}
def ut (c:CompOk X scope N cix):Opn X scope cix (λX'=>∃C s H ex,X'=zw X scope N C s H ex) where
 kind:=c.kind
 names:=c.names
 cells:=c.cells
 run:=λpins σ H3 L fp Q I3 B D k=>by
  refine wpAny_newFunctionEnv c.cell (by simp) (λU F J=>?_) c.kind;have O:∀b o,L.heap.get? b=some o->U.get? b=some o:=λb o e=>J.extBut b o (aJ (ax e)) (af _ e);refine k (zw X scope N L.heap.objs.size L H3 fp) _ _ ⟨_,_,_,_,rfl⟩ ⟨rfl,rfl,rfl,rfl,rfl,rfl,rfl,λ{H'} Y b q=>⟨Y b q,aJ (D b q),λy=>?_,.inl q,λx a e=>?_,λp Z=>?_⟩,λI' hs=>zh2 I3 B I' hs⟩ rfl rfl (zlM I3 c B D F O) O
  ·rcases aG.mp (I3.stkSub b y) with e | e
   ·exact (B b q).2.1 e
   ·exact (B b q).2.2.1 e
  ·rcases zb2 (c.cells I3.ok) e with y | y
   ·exact (B b q).2.2.2.2.1 x a y
   ·simp at y
  ·exact absurd (show p∈([]:List (Addr×Obj))++[] from Z) (by simp)
def zdU {pins:List (Addr×Obj)}{σ:St}{Q:VK}{acc C:Addr}{H5:Hp}{D:Shared}(I:∃m,D.heap.Ns C m)(J:∀B,Heap.SameBut C D.heap B->Inv X pins σ H5 { D with heap:=B })(q:Q (.ref acc) H5):compPost (model X.prog X.w) X.A X.xe none (EP X pins σ Q) (.ref acc) C (.ok .next) D:=
 let ⟨m,hn⟩:=I;⟨m,hn,λL F=>⟨.ref acc,H5,J L F,rfl,q⟩⟩
def zdG{pos spos px:Pos}{nx:Str}{B first:Sem Value}{D:Ends}{pins:List (Addr×Obj)}{σ:St}{s:Shared}(O:X.N.Nodup)(Y:X.N[ix]?=some nx)(J:X.env.scope.names.lookup nx=some .local)(Z:swapsWithSole [.Name nx px] e spos.line X.env=pure true)(ad:(assignEach [.Name nx px] X.env).map (·.2)=[assign (.Name nx px) X.env])(ag:∀U,evalThenUse e X.env U=comprehension e scope X.env pos B false first (some U) >>= λ_=>pure ())(h:∀ (U:Value->Sem Unit) (Qp:Value->Shared->Prop),(∀acc C H5 I,zeF X pins H5 C->(∃m,I.heap.Ns C m)->(∀L,Heap.SameBut C I.heap L->Inv X pins σ H5 { I with heap:=L })->D.nx (σ.set ix (some (.ref acc))) H5->compPost (model X.prog X.w) X.A X.xe (some U) Qp (.ref acc) C (.ok .next) I)->wpAny (model X.prog X.w) X.A (comprehension e scope X.env pos B false first (some U)) Qp X.xe s) :
  wpAny (model X.prog X.w) X.A (exec (.Assign [.Name nx px] e spos) X.env) (SP X pins D) X.xe s:=by
 rw[exec_Assign_arm];refine aa (bM ?_);rw[Z];refine aa (ae ?_);rw[if_pos rfl];refine aa ?_;rw[ag];refine aa ?_;refine h _ _ λacc C H5 I F hm al q=>?_;have IX:=al _ ⟨rfl,λ_ _=>rfl⟩;show wpAny _ _ (assignAll _ ((assignEach [.Name nx px] X.env).map (·.2))) _ _ I;rw[ad];refine wpAny_assign_Name (x:=nx) (pos:=px) ?_;refine zfH IX O Y (Or.inl J) (v:=.ref acc) rfl (λs7 I7 ⟨a7,an,ap⟩=>?_) (.inr J)
 have as:C≠a7:=by
  intro z;rcases ap with e | e
  ·exact F.2.1 (z.trans e)
  ·exact F.2.2.2.2.1 nx a7 e z.symm
 obtain⟨m6,oC,av,a0,a1,rC⟩:=hm;refine⟨m6,⟨oC,av,a0,(an.2 _ as).trans a1,rC⟩,λh8 a2=>ae (ae ?_)⟩;exact⟨_,H5,I7.turned (t':=s7.toks) (λb o hb e=>(a2.2 b hb).trans e) F.1 F.2.1 F.2.2.2.1 F.2.2.2.2.1 F.2.2.2.2.2,q⟩
end
section
variable {X:Cx}{Fam:Cx->Prop}{scope:Scope}{N:List Str}{cix:List (Option Nat)}{z:Str}{use:Option (Value->Sem Unit)}{Qp:Value->Shared->Prop}{elt tg iter:Expr}{ifs:List Expr}{pos ipos spos px:Pos}{wi:TI}{g:TG}{ti:TT}{te:TE}{pins:List (Addr×Obj)}{σ:St}{H:Hp}{s:Shared}{Fin:Addr->Hp->Prop}
def zgU {P:Shared->Prop}{acc:Addr}{Nx:St->Hp->Prop}(he:PE X elt te)(Y:X.xe=λ_ _=>False)(I:Inv X pins σ H s)(q:te σ H λv H'=>∃xs,H' acc=some (.lst xs)/\xs.length<sizeLine/\Nx σ (upd H' acc (.lst (xs++[v]))))(k:∀ B H' s',Inv X pins B H' s'->Nx B H'->P s') :
  wpAny (model X.prog X.w) X.A (eval elt X.env) (λx s5=>wpAny (model X.prog X.w) X.A (call (.builtin "list.append") [.ref acc,x]) (λ_ s6=>P s6) (λ_ _=>False) s5) (λ_ _=>False) s:=by
 have Z:=he pins s σ H _ I q;rw[Y] at Z;refine thn Z ?_;rintro u2 F ⟨v,H10,I10,J,xs,L,O,nx⟩;have D:=zfi (X:=X) _ F σ H10 (.ref acc) [v] (.ref acc) [u2] (λ_ H'=>Nx σ H') I10 rfl (.cons J .nil) ⟨_,xs,v,rfl,rfl,L,O,nx⟩;rw[Y] at D;refine thn D (by rintro _ ad ⟨_,H11,I11,_,U⟩;exact k _ _ _ I11 U)
def zfe (O:Opn X scope cix Fam)(Z:X.calm=true)(hi:PI X tg iter wi)(hg:∀X',Fam X'->PG X' tg g)(ht:∀X',Fam X'->PTs X' ifs ti)(he:∀X',Fam X'->PE X' elt te)(hs:∀x,foldedSetIterable iter X.env x=pure x)(I:Inv X pins σ H s)
  (h:wi σ H λJ H1=>∀acc,H1 acc=none->∃W:Nat->Nat->St->Hp->Prop,(∃m,W 0 m (zaB σ cix) (upd H1 acc (.lst [])))/\∀i n σ H,W i n σ H->(J.stop i H/\Fin acc H)\/(J.go i H/\∃Nx:St->Hp->Prop,(∀ F H',Nx F H'->∃m,m<n/\W (i+1) m F H')/\∀x H',J.yld i H x H'->zhU g ti te acc Nx x σ H'))
  (L:∀acc C H5 D,zeF X pins H5 C->(∃m,D.heap.Ns C m)->(∀U,Heap.SameBut C D.heap U->Inv X pins σ H5 { D with heap:=U })->Fin acc H5->compPost (model X.prog X.w) X.A X.xe use Qp (.ref acc) C (.ok .next) D) :
  wpAny (model X.prog X.w) X.A (comprehension (.ListComp elt [⟨tg,iter,ifs,0⟩] scope pos) scope X.env ipos (newList []) false (eval iter X.env) use) Qp X.xe s:=
 zaD (ob:={ cls:=.type "list",dict:=none,data:=.seq ([]:List Value).toArray }) (o0:=λ_=>.lst []) (B:=λX' acc P s=>wpAny (model X'.prog X'.w) X'.A (eval elt X'.env) (λx s5=>wpAny (model X'.prog X'.w) X'.A (call (.builtin "list.append") [.ref acc,x]) (λ_ D=>P D) (λ_ _=>False) s5) (λ_ _=>False) s) (tb:=λacc Nx σ H=>te σ H λv H'=>∃xs,H' acc=some (.lst xs)/\xs.length<sizeLine/\Nx σ (upd H' acc (.lst (xs++[v])))) O Z rfl hs (λ_ _ _ _ _ h0 h1=>codeAny_compStart_list h0 h1) (λ_ _ _ _ _ _ I Y n h=>zdO I Y n h) (λs Q h=>bf h) (λ_ _=>⟨aN _,[],0,.nil,aq _ rfl⟩) hi hg ht (λX' hF _ _ _ _ xX _ _ _ _ _ _ _ I q k=>zgU (he X' hF) xX I q k) I h (λJ H1 acc q hn=>q acc hn) L
end
section
variable {X:Cx}{scope:Scope}{N:List Str}{z:Str}
def zbT {P:Cx->Prop}(h:∀C s H ex,P (zw X scope N C s H ex)):∀X',(∃C s H ex,X'=zw X scope N C s H ex)->P X':=by simp_all
abbrev zt4 (X:Cx)(pins:List (Addr×Obj))(σ:St)(use:Option (Value->Sem Unit))(Qp:Value->Shared->Prop)(Q:VK):Prop:=∀acc C H5 B,zeF X pins H5 C->(∃m,B.heap.Ns C m)->(∀q,Heap.SameBut C B.heap q->Inv X pins σ H5 { B with heap:=q })->Q (.ref acc) H5->compPost (model X.prog X.w) X.A X.xe use Qp (.ref acc) C (.ok .next) B
end
structure Dfn (K:PySem.W.Frag)(mg:Str->Option Value)(x:Str)(st:Stmt)(ps:List Str)(f:Addr)(fd:FuncData):Prop where
 F:Fun K x x st f fd
 b:zdA K fd ps []
 m:mg x=some (.ref f)
section
variable {X:Cx}
def zvj{x:Str}{st:Stmt}{ps:List Str}{f:Addr}{fd:FuncData}{sp:Sp}{es:List Expr}{p pos:Pos}(D:Dfn X.K X.mg x st ps f fd)(G:FnOk X.prog X.w X.K X.mg X.base CX0 j f fd ps sp)(J:Room k X.A)(L:PA X (e::es) t)(q:j<=k:=by decide)(O:Gl X x:=by rfl)(B:(x==("__debug__" : Str))=false:=by decide)(U:starEach (e::es) X.env=(false,eval e X.env)::starEach es X.env:=by rfl)(I:(backTo pos (starEach es X.env)).any (·.1)=false:=by rfl) :
  PE X (.Call (.Name x p) (e::es) [] pos) (zfJ sp [] E0 t):=
 zkj G (J.mono q) O D.m D.F.kp D.b .nil zr4 L B U I
def zky {q:List Bool}:((List.range q.length).all λi=>q.getD i true)=q.all id:=by
 rw[b9,cy,cy];constructor
 ·intro h b D;obtain⟨i,hi,e⟩:=bz.mp D
  simp_all
 ·intro h i hi;have B:=aW.mp hi;have:=h q[i] (bO B)
  simp_all
def zlo (Y:X.calm=true):zcS X (.builtin "all") (λxs H Q=>∃ (p:Addr) (B:List Bool),xs=[.ref p]/\H p=some (.lst (B.map V.bl))/\Q (.bl (B.all id)) H):=by
 intro pins s σ H xs us Q I r h;obtain⟨p,B,rfl,Z,q⟩:=h;obtain⟨u,rfl,ru⟩:=zay r;cases ru;obtain⟨its,O,pl,hz⟩:=I.list (.of Z);have D:=O.length;rw[ab] at D
 have W:Walks X.prog X.w X.A.in1 s.heap.objs.size [s.heap.objs.size,p] [s.heap.objs.size] its.toArray.size (λi v=>its.toArray[i]?=some v) (λi h=>h.IsListIter s.heap.objs.size p i/\h.IsList p its.toArray):=by refine Walks.list (A:=X.A.in1) (I.ok.hd Y) s.heap.objs.size p ?_ its.toArray;obtain⟨o,_,ho,_⟩:=pl;exact aJ (ax ho)
 refine call_all_walk (cV pl.isList ⟨s.heap.objs.size,_,_,_,_,_,λi=>B.getD i true,rfl,W,⟨?_,?_⟩,?_,?_⟩)
 ·exact⟨_,aq _ rfl,rfl,rfl⟩
 ·exact pl.isList.at λo e=>af _ e
 ·intro i v s' Q' E' hP J;have L:its[i]?=some v:=by simpa using hP
  have hi:i<B.length:=by grind
  have hb:(B.map V.bl)[i]?=some (V.bl B[i]):=by simp[hi]
  obtain⟨u',F,rb⟩:=O.get hb;rw[L] at F;cases F;cases rb;have:B.getD i true=B[i]:=by simp[hi]
  dsimp only at J;rw[this] at J;exact b4 J
 ·intro h' tk hk
  have e:(List.range its.toArray.size).all (λi=>B.getD i true)=B.all id:=by rw[aV,<- D];exact zky
  rw[e];exact⟨.bl _,H,I.kept (t':=tk) λb o U=>hk b o (by simp;exact aJ (ax U)) (af _ U),rfl,q⟩
end
structure QE (X:Cx)(e:Expr)(t:TE):Prop where
 run:PE X e t
structure QT (X:Cx)(e:Expr)(t:TT):Prop where
 run:PT X e t
structure QW (X:Cx)(e:Expr)(t:TT):Prop where
 run:PW X e t
structure QC (X:Cx)(op:CmpOp)(a b:Expr)(t:TE):Prop where
 run:PC X op a b t
structure QA (X:Cx)(es:List Expr)(t:TA):Prop where
 run:PA X es t
structure QS (X:Cx)(s:Stmt)(t:TS):Prop where
 run:PS X s t
structure QSs (X:Cx)(s:List Stmt)(t:TS):Prop where
 run:PSs X s t
structure QG (X:Cx)(e:Expr)(t:TG):Prop where
 run:PG X e t
structure QGs (X:Cx)(es:List Expr)(t:TGs):Prop where
 run:PGs X es t
structure QI (X:Cx)(tg e:Expr)(t:TI):Prop where
 run:PI X tg e t
structure QO (X:Cx)(e:Option Expr)(t:TO):Prop where
 run:PO X e t
structure QP (X:Cx)(pos:Pos)(ks:List (Option Expr))(vs:List Expr)(t:List (TE×TE)):Prop where
 run:PPs X pos ks vs t
structure QTs (X:Cx)(es:List Expr)(t:TT):Prop where
 run:PTs X es t
structure OpQ (X:Cx)(f:Value->Value->Sem Value)(r:R2):Prop where
 run:OpR X f r
structure UnQ (X:Cx)(f:Value->Sem Value)(r:V->Hp->VK->Prop):Prop where
 run:UnR X f r
structure CallQ (X:Cx)(f:Value)(r:List V->Hp->VK->Prop):Prop where
 run:zcS X f r
structure IxQ (X:Cx)(r:R2):Prop where
 run:IxR X r
structure SlQ (X:Cx)(r:V->Option Int->Option Int->Hp->VK->Prop):Prop where
 run:SlR X r
section
variable {X:Cx}{e a b c:Expr}{es:List Expr}{te ta tb tc:TE}{t u:TT}{pos p:Pos}
def qv(i:Nat)(B:X.N[i]?=some x:=by rfl)(D:Vis X.env.scope x:=by walk_at "v")(F:(x==("__debug__" : Str))=false:=by decide)(q:(x==("__classdict__" : Str))=false:=by decide):QE X (.Name x pos) (zmU i):=⟨zsc B D F q⟩
def yD{i:Int}:QE X (.Constant (.int i) j pos) (tC (.int i)):=⟨zkl⟩
def zvq:QE X (.Constant (.bool k) j pos) (tC (.bl k)):=⟨zvi⟩
def zsB:QE X (.Constant .none j pos) (tC .non):=⟨zr8⟩
def xV:QE X (.Constant (.str x) j pos) (tC (.str x)):=⟨zsb⟩
def zpE(q:Gl X x)(B:X.mg x=none)(D:bootBuiltins x=some w)(r:yG v w)(F:x ≠ "__name__" := by decide)(I:(x==("__debug__" : Str))=false:=by decide):QE X (.Name x pos) (tC v):=⟨zpd q B D r F I⟩
def yi:OpQ X (binaryOp .Add) (rI0 λi j=>.int (i+j)):=⟨zrR⟩
def zfu:OpQ X (binaryOp .Sub) (rI0 λi j=>.int (i - j)):=⟨zrY⟩
def zar:OpQ X (binaryOp .Mult) (rI zm3 λi j=>.int (i * j)):=⟨zrV⟩
def zeh:OpQ X (binaryOp .FloorDiv) (rI zqx λi j=>.int (i / j)):=⟨zpa⟩
def zaU:OpQ X (binaryOp .Mod) (rI (λ_ j=>0<j) λi j=>.int (i % j)):=⟨zrU⟩
def zdr:OpQ X (binaryOp .Pow) (rI zqy λi j=>.int (i ^ j.toNat)):=⟨zrW⟩
def zS:OpQ X (binaryOp .Add) (zkv X.K):=⟨zo8⟩
def zrZ:OpQ X (binaryOp .Add) rCat:=⟨zrS⟩
def znw:OpQ X (binaryOp .Mult) zt0:=⟨zrX⟩
def zme:OpQ X (compareOp .Lt) (rI0 λi j=>.bl (decide (i<j))):=⟨zvf⟩
def zmd:OpQ X (compareOp .LtE) (rI0 λi j=>.bl (decide (i<=j))):=⟨zve⟩
def zkh:OpQ X (compareOp .Gt) (rI0 λi j=>.bl (decide (j<i))):=⟨zvd⟩
def zvh:OpQ X (compareOp .GtE) (rI0 λi j=>.bl (decide (j<=i))):=⟨zvc⟩
def xg:OpQ X (compareOp .Eq) rEq:=⟨zvb⟩
def zei:OpQ X (compareOp .NotEq) rNe:=⟨zvg⟩
def zgz:OpQ X (compareOp .IsNot) (λx y H Q=>∃a b,x = .bl a/\y = .bl b/\Q (.bl (a != b)) H):=⟨zgy⟩
def zki:OpQ X (compareOp .In) (rIn X.K false):=⟨zkg⟩
def zft:OpQ X (compareOp .NotIn) (rIn X.K true):=⟨zfr⟩
def zhI:UnQ X (unaryOp .USub) (rU λi=>.int (-i)):=⟨zk2⟩
def xa(B:OpQ X (binaryOp q) r)(D:QE X a ta)(F:QE X b tb):QE X (.BinOp a q b pos) (tOp r ta tb):=⟨zvl B.run D.run F.run⟩
def zvr(B:UnQ X (unaryOp q) r)(D:QE X a ta):QE X (.UnaryOp q a pos) (tUn r ta):=⟨zpl B.run D.run⟩
def zpF(B:OpQ X (compareOp q) r)(D:QE X a ta)(F:QE X b tb)(I:behindInMarks q b=false):QE X (.Compare a [q] [b] pos) (tOp r ta tb):=⟨zpe B.run D.run F.run I⟩
def zcy(B:OpQ X (compareOp q) r)(D:QE X a ta)(F:QE X b tb)(I:behindInMarks q b=false):QT X (.Compare a [q] [b] pos) (zqj (tOp r ta tb)):=⟨zpA B.run D.run F.run I⟩
def zsv(q:QE X a ta):QC X .Is a (.Constant .none j pos') (zvH ta):=⟨zr5 q.run⟩
def zsG(h:QC X q a b te)(h1:behindInMarks q b=false:=by first | exact zhn _ (by decide) (by decide) | rfl):QT X (.Compare a [q] [b] pos) (tB te):=⟨zsq h.run h1⟩
def zsI (h:QE X e te)(he:∀whole,isTrue e X.env whole=(do let v <- whole;standAt e.pos;holding [v] (truthy v)):=by intro _;rfl):QT X e (tB te):=⟨zss h.run he⟩
def zmH (h:QE X e te)(he:∀whole,isTrue e X.env whole=(do let v <- whole;standAt e.pos;holding [v] (truthy v)):=by intro _;rfl):QT X e (λσ H Q=>te σ H λx H'=>∃k,zub X.K x H' k/\Q k H'):=⟨zmv h.run he⟩
def zsH (h:QT X a t):QT X (.UnaryOp .Not a pos) (tNot t):=⟨zsr h.run⟩
def zku (h:QT X a t):QW X (.BoolOp .And [a] pos) t:=⟨zpD h.run⟩
def zsJ (h:QT X a t):QW X (.BoolOp .Or [a] pos) t:=⟨zsu h.run⟩
def znA {zR:List Expr}(h:QT X a t)(h':QW X (.BoolOp .And (b::zR) pos) u):QW X (.BoolOp .And (a::b::zR) pos) (zvE t u):=⟨zst h.run h'.run⟩
def zvs {zR:List Expr}(h:QT X a t)(h':QW X (.BoolOp .Or (b::zR) pos) u):QW X (.BoolOp .Or (a::b::zR) pos) (tOr t u):=⟨zvp h.run h'.run⟩
def QW.pt (h:QW X e t):QT X e t:=⟨h.run.pt⟩
def zsD(h:QE X a ta):QE X (.BoolOp q [a] pos) ta:=⟨zsa h.run⟩
def zsw {zR:List Expr}(q:QE X a ta)(B:QE X (.BoolOp .And (b::zR) pos) tb):QE X (.BoolOp .And (a::b::zR) pos) (zs6 ta tb):=⟨zr6 q.run B.run⟩
def zsC (q:QE X a ta):QE X (.UnaryOp .Not a pos) (ztc ta):=⟨zr9 q.run⟩
def zmA (q:QT X c t)(B:QE X a ta)(D:QE X b tb):QE X (.IfExp c a b pos) (tIf t ta tb):=⟨zml q.run B.run D.run⟩
def yC:QA X [] znO:=⟨zr2⟩
def zO(B:QE X e te)(D:QA X es q)(hs:starEach (e::es) X.env=(false,eval e X.env)::starEach es X.env:=by rfl):QA X (e::es) (zcN te q):=⟨zpc B.run D.run hs⟩
def zmx:QE X (.Dict [] [] pos) znN:=⟨zmj⟩
def zpR:QP X pos [] [] []:=⟨zpt⟩
def zen(B:QE X k tk)(D:QE X v tv)(F:QP X pos ks vs q):QP X pos (some k::ks) (v::vs) ((tk,tv)::q):=⟨zms B.run D.run F.run⟩
def zpH(h:QP X pos q B D)(F:q.all (·.isSome)=true)(J:q.length=B.length)(L:q≠[])(I:q.length<=15):QE X (.Dict q B pos) (zs9 D):=⟨zpg h.run F J L I⟩
def zks:QO X none zkU:=⟨zpr⟩
def zkt (h:QE X e te):QO X (some e) (ztd te):=⟨zps h.run⟩
def zqc:SlQ X rSlA:=⟨zp9⟩
def zkQ:SlQ X (rSlL X.K):=⟨zp8⟩
def zel{r:V->Option Int->Option Int->Hp->VK->Prop}{lo hi:Option Expr}{tl th:TO}(q:SlQ X r)(B:QE X e te)(D:QO X lo tl)(F:QO X hi th):QE X (.Subscript e (.Slice lo hi none p2) pos) (tSl r te tl th):=⟨zmm q.run B.run D.run F.run⟩
def xo:IxQ X (ztY X.K):=⟨zoD⟩
def yo:IxQ X (ztZ X.K):=⟨zrs⟩
def zsA(q:IxQ X r)(B:QE X a ta)(D:QE X b tb)(hs:zfQ b):QE X (.Subscript a b pos) (tOp r ta tb):=⟨zvk q.run B.run D.run hs⟩
def uc (q:X.A.units+1<cLine)(B:QE X a ta)(D:QE X b tb)(hs:zqF b):QE X (.Subscript a b pos) (zs7 ta tb):=⟨zpf q B.run D.run hs⟩
def yQ:CallQ X (.builtin "len") (λxs H Q=>∃x n,xs=[x]/\zqC X.K x H n/\Q (.int n) H):=⟨zlp⟩
def ziV:CallQ X (.builtin "abs") (λxs H Q=>∃i,xs=[.int i]/\Q (.int (if i<0 then -i else i)) H):=⟨zln⟩
def zn5 (q:X.calm=true):CallQ X (.builtin "max") (λxs H Q=>∃i j,xs=[.int i,.int j]/\Q (.int (if j > i then j else i)) H):=⟨ziN q⟩
def ziX:CallQ X (.builtin "isinstance") (λxs H Q=>∃x T t b,xs=[x,.ty T]/\TyOf X.K H x t/\PySem.W.kitOne X.K t (.type T)=some b/\Q (.bl b) H):=⟨zfT⟩
def zqR (B:X.calm=true):CallQ X (.builtin "all") (λxs H Q=>∃ (p:Addr) (q:List Bool),xs=[.ref p]/\H p=some (.lst (q.map V.bl))/\Q (.bl (q.all id)) H):=⟨zlo B⟩
def zhV:CallQ X (.type "list") (λxs H Q=>∃p ys,xs=[.ref p]/\(SqL X.K H p ys\/SqT X.K H p ys)/\∀l,H l=none->Q (.ref l) (upd H l (.lst ys))):=⟨zeR⟩
def zfW:CallQ X (.type "tuple") (λxs H Q=>∃p ys,xs=[.ref p]/\((SqL X.K H p ys/\∀l,H l=none->Q (.ref l) (upd H l (.tup ys)))\/(SqT X.K H p ys/\Q (.ref p) H))):=⟨zdJ⟩
def xq {id:String}{r:List V->Hp->VK->Prop}{x:Str}{D:TA}(F:CallQ X (.builtin id) r)(I:Gl X x)(J:X.mg x=none)(L:bootBuiltins x=some (.builtin id))(O:QA X (e::es) D)(U:x ≠ "__name__" := by decide)(q:(x==("__debug__" : Str))=false:=by decide)
  (Y:starEach (e::es) X.env=(false,eval e X.env)::starEach es X.env:=by rfl) (B:(backTo pos (starEach es X.env)).any (·.1)=false:=by rfl):QE X (.Call (.Name x p) (e::es) [] pos) (tCB r D):=⟨zmi F.run I J L O.run U q Y B⟩
def zaW(F:CallQ X (.type T) r)(I:Gl X x)(J:X.mg x=none)(L:bootBuiltins x=some (.type T))(O:QA X (e::es) D)(U:x ≠ "__name__" := by decide)(q:(x==("__debug__" : Str))=false:=by decide)(Y:starEach (e::es) X.env=(false,eval e X.env)::starEach es X.env:=by rfl)(B:(backTo pos (starEach es X.env)).any (·.1)=false:=by rfl):QE X (.Call (.Name x p) (e::es) [] pos) (tCB r D):=⟨zkk F.run I J L O.run U q Y B⟩
def zmz{x:Str}{st:Stmt}{ps:List Str}{f:Addr}{fd:FuncData}{sp:Sp}(D:Dfn X.K X.mg x st ps f fd)(G:FnOk X.prog X.w X.K X.mg X.base CX0 j f fd ps sp)(J:Room k X.A)(L:QA X (e::es) I)(q:j<=k:=by decide)(O:Gl X x:=by rfl)(B:(x==("__debug__" : Str))=false:=by decide)(U:starEach (e::es) X.env=(false,eval e X.env)::starEach es X.env:=by rfl)(F:(backTo pos (starEach es X.env)).any (·.1)=false:=by rfl) :
  QE X (.Call (.Name x p) (e::es) [] pos) (zfJ sp [] E0 I):=⟨zvj D G J L.run q O B U F⟩
def zcx(q:X.N.Nodup)(hi:X.N[i]?=some x)(B:Loc X.env.scope x)(D:X.fn x=true\/X.env.scope.names.lookup x=some .local:=by walk_at "l"):QG X (.Name x pos) (uW i):=⟨zpm q hi B D⟩
def zpN:QGs X [] gNil:=⟨zpn⟩
def zmB(h1:QG X e g)(h2:QGs X es gs)(hs:(assignEach (e::es) X.env).map (·.2)=assign e X.env::(assignEach es X.env).map (·.2):=by rfl):QGs X (e::es) (zrh g gs):=⟨zmp h1.run h2.run hs⟩
def zsE {k:Nat}{gs:TGs}{n:Nat}(B:X.calm=true)(h:QGs X es gs)(D:(assignEach es X.env).length=n:=by rfl)(q:(assignEach es X.env).findIdx? (·.1)=none:=by rfl):QG X (.Tuple es k pos) (zuB X.K n gs):=⟨zsj B h.run D q⟩
def zem(q:QE X e te):QI X tg e (zow X.K te):=⟨zpo q.run⟩
def zsF(q:QE X e te):QI X tg e (zuD X.K te):=⟨zsk q.run⟩
def zkq(B:Gl X "range")(D:X.mg "range" = none)(F:QA X [a] q)(hs:starEach [a] X.env=[(false,eval a X.env)]:=by rfl):QI X tg (.Call (.Name "range" p) [a] [] pos) (zrj q):=⟨zkn B D F.run hs⟩
def zer:QTs X [] zbl:=⟨zpB⟩
def zpT (h:QT X c t):QTs X [c] t:=⟨zpC h.run⟩
def zpG(B:X.calm=true)(c:CompOk X scope N cix)(hi:QI X tg iter wi)(D:∀C s H ex,QG (zw X scope N C s H ex) tg g)(F:∀C s H ex,QTs (zw X scope N C s H ex) ifs ti)(J:∀C s H ex,QE (zw X scope N C s H ex) elt te)(hs:∀x,foldedSetIterable iter X.env x=pure x:=by intro _;rfl):QE X (.ListComp elt [⟨tg,iter,ifs,0⟩] scope pos) (zvF wi g ti te cix):=⟨λpins s σ H Q I h=>by
 rw[eval_ListComp];exact zfe (Fin:=λacc H=>Q (.ref acc) H) (ut c) B hi.run (zbT λC s H ex=>(D C s H ex).run) (zbT λC s H ex=>(F C s H ex).run) (zbT λC s H ex=>(J C s H ex).run) hs I h λ_ _ _ _ _ L O q=>zdU L O q⟩
end
section
variable {X:Cx}{st:Stmt}{sts body a b:List Stmt}{t u:TS}{e o i:Expr}{te td ty tv:TE}{pos:Pos}
def zeq:QSs X [] ztb:=⟨zpy⟩
def ye (h1:QS X st t)(h2:QSs X sts u):QSs X (st::sts) (zvI t u):=⟨zmu h1.run h2.run⟩
def uG (h1:QS X st t):QSs X [st] t:=⟨zpz h1.run⟩
def zep (q:QE X e te)(hs:swapsWith e none pos.line X.env=pure false:=by rfl):QS X (.Expr e pos) (zqh te):=⟨zpx q.run hs⟩
def zbx (q:QE X e te):QS X (.Return (some e) pos) (zt2 te):=⟨zso q.run⟩
def zmE(q:QT X c tc)(B:QSs X a t)(D:QSs X b u):QS X (.If c a b pos) (tIfS tc t u):=⟨zvo q.run B.run D.run⟩
def x5 {i:Nat}{x:Str}{pos':Pos}(q:X.N.Nodup)(hi:X.N[i]?=some x)(B:Loc X.env.scope x)(D:QE X e te)(hs:swapsWith e (some (.Name x pos')) pos.line X.env=pure false:=by rfl)(F:X.fn x=true\/X.env.scope.names.lookup x=some .local:=by walk_at "l") :
  QS X (.Assign [.Name x pos'] e pos) (zfP te (uW i)):=⟨zsp q hi B D.run hs F⟩
def zny(q:QE X e te)(B:QG X tg g)(hs:swapsWithSole [tg] e pos.line X.env=pure false:=by rfl)(D:swappedStores [tg] e X.env=pure none:=by rfl)(h1:(assignEach [tg] X.env).map (·.2)=[assign tg X.env]:=by rfl):QS X (.Assign [tg] e pos) (zfP te g):=⟨zsl q.run B.run hs D h1⟩
def zeo(q:X.A.units+1<cLine)(B:QE X o td)(hi:QE X i ty)(D:QE X e tv)(hs:swapsWith e (some (.Subscript o i pos')) pos.line X.env=pure false):QS X (.Assign [.Subscript o i pos'] e pos) (zs0 td ty tv):=⟨zpw q B.run hi.run D.run hs⟩
def znz(q:PassesOwn (model X.prog X.w) X.A X.env X.xe)(B:X.calm=true)(hi:QI X tg iter wi)(D:QG X tg g)(F:QSs X body t)(hs:∀x,foldedSetIterable iter X.env x=pure x:=by intro _;rfl):QS X (.For tg iter body [] pos) (zvG wi g t):=⟨zsn q B hi.run D.run F.run hs⟩
end
def Fun.okQ{P:Program}{w:World}{K:PySem.W.Frag}{mg:Str->Option Value}{base:Heap}{x B:Str}{st:Stmt}{f:Addr}{fd:FuncData}{N ps:List Str}{sp:Sp}(F:Fun K x B st f fd)(S:FnScope N ps (zf st))(J:∀vs H Q E,sp vs H Q E->vs.length=ps.length)(I:∀ (D:Value) (A:Around) (q:List Env) (s:Shared) (H:Hp) (vs:List V) (Q:VK) (E:XK),Room k (A.deeper (envOfC B (zf st) s.heap.objs.size f D))->sp vs H Q E->
   ∃t,QSs (zcX CX0 P w K mg base N B (zf st) f D A q s H E).nox (zP st) t/\t { nx:=λ_ H'=>Q .non H',rt:=Q } (xj N vs) H):FnOk P w K mg base CX0 (k+1) f fd ps sp:=
 F.ok S J λD A q s H vs Q E L h=>by obtain⟨t,h1,h2⟩:=I D A q s H vs Q E L h;exact⟨t,h1.run,h2⟩
def s_ca:¬ (("cells" : Str) = "at"):=by decide +kernel
def s_cl:¬ (("cells" : Str) = "left"):=by decide +kernel
def s_al:¬ (("at" : Str) = "left"):=by decide +kernel
def zuO:¬ (Sum.inr "cells" : Key)=(Sum.inr "at" : Key):=λz=>s_ca (Sum.inr.inj z)
def zuP:¬ (Sum.inr "cells" : Key)=(Sum.inr "left" : Key):=λz=>s_cl (Sum.inr.inj z)
def ztR:¬ (Sum.inr "at" : Key)=(Sum.inr "left" : Key):=λz=>s_al (Sum.inr.inj z)
def za5 (c:Addr)(a l:Int):List (Key×V):=[(Sum.inr "cells",.ref c),(Sum.inr "at",.int a),(Sum.inr "left",.int l)]
def zvm (c:Addr)(a l:Int):za6 (za5 c a l) (Sum.inr "cells" : Key)=some (.ref c):=xt rfl
def zmn (c:Addr)(a l:Int):za6 (za5 c a l) (Sum.inr "at" : Key)=some (.int a):=by unfold za5;rw[xM zuO,xt rfl]
def zvn (c:Addr)(a l:Int):za6 (za5 c a l) (Sum.inr "left" : Key)=some (.int l):=by unfold za5;rw[xM zuP,xM ztR,xt rfl]
def zsf (c:Addr)(a l b:Int):zao (za5 c a l) (Sum.inr "at" : Key) (.int b)=za5 c b l:=by unfold zao za5;have q:=zuO;have B:¬ (Sum.inr "left" : Key)=(Sum.inr "at" : Key):=λz=>ztR z.symm;simp[q,B]
def zsg (c:Addr)(a l b:Int):zao (za5 c a l) (Sum.inr "left" : Key) (.int b)=za5 c a b:=by unfold zao za5;have q:=zuP;have B:=ztR;simp[q,B]
def zse (c:Addr)(a l:Int):zcr [] (za5 c a l)=za5 c a l:=by unfold zcr za5;have q:=zuO;have B:=zuP;have D:=ztR;simp[zao,q,B,D]
structure Pen (H:Hp)(p c:Addr)(ns:List Int)(n:Nat):Prop where
 ob:∃a l:Int,H p=some (.dK (za5 c a l))/\0<=a/\a<=n/\0<=l
 ls:H c=some (.lst (ns.map V.int))
 len:ns.length<=63
def Pen.same{ns:List Int}(P:Pen H p c ns n)(h:xh H H'):Pen H' p c ns n:=by obtain⟨⟨a,l,h1,h2,q,B⟩,D,F⟩:=P;exact⟨⟨a,l,h _ _ h1,h2,q,B⟩,h _ _ D,F⟩
def zey{a l:Int}(h:H p=some (.dK (za5 c a l))):zB H (upd H p o):=λb u e n=>by
 by_cases q:b=p
 ·subst q;rw[h] at e;cases e;have:=n _ rfl;rw[zmn] at this;cases this
 ·rw[zg q];exact e
section
variable {H:Hp}{p c:Addr}{a l:Int}
def zht (h:H p=some (.dK (za5 c a l))):zcQ H p (.str "cells") (some (.ref c)):=by have:=zcQ.k (k:=(Sum.inr "cells" : Key)) h;rw[zvm] at this;exact this
def zsd (h:H p=some (.dK (za5 c a l))):zcQ H p (.str "at") (some (.int a)):=by have:=zcQ.k (k:=(Sum.inr "at" : Key)) h;rw[zmn] at this;exact this
def zkm (h:H p=some (.dK (za5 c a l))):zcQ H p (.str "left") (some (.int l)):=by have:=zcQ.k (k:=(Sum.inr "left" : Key)) h;rw[zvn] at this;exact this
def zsh (h:H p=some (.dK (za5 c a l)))(b:Int):zcT H p (.str "at") (.int b) (upd H p (.dK (za5 c b l))):=by have:=zcT.k (k:=(Sum.inr "at" : Key)) (v:=.int b) h (by show 3<sizeLine;decide);rw[zsf] at this;exact this
def znx (h:H p=some (.dK (za5 c a l)))(b:Int):zcT H p (.str "left") (.int b) (upd H p (.dK (za5 c a b))):=by have:=zcT.k (k:=(Sum.inr "left" : Key)) (v:=.int b) h (by show 3<sizeLine;decide);rw[zsg] at this;exact this
end
def zqJ (ns:List Int)(a:Int)(h:0<((ns.map V.int).length:Int)):∃z,atI (ns.map V.int) (a % ((ns.map V.int).length:Int))=some (.int z):=by
 have q:=cH a (show ((ns.map V.int).length:Int)≠0 by lia);have h1:=cb a h;generalize D:a % ((ns.map V.int).length:Int)=m at q h1;obtain⟨j,rfl⟩:∃j:Nat,m=j:=⟨m.toNat,by lia⟩;have B:j<ns.length:=by rw[ab] at h1;lia
 exact⟨ns[j],znW (by simp[B])⟩
def zmT {a:Int}{n:Nat}(q:0<=a)(h1:a<=n)(h2:n<=1000000):0<=60013 * a * a/\60013 * a * a<=60013000000000000:=by have e:60013 * a * a=60013 * (a * a):=Int.mul_assoc _ _ _;have B:0<=a * a:=Int.mul_nonneg q q;have D:a * a<=1000000 * 1000000:=c6 (by lia) (by lia) q (by lia);rw[e];lia
def meet {α:Type}{G:Prop}(P:α->Prop)(h:(∀a,P a)->G)(r:∀a,P a):G:=h r
def zu7 {G:Prop}(P:Prop)(h:P->G)(r:P):G:=h r
def zkO:Sp:=λvs H Q _=>∃ (p c:Addr) (ns:List Int) (n:Nat) (yV:Int),vs=[.ref p,.int yV]/\Pen H p c ns n/\n<=1000000/\1<=yV/\yV<1073741824/\
 ∀ (r:Int) (H':Hp),0<=r->r<yV->Pen H' p c ns (n+1)->zB H H'->Q (.int r) H'
def zmS (K:PySem.W.Frag):Sp:=λvs H Q _=>∃ (a:Addr) (ns:List Int),vs=[.ref a]/\SqL K H a (ns.map V.int)/\ns.length<=63/\∀ (p c:Addr) (H':Hp),Pen H' p c ns 0->xh H H'->Q (.ref p) H'
def yu (ns:List Int):Int:=ns.foldl (· * ·) 1
def xN (ns:List Int)(n:Int):yu (ns++[n])=yu ns * n:=by unfold yu;rw[List.foldl_append];rfl
def zh{α:Type}{l:List α}{x:α}(h:l[i]?=some x):l.take (i+1)=l.take i++[x]:=by rw[List.take_succ,h];rfl
def Dt.inBox:Dt->Bool
 | .int i=>decide (2<=i)&&decide (i<=4)
 | _=>false
def Dt.val:Dt->Int
 | .int i=>i
 | _=>0
def uJ:∀ (ns:List Int),(ns.map Dt.int).map Dt.val=ns
 | []=>rfl
 | n::ns=>by simp only[aC,uJ ns];rfl
def zkP (K:PySem.W.Frag):Sp:=λvs H Q _=>∃ (a:Addr) (ns:List Int),vs=[.ref a]/\SqL K H a (ns.map V.int)/\ns.length<=63/\∀H',Q (.bl true) H'
def zns {g:TG}{x:V}{σ:St}{H:Hp}{A B:St->Hp->Prop}(h:g x σ H A):g x σ H λq H3=>zbl q H3 λD H4=>if D=true then A q H4 else B q H4:=by
 have e:(λq H3=>zbl q H3 λD H4=>if D=true then A q H4 else B q H4)=A:=by funext q H3;show (if true=true then A q H3 else B q H3)=A q H3;rw[if_pos rfl]
 rw[e];exact h
section
variable {prog:Program}{w:World}{A:Around}{E:Value->Shared->Prop}{s:Shared}
def uq{items}(q:s.heap.IsTupleIter B t i)(L:s.heap.IsTuple t items)(O:items[i]?=some x)(U:∀h',h'.IsTupleIter B t (i+1)->Heap.SameBut B s.heap h'->Q x { s with heap:=h' }):wpAny (model prog w) A (Builtin.SmallTypes.nextOf (.ref B)) Q E s:=by
 obtain⟨o,F,Y,D⟩:=id q;obtain⟨Z,I,_,nl,J⟩:=L;unfold Builtin.SmallTypes.nextOf
 refine aa (wpAny_callSpecial?_slot (name:=Str.ofString "__next__") q.typeIs cw
  (aR cw q.typeIs eD ?_ (ei _)))
 show wpAny _ _ (field (.ref B) 0 >>= _) _ _ s;refine aa (bA F D (x:=.ref t) rfl ?_);show wpAny _ _ (if (Value.ref t==Value.none)=true then _ else _) _ _ s;rw[if_neg (by grind)];show wpAny _ _ (field (.ref B) 1 >>= _) _ _ s;refine aa (bA F D (x:=.int i 0) rfl ?_);show wpAny _ _ (seqItems? (.ref t) >>= _) _ _ s;refine aa (ck I J ?_);simp only[aO,O];refine aa (bD F D (by simp) (ae ⟨x,rfl,ae (U _ ?_ (br ..))⟩))
 exact⟨_,bi _ F (cT (bU D _)),(dH ..).trans Y,by
  rw[bU D];simp[rawInt]⟩
def zbL{items}(L:A.handled=none)(q:s.heap.IsTupleIter B t i)(O:s.heap.IsTuple t items)(U:items[i]?=none)(Y:∀h' e,Heap.ExtBut B s.heap h'->(∃o,h'.get? e=some o/\o.cls = .type "StopIteration")->E (.ref e) { s with heap:=h' }):wpAny (model prog w) A (Builtin.SmallTypes.nextOf (.ref B)) Q E s:=by
 obtain⟨o,D,Z,F⟩:=id q;obtain⟨ol,I,_,nl,J⟩:=O;unfold Builtin.SmallTypes.nextOf
 refine aa (wpAny_callSpecial?_slot (name:=Str.ofString "__next__") q.typeIs cw
  (aR cw q.typeIs eD ?_ (ei _)))
 show wpAny _ _ (field (.ref B) 0 >>= _) _ _ s;refine aa (bA D F (x:=.ref t) rfl ?_);show wpAny _ _ (if (Value.ref t==Value.none)=true then _ else _) _ _ s;rw[if_neg (by grind)];show wpAny _ _ (field (.ref B) 1 >>= _) _ _ s;refine aa (bA D F (x:=.int i 0) rfl ?_);show wpAny _ _ (seqItems? (.ref t) >>= _) _ _ s;refine aa (ck I J ?_);simp only[aO,U];refine aa (dG (aa (bD D F (by simp) ?_)));show wpAny _ _ (newExc (.type "StopIteration") [] >>= _) _ _ _;refine aa ?_;simp only[newExc,newTuple];refine aa (bf ?_ (by size_fits));refine aa (m:=firstArgMember _ _) (fm (a:=Value.none) (by first | rfl | (simp only[firstArgMember];rfl)) ?_);refine bf ?_ (by size_fits);simp only[raiseNew];refine aa (fq ?_)
 first | rw[show A.in1.handled=none from L] | rw[L]
 refine aa (ae (wpAny_throw ?_));exact Y _ _ (((br ..).extBut.push _).push _) ⟨_,aq _ rfl,rfl⟩
end
mutual
def Dt.toW:Dt->PySem.W.Dat
 | .non=>.none
 | .bl b=>.bool b
 | .int i=>.int i
 | .str x=>.str x
 | .tup l=>.tuple (Dt.toWs l)
 | .lst l=>.list (Dt.toWs l)
 | .dct=>.bytes #[]
def Dt.toWs:List Dt->List PySem.W.Dat
 | []=>[]
 | d::ds=>d.toW::Dt.toWs ds
end
mutual
def zeB:∀ {d e:Dt},d.toW=e.toW->d=e
 | .non,e,h=>by cases e <;> simp[Dt.toW] at h ⊢
 | .bl b,e,h=>by cases e <;> simp[Dt.toW] at h ⊢;exact h
 | .int b,e,h=>by cases e <;> simp[Dt.toW] at h ⊢;exact h
 | .str b,e,h=>by cases e <;> simp[Dt.toW] at h ⊢;exact h
 | .tup l,e,h=>by
  cases e with
  | tup m=>simp only[Dt.toW,PySem.W.Dat.tuple.injEq] at h;rw[zeC h]
  | _=>simp[Dt.toW] at h
 | .lst l,e,h=>by
  cases e with
  | lst m=>simp only[Dt.toW,PySem.W.Dat.list.injEq] at h;rw[zeC h]
  | _=>simp[Dt.toW] at h
 | .dct,e,h=>by cases e <;> simp[Dt.toW] at h ⊢
def zeC:∀ {l m:List Dt},Dt.toWs l=Dt.toWs m->l=m
 | [],m,h=>by cases m <;> simp[Dt.toWs] at h ⊢
 | d::l,m,h=>by
  cases m with
  | nil=>simp[Dt.toWs] at h
  | cons e m=>
   simp only[Dt.toWs,List.cons.injEq] at h;rw[zeB h.1,zeC h.2]
end
def Dt.eqOk (d:Dt):Prop:=PySem.W.kqdOk 8 d.toW=true
section
variable {P:Program}{w:World}{H:Hp}{h:Heap}
mutual
def uC (ok:HOk P w H h):∀ (n:Nat) {d:Dt} {v:V} {u:Value},Is H d v->yG v u->PySem.W.kqdOk n d.toW=true->∃as,Reads h u (PySem.W.kqdP d.toW) as
 | _,.non,_,_,h1,r,_=>by cases h1;cases r;exact⟨_,Reads.none⟩
 | n,.bl b,_,_,_,_,k=>by cases n <;> simp[Dt.toW,PySem.W.kqdOk] at k
 | _,.int i,_,_,h1,r,_=>by cases h1;obtain⟨t,rfl⟩:=r;exact⟨_,Reads.int i t⟩
 | _,.str x,_,_,h1,r,_=>by cases h1;obtain⟨t,rfl⟩:=r;exact⟨_,Reads.str x t⟩
 | 0,.tup l,_,_,_,_,k=>by simp[Dt.toW,PySem.W.kqdOk] at k
 | n+1,.tup l,_,_,h1,r,k=>by obtain⟨a,xs,rfl,ha,hl⟩:=h1;cases r;obtain⟨_,its,rv,o,ho,hc,⟨m,hd⟩,_⟩:=ok a _ ha;obtain⟨as,q⟩:=uD ok n hl rv (by simpa [Dt.toW,PySem.W.kqdOk] using k);exact⟨as,reads_tuple_at ho hc hd (by simpa using q)⟩
 | 0,.lst l,_,_,_,_,k=>by simp[Dt.toW,PySem.W.kqdOk] at k
 | n+1,.lst l,_,_,h1,r,k=>by obtain⟨a,xs,rfl,ha,hl⟩:=h1;cases r;obtain⟨_,its,m,rv,e⟩:=ok a _ ha;obtain⟨as,q⟩:=uD ok n hl rv (by simpa [Dt.toW,PySem.W.kqdOk] using k);exact⟨_,reads_list_at e rfl rfl (by simpa using q)⟩
 | n,.dct,_,_,_,_,k=>by cases n <;> simp[Dt.toW,PySem.W.kqdOk] at k
def uD (ok:HOk P w H h):∀ (n:Nat) {ds:List Dt} {xs:List V} {us:List Value},IsL H ds xs->yb xs us->(∀d∈Dt.toWs ds,PySem.W.kqdOk n d=true)->∃as,ReadsAll h us (PySem.W.kqdPs (Dt.toWs ds)) as
 | _,[],_,_,h1,r,_=>by cases h1;cases r;exact⟨_,ReadsAll.nil⟩
 | n,d::ds,_,_,h1,r,k=>by
  obtain⟨x,xr,rfl,hd,hr⟩:=h1
  cases r with
  | cons rx rr=>
   obtain⟨as,q⟩:=uC ok n hd rx (k _ (by simp[Dt.toWs]));obtain⟨bs,q2⟩:=uD ok n hr rr λe he=>k e (by simp[Dt.toWs,he]);exact⟨_,ReadsAll.cons q q2⟩
end
end
def zcb {d:Dt}(h:d.eqOk):SeqAt.shaped (PySem.W.kqdP d.toW)=true:=by
 have l:=PySem.W.kqd_lay 8 _ h;unfold SeqAt.shaped
 grind
def ztX:R2:=λx y H Q=>∃d e,Is H d x/\Is H e y/\d.eqOk/\e.eqOk/\∀b:Bool,(b=true↔d=e)->Q (.bl b) H
section
variable {X:Cx}
def zoh {d e:Dt}(h1:d.eqOk)(h2:e.eqOk):PyData.eqv (PySem.W.kqdP d.toW) (PySem.W.kqdP e.toW)=true↔d=e:=
 (eE 8 d.toW e.toW 8 h1 h2).trans ⟨zeB,λz=>by rw[z]⟩
def zrT (D:X.A.units+64<cLine):OpR X (compareOp .Eq) ztX:=by intro pins s σ H x y v u Q I F J h;obtain⟨d,e,L,O,B,ke,q⟩:=h;obtain⟨as,U⟩:=uC I.hok 8 L F B;obtain⟨Z,Y⟩:=uC I.hok 8 O J ke;exact eq_dataH U Y (zcb B) (zcb ke) D ⟨.bl _,H,I,rfl,q _ (zoh B ke)⟩
def zr0 (q:X.A.units+64<cLine):OpQ X (compareOp .Eq) ztX:=⟨zrT q⟩
def zsx{to:TE}{t:TA}{apos cpos:Pos}(J:QE X o to)(L:QA X [e] t)(B:attributeBase o "append" X.env (eval o X.env)=eval o X.env:=by rfl)(I:((backTo cpos (starEach [e] X.env)).all (λx=>!x.1)&&(backToKw cpos (keywordEach [] X.env)).all (λx=>x.1.isSome)&&decide (([e]:List Expr).length+([]:List Keyword).length+(if ([]:List Keyword).isEmpty then 0 else 1)<30))=true:=by rfl)(D:(apos.endLine==cpos.line)=true:=by rfl)(hs:starEach [e] X.env=(false,eval e X.env)::starEach [] X.env:=by rfl)(q:(backTo cpos (starEach [] X.env)).any (·.1)=false:=by rfl) :
  QE X (.Call (.Attribute o "append" apos) [e] [] cpos) (tBM X.K "list" zgE to t):=⟨zr7 bV PySem.F.slot_list_append PySem.F.type_list_append zfi J.run L.run B I D hs q⟩
end
def zca {ns:List Int}:(Dt.tup (ns.map .int)).eqOk:=by
 have e:∀ns:List Int,(Dt.toWs (ns.map .int)).all (PySem.W.kqdOk 7)=true:=by
  intro ns
  induction ns with
  | nil=>rfl
  | cons n ns q=>simp only[aC,Dt.toWs,cN,q,el];rfl
 exact e ns
def yV (rm:List Int)(i:Int):Int:=rm.getD i.toNat 0
abbrev zan (q:Int×Int):Dt:=.tup [.int q.1,.int q.2]
structure Giv (rm:List Int)(g:List (Int×Int)):Prop where
 ok:∀q∈g,0<=q.1/\q.1<rm.length/\0<=q.2/\q.2<yV rm q.1
 up:g.Pairwise λa b=>a.1<b.1
def ziC (H H':Hp):Prop:=∀b xs,H b=some (.tup xs)->H' b=some (.tup xs)
def ziC.app {H:Hp}{a:Addr}{xs ys:List V}(h:H a=some (.lst xs)):ziC H (upd H a (.lst ys)):=λb zs e=>by
 by_cases q:b=a
 ·grind
 ·rw[zg q];exact e
mutual
def Dt.noL:Dt->Bool
 | .tup l=>Dt.noLs l
 | .lst _=>false
 | .dct=>false
 | _=>true
def Dt.noLs:List Dt->Bool
 | []=>true
 | d::ds=>d.noL&&Dt.noLs ds
end
mutual
def Is.stayT {H H1:Hp}(a:ziC H H1):∀ {d:Dt} {v:V},d.noL=true->Is H d v->Is H1 d v
 | .non,_,_,h=>h
 | .bl _,_,_,h=>h
 | .int _,_,_,h=>h
 | .str _,_,_,h=>h
 | .tup l,_,n,h=>by obtain⟨p,xs,e,hp,hl⟩:=h;exact⟨p,xs,e,a _ _ hp,IsL.stayT a (by simpa [Dt.noL] using n) hl⟩
 | .lst l,_,n,_=>by simp[Dt.noL] at n
 | .dct,_,n,_=>by simp[Dt.noL] at n
def IsL.stayT {H H1:Hp}(a:ziC H H1):∀ {ds:List Dt} {xs:List V},Dt.noLs ds=true->IsL H ds xs->IsL H1 ds xs
 | [],_,_,h=>h
 | d::ds,_,n,h=>by
  obtain⟨x,r,e,hd,hr⟩:=h;have n':d.noL=true/\Dt.noLs ds=true:=by simpa [Dt.noLs] using n
  exact⟨x,r,e,Is.stayT a n'.1 hd,IsL.stayT a n'.2 hr⟩
end
def Giv.snoc {rm:List Int}{g:List (Int×Int)}{i w:Int}(h:Giv rm g)(B:∀q∈g,q.1<i)(J:0<=i)(h1:i<rm.length)(h2:0<=w)(L:w<yV rm i):Giv rm (g++[(i,w)]):=by
 refine⟨λq D=>?_,List.pairwise_append.mpr ⟨h.up,dq _ _,λa F b I=>?_⟩⟩
 ·rcases aH.mp D with z | z
  ·exact h.ok q z
  ·simp_all
 ·rw[aw.mp I];exact B a F
def Pen.app{ns:List Int}(P:Pen H p c ns n)(q:H fa=some (.lst xs))(B:c≠fa):Pen (upd H fa (.lst ys)) p c ns n:=by
 obtain⟨⟨a,l,h1,h2,D,F⟩,I,J⟩:=P;have L:p≠fa:=λe=>by subst e;rw[q] at h1;cases h1
 exact⟨⟨a,l,by rw[zg L];exact h1,h2,D,F⟩,by rw[zg B];exact I,J⟩
def New (H:Hp)(o:HO)(R:V->Hp->Prop):Prop:=∀ (p:Addr) (H':Hp),H p=none->H' p=some o->xh H H'->R (.ref p) H'
def New.at(h:New H o R)(q:H p=none):R (.ref p) (upd H p o):=h p _ q zk (xh.upd q)
def ztg (t:TA):TE:=λσ H Q=>t σ H λxs H1=>xs.length<=sizeLine/\New H1 (.tup xs) Q
def zta (t:TA):TE:=λσ H Q=>t σ H λxs H1=>xs.length<=sizeLine/\New H1 (.lst xs) Q
section
variable {X:Cx}{es:List Expr}{t:TA}{pos:Pos}
def zpk {x1}(h:PA X es t):PE X (.Tuple es x1 pos) (ztg t):=by intro pins s σ H Q I D;refine wpAny_Tuple_spliced (thn (h pos pins s σ H _ I D) λF B ⟨xs,H1,I1,r,z,q⟩=>⟨by rw[<- r.length];exact z,?_⟩);have J:H1 B.heap.objs.size=none:=I1.hok.fresh (ai _);refine⟨.ref B.heap.objs.size,upd H1 B.heap.objs.size (.tup xs),I1.laid (t':=B.toks) (λb u e=>af _ e) (ai _) ?_,rfl,q.at J⟩;exact⟨z,F,r,⟨_,aq _ rfl,rfl,⟨_,rfl⟩,rfl⟩⟩
def zph (h:PA X es t):PE X (.List es pos) (zta t):=by intro pins s σ H Q I D;refine wpAny_List_spliced (thn (h pos pins s σ H _ I D) λF B ⟨xs,H1,I1,r,z,q⟩=>⟨by rw[<- r.length];exact z,?_⟩);have J:H1 B.heap.objs.size=none:=I1.hok.fresh (ai _);refine⟨.ref B.heap.objs.size,upd H1 B.heap.objs.size (.lst xs),I1.laid (t':=B.toks) (λb u e=>af _ e) (ai _) ?_,rfl,q.at J⟩;exact⟨z,F,0,r,aq _ rfl⟩
def zgD {x1}(h:QA X es t):QE X (.Tuple es x1 pos) (ztg t):=⟨zpk h.run⟩
def zkp (h:QA X es t):QE X (.List es pos) (zta t):=⟨zph h.run⟩
def CallQ.weak(h:CallQ X f r)(k:∀xs H Q,q xs H Q->r xs H Q):CallQ X f q:=⟨λpins s σ H xs B Q I D z=>h.run pins s σ H xs B Q I D (k _ _ _ z)⟩
def OpQ.weak(h:OpQ X f r)(k:∀x y H Q,q x y H Q->r x y H Q):OpQ X f q:=⟨λpins s σ H x y v u Q I B D z=>h.run pins s σ H x y v u Q I B D (k _ _ _ _ z)⟩
def zkw (K:PySem.W.Frag):List V->Hp->VK->Prop:=λxs H Q=>∃p ys,xs=[.ref p]/\(SqL K H p ys\/SqT K H p ys)/\New H (.lst ys) Q
def zgF (K:PySem.W.Frag):List V->Hp->VK->Prop:=λxs H Q=>∃p ys,xs=[.ref p]/\((SqL K H p ys/\New H (.tup ys) Q)\/(SqT K H p ys/\Q (.ref p) H))
def zb3:CallQ X (.type "list") (zkw X.K):=zhV.weak <| by rintro xs H Q ⟨p,ys,e,h,n⟩;exact⟨p,ys,e,h,λl q=>n.at q⟩
def yH:CallQ X (.type "tuple") (zgF X.K):=zfW.weak <| by rintro xs H Q ⟨p,ys,e,h⟩;exact⟨p,ys,e,h.elim (by rintro⟨a,n⟩;exact .inl ⟨a,λl q=>n.at q⟩) .inr⟩
def zpU:R2:=λx y H Q=>∃l b xs zs,x = .ref l/\y = .ref b/\H l=some (.lst xs)/\H b=some (.lst zs)/\xs.length+zs.length<=sizeLine/\New H (.lst (xs++zs)) Q
def zpb:OpQ X (binaryOp .Add) zpU:=zrZ.weak <| by rintro x y H Q ⟨l,b,xs,zs,q,B,h1,h2,z,n⟩;exact⟨l,b,xs,zs,q,B,h1,h2,z,λp D=>n.at D⟩
end
def zqQ (J:It)(g:TG)(ti:TT)(te:TE)(acc:Addr)(Q:VK)(σ:St)(H:Hp):Prop:=∃W:Nat->Nat->St->Hp->Prop,(∃m,W 0 m σ H)/\
 ∀i m q H',W i m q H'->(J.stop i H'/\Q (.ref acc) H')\/(J.go i H'/\∃N:St->Hp->Prop,(∀ B H2,N B H2->∃D,D<m/\W (i+1) D B H2)/\∀x H2,J.yld i H' x H2->zhU g ti te acc N x q H2)
def zkT (wi:TI)(g:TG)(ti:TT)(te:TE)(cix:List (Option Nat)):TE:=λσ H Q=>wi σ H λJ H1=>∀acc,H1 acc=none->zqQ J g ti te acc Q (zaB σ cix) (upd H1 acc (.lst []))
def zhw(q:X.calm=true)(c:CompOk X scope N cix)(hi:QI X tg iter wi)(B:∀C s H ex,QG (zw X scope N C s H ex) tg g)(D:∀C s H ex,QTs (zw X scope N C s H ex) ifs ti)(F:∀C s H ex,QE (zw X scope N C s H ex) elt te)(hs:∀x,foldedSetIterable iter X.env x=pure x:=by intro _;rfl):QE X (.ListComp elt [⟨tg,iter,ifs,0⟩] scope pos) (zkT wi g ti te cix):=zpG q c hi B D F hs
section
variable {K:PySem.W.Frag}{a acc:Addr}{xs:List V}{g:TG}{ti:TT}{te:TE}{σ:St}{H:Hp}{Q:VK}
def ziS (B:H acc=none)(Pv:Nat->St->Hp->Prop)(F:∀H',H' acc=some (.lst [])->xh H H'->Pv 0 σ H')(I:∀i σ H,i<=xs.length->Pv i σ H->SqL K H a xs)
  (hs:∀i x σ H,xs[i]?=some x->Pv i σ H->zhU g ti te acc (Pv (i+1)) x σ H) (J:∀ σ H,Pv xs.length σ H->Q (.ref acc) H):zqQ (Itl K a) g ti te acc Q σ (upd H acc (.lst [])):=by
 refine⟨λi m σ H=>m=xs.length - i/\i<=xs.length/\Pv i σ H,⟨xs.length,by simp,aN _,F _ zk (xh.upd B)⟩,?_⟩;rintro i m σ H ⟨rfl,hi,p⟩;have q:=I i σ H hi p;by_cases D:i<xs.length
 ·refine .inr ⟨⟨xs,xs[i],q,by simp[D]⟩,Pv (i+1),λL H' O=>⟨xs.length - (i+1),by lia,rfl,D,O⟩,λx H' y=>?_⟩;obtain⟨e,y⟩:=y;subst e;exact hs i x σ _ (y xs q) p
 ·have e:i=xs.length:=by lia
  subst e;exact .inl ⟨⟨xs,q,ai _⟩,J σ H p⟩
end
def znb(h:g x σ H λq H3=>te q H3 λv H5=>∃xs,H5 acc=some (.lst xs)/\xs.length<sizeLine/\N q (upd H5 acc (.lst (xs++[v])))):zhU g zbl te acc N x σ H:=zns h
def zmN(h:H acc=none)(s:xh H H1):xh H (upd H1 acc o):=λb u e=>by rw[zg (zc e h)];exact s b u e
def zhG(h:H acc=none)(s:zB H H1):zB H (upd H1 acc o):=λb u e q=>by rw[zg (zc e h)];exact s b u e q
section
variable {X:Cx}(K:PySem.W.Frag)(h:X.K=K)
include h
def zn4:CallQ X (.builtin "len") (λxs H Q=>∃x n,xs=[x]/\zqC K x H n/\Q (.int n) H):=h ▸ yQ
def zmc:OpQ X (binaryOp .Add) (zkv K):=h ▸ zS
end
def zpM {X:Cx}(K:PySem.W.Frag)(B:X.K=K){es:List Expr}{pos:Pos}{k:Nat}{gs:TGs}{n:Nat}(D:X.calm=true)(h:QGs X es gs)(F:(assignEach es X.env).length=n:=by rfl)(q:(assignEach es X.env).findIdx? (·.1)=none:=by rfl):QG X (.Tuple es k pos) (zuB K n gs):=B ▸ zsE D h F q
def zpP(K:PySem.W.Frag)(q:X.K=K)(B:QE X e te):QI X tg e (zuD K te):=q ▸ zsF B
def zhx(K:PySem.W.Frag)(q:X.K=K)(B:QE X e te):QI X tg e (zow K te):=q ▸ zem B
structure Wi where
 g:List (Int×Int)
 b:Int
 r:Int
 w:Int
abbrev yw (x:Wi):Dt:=.tup [.tup (x.g.map zan),.int x.b,.int x.r,.int x.w]
structure WishOk (rm:List Int)(x:Wi):Prop where
 giv:Giv rm x.g
 b0:0<=x.b
 b1:x.b<rm.length
 apart:∀q∈x.g,q.1≠x.b
 r0:0<=x.r
 r1:x.r<yV rm x.b
 w0:0<=x.w
 w1:x.w<yV rm x.b
 ne:x.r≠x.w
section
variable {H H':Hp}{R:Dt->Prop}{xs ys:List V}
end
def zm5 (rm:List Int)(d:Dt):Prop:=∃x,d=yw x/\WishOk rm x
def zlZ (x:Wi):PySem.W.kqdOk 7 (yw x).toW=true:=by
 have e:∀g:List (Int×Int),(Dt.toWs (g.map zan)).all (PySem.W.kqdOk 5)=true:=by
  intro g
  induction g with
  | nil=>rfl
  | cons n ns q=>simp only[aC,Dt.toWs,cN,q,el];rfl
 show ((Dt.toWs (x.g.map zan)).all (PySem.W.kqdOk 5)&&_)=true;rw[e];rfl
def zf4{rm:List Int}(h:∀d∈ds,zm5 rm d):(Dt.tup ds).eqOk/\(Dt.lst ds).eqOk:=by
 have e:∀ds:List Dt,(∀d∈ds,zm5 rm d)->(Dt.toWs ds).all (PySem.W.kqdOk 7)=true:=by
  intro ds
  induction ds with
  | nil=>intro _;rfl
  | cons n ns q=>
   intro h;obtain⟨x,rfl,_⟩:=h n ak;simp only[Dt.toWs,cN,q λd B=>h d (ao _ B),zlZ x,el]
 exact⟨e ds h,e ds h⟩
def zlJ (b:Int)(ns:List Int):inV (.int b) (ns.map V.int)=ns.contains b:=by
 unfold inV
 induction ns with
 | nil=>rfl
 | cons n ns q=>
  rw[aC,cB,q,List.contains_cons];show ((n==b) || _)=((b==n) || _);rw[show (n==b)=(b==n) from BEq.comm]
def zjf (ns:List Int):(ns.map V.int).all zc0=true:=by rw[cy];intro x q;obtain⟨n,_,rfl⟩:=az.mp q;rfl
def zf9 {m:Int}:∀ {g:List (Int×Int)} {lo:Int},(∀q∈g,lo<=q.1/\q.1<m)->(g.Pairwise λa b=>a.1<b.1)->lo<=m->(g.length:Int)<=m - lo
 | [],lo,_,_,h=>by simp;lia
 | q::g,lo,h,F,I=>by
  have h1:=h q ak;have B:=ce.mp F;have J:=zf9 (g:=g) (lo:=q.1+1) (λx D=>⟨by have:=B.1 x D;lia,(h x (ao _ D)).2⟩) B.2 (by lia)
  grind
def zjh {rm:List Int}{g:List (Int×Int)}(h:Giv rm g)(D:rm.length<=8):g.length<=100:=by have:=zf9 (g:=g) (lo:=0) (m:=rm.length) (λq B=>⟨(h.ok q B).1,(h.ok q B).2.1⟩) h.up (by lia);lia
def ziZ (xs:List V)(k:Nat):zcW xs none (some (k:Int))=xs.take k:=by
 have e:HT.sIx xs.length xs.length (some (k:Int))=min k xs.length:=by simp[HT.sIx];try lia
 unfold zcW;rw[e,show HT.sIx xs.length 0 none=0 from rfl,eW,fO]
 grind
def ziY (xs:List V)(k:Nat):zcW xs (some (k:Int)) none=xs.drop k:=by
 have e:HT.sIx xs.length 0 (some (k:Int))=min k xs.length:=by simp[HT.sIx];try lia
 unfold zcW;rw[e,show HT.sIx xs.length xs.length none=xs.length from rfl];by_cases h:k<=xs.length
 ·rw[Nat.min_eq_left h,bY (by simp)]
 ·rw[Nat.min_eq_right (by lia),List.drop_eq_nil_of_le (as:=xs) (i:=xs.length) (by lia),List.drop_eq_nil_of_le (as:=xs) (i:=k) (by lia),List.take_nil]
section
variable {rm:List Int}{g b r w:Dt}
end
end L2
namespace HT
open PySem PySem.Spec PyProof.Rows
section
variable {prog:Program}{w:World}{A:Around}{E:Value->Shared->Prop}{s:Shared}
def zhP (n:Nat):Builtin.Slice.sliceAdjust none none (-1) (n:Int)=((n:Int) - 1,-1):=by unfold Builtin.Slice.sliceAdjust;simp
def zif (n:Nat):Builtin.Slice.slicePlaces ((n:Int) - 1) (-1) (-1)=n:=by
 unfold Builtin.Slice.slicePlaces
 grind
def fm_congr {α q:Type}{f g:α->Option q}:∀ {l:List α},(∀m∈l,f m=g m)->l.filterMap f=l.filterMap g
 | [],_=>rfl
 | a::l,h=>by rw[List.filterMap_cons,List.filterMap_cons,h a List.mem_cons_self,fm_congr λm B=>h m (List.mem_cons_of_mem _ B)]
def pick_rev (xs:Array Value):((List.range xs.size).filterMap λ(m:Nat)=>xs[((xs.size:Int) - 1+(m:Int) * (-1)).toNat]?).toArray=xs.toList.reverse.toArray:=by
 congr 1
 have e:∀m∈List.range xs.size,xs[((xs.size:Int) - 1+(m:Int) * (-1)).toNat]?=some (xs.toList.reverse.getD m .none):=by
  intro m q;have B:=List.mem_range.mp q;have D:((xs.size:Int) - 1+(m:Int) * (-1)).toNat=xs.size - 1 - m:=by lia
  simp_all
 rw[fm_congr e];rw[List.filterMap_eq_map' (f:=λm=>xs.toList.reverse.getD m .none)];refine List.ext_getElem? λi=>?_;rw[List.getElem?_map];by_cases hi:i<xs.size
 all_goals simp_all
def zbO {D:Addr}{t:Tok}{n:Nat}{Q:Int×Int×Nat->Shared->Prop}(hs:s.heap.IsSliceOf D .none .none (.int (-1) t))(h:Q ((n:Int) - 1,-1,n) s):wpAny (model prog w) A (Builtin.Slice.sliceApplied (.ref D) (pure (n:Int))) Q E s:=by obtain⟨I,q,F,B⟩:=id hs;unfold Builtin.Slice.sliceApplied Builtin.Slice.sliceFields;refine wpAny_bind (wpAny_bind (wpAny_field q B (x:=.none) rfl (wpAny_bind (wpAny_field q B (x:=.none) rfl (wpAny_bind (wpAny_field q B (x:=.int (-1) t) rfl (wpAny_pure ?_)))))));refine wpAny_bind (ux (.int (-1) t) ?_);show wpAny _ _ (if ((-1:Int)==0)=true then _ else _) _ _ s;rw[if_neg (by decide)];refine wpAny_bind (ux .none (wpAny_bind (ux .none (wpAny_bind (wpAny_pure ?_)))));show wpAny _ _ (match Builtin.Slice.sliceAdjust none none (-1) (n:Int) with | (lo,hi)=>pure (lo,(-1:Int),Builtin.Slice.slicePlaces lo hi (-1))) _ _ s;rw[zhP n];show wpAny _ _ (pure ((n:Int) - 1,(-1:Int),Builtin.Slice.slicePlaces ((n:Int) - 1) (-1) (-1))) _ _ s;rw[zif];exact wpAny_pure h
def getItem_tuple_rev(B:IsTup s.heap t items)(hs:s.heap.IsSliceOf D .none .none (.int (-1) tk))(h:Q (.ref s.heap.objs.size) { s with heap:=s.heap.push { cls:=.type "tuple",data:=.seq items.toList.reverse.toArray } })(hsz:items.size<=sizeLine):wpAny (model prog w) A (getItem (.ref t) (.ref D)) Q E s:=by
 have q:sizeOk (.seq items.toList.reverse.toArray):=by
  show items.toList.reverse.toArray.size<=sizeLine
  simp_all
 obtain⟨O,F,I,U⟩:=id hs;have J:s.TypeIs (.ref D) "slice" := ⟨O,F,I⟩;unfold getItem;try with_reducible refine wpAny_holding ?_
 first | refine wpAny_bind (wpAny_pure ?_) | skip
 refine wpAny_bind (wpAny_sequenceKey B.typeIs (by decide) ?_)
 refine wpAny_bind (wpAny_callSpecial?_slot (name:=Str.ofString "__getitem__") B.typeIs PyProof.Rows.slot_tuple_getitem
  (wpAny_call_entry PyProof.Rows.slot_tuple_getitem B.typeIs entry_tuple_getitem ?_ (args_tuple_getitem _ _)))
 show wpAny _ _ (Builtin.Tuple.tupleItemsOf (.ref t) >>= _) _ _ s;refine wpAny_bind (tupleItemsOf_ B ?_);refine wpAny_bind (wpAny_typeOf J ?_);rw[if_pos (by decide)];refine wpAny_bind (zbO hs ?_)
 have L:¬ ((((items.size:Int) - 1)==0&&(-1:Int)==1&&items.size==items.size)=true):=by simp_all
 show wpAny _ _ (if (((items.size:Int) - 1)==0&&(-1:Int)==1&&items.size==items.size)=true then _ else _) _ _ s;rw[if_neg L,pick_rev]
 first
  | exact wpAny_bind (m:=Builtin.Tuple.tupleExact _) (wpAny_newObj_type (wpAny_pure ⟨_,rfl,wpAny_pure h⟩) q)
  | exact wpAny_bind (by grind) (by grind)
end
end HT
namespace L2
open PySem PySem.Spec PyProof.Rows
section
variable {X:Cx}{e:Expr}{te:TE}{pos p2 p3 p4:Pos}{j:Nat}
def zbG(r:yb xs q):yb xs.reverse q.reverse:=by
 induction r with
 | nil=>exact .nil
 | cons h _ B=>rw[b5,b5];exact B.append (.cons h .nil)
def ztf (te:TE):TE:=λσ H Q=>te σ H λx H1=>∃a xs,x = .ref a/\H1 a=some (.tup xs)/\New H1 (.tup xs.reverse) Q
def zpj (J:PE X e te):PE X (.Subscript e (.Slice none none (some (.UnaryOp .USub (.Constant (.int 1) j p4) p3)) p2) pos) (ztf te):=by
 intro pins s σ H Q I h;refine fP (thn (J pins s σ H _ I h)  ?_);rintro v L ⟨x,H1,I1,O,U⟩;obtain⟨a,xs,rfl,Y,q⟩:=U;cases O;refine wpAny_Slice ?_;rw[fg];refine ae (ae ?_);rw[evalPart_some];refine thn (zpl (zk2 (X:=X)) (zkl (X:=X)) pins L σ H1 (λz H2=>z = .int (-1)/\H2=H1) I1 ⟨1,rfl,rfl,rfl⟩)  ?_;rintro u B ⟨z,H2,I2,Z,e1,e2⟩;subst e1 e2;obtain⟨tk,rfl⟩:=Z;have I3:Inv X pins σ H2 { B with heap:=B.heap.push { cls:=.type "slice",data:=.fields #[.none,.none,.int (-1) tk] } }:=I2.kept (t':=B.toks) λb ob q=>af _ q;obtain⟨its,r,F,hz⟩:=I3.tuple (.of Y);have D:its.toArray.size=xs.length:=by rw[aV];exact r.length.symm
 show wpAny (model X.prog X.w) X.A (subscriptTail e _ (.ref a) (.ref B.heap.objs.size)) (EP X pins σ Q) X.xe { B with heap:=B.heap.push { cls:=.type "slice",data:=.fields #[.none,.none,.int (-1) tk] } };refine tail_any (ops:=[.ref a,.ref B.heap.objs.size]) F.typeIs PyProof.Rows.slot_tuple_getitem.lookup ?_ (by with_unfolding_all rfl);refine HT.getItem_tuple_rev F (eP ..) ?_ (by rw[D];exact hz);refine⟨.ref _,_,I3.laid (t':=B.toks) (o:=.tup xs.reverse) (λb ob q=>af _ q) (ai _) ?_,rfl,q.at (I3.hok.fresh (ai _))⟩;exact⟨by simp_all,_,zbG r,uU.new _ _⟩
def zpK (q:QE X e te):QE X (.Subscript e (.Slice none none (some (.UnaryOp .USub (.Constant (.int 1) j p4) p3)) p2) pos) (ztf te):=⟨zpj q.run⟩
def zex (xs:Array Value):slicePick xs none none (some (-1))=xs.toList.reverse.toArray:=by
 rw[<- HT.pick_rev];unfold slicePick;congr 1;have q:sliceBounds none none (some (-1)) xs.size=((xs.size:Int) - 1,-1,-1):=by simp[sliceBounds]
 rw[q];unfold sliceRange
 have B:(if (-1:Int) > 0 then (if (xs.size:Int) - 1 < -1 then (-1 - ((xs.size:Int) - 1)+-1 - 1) / -1 else 0) else if (xs.size:Int) - 1 > -1 then ((xs.size:Int) - 1 - -1 - -1 - 1) / - -1 else 0).toNat=xs.size:=by grind
 show List.filterMap (λx=>xs[x]?) (List.map _ (List.range (if (-1:Int) > 0 then (if (xs.size:Int) - 1 < -1 then (-1 - ((xs.size:Int) - 1)+-1 - 1) / -1 else 0) else if (xs.size:Int) - 1 > -1 then ((xs.size:Int) - 1 - -1 - -1 - 1) / - -1 else 0).toNat))=_;rw[B,eM];refine HT.fm_congr λm D=>?_
 grind
def zte (te:TE):TE:=λσ H Q=>te σ H λx H1=>∃a xs,x = .ref a/\H1 a=some (.lst xs)/\New H1 (.lst xs.reverse) Q
def zpi (J:PE X e te):PE X (.Subscript e (.Slice none none (some (.UnaryOp .USub (.Constant (.int 1) j p4) p3)) p2) pos) (zte te):=by intro pins s σ H Q I h;refine fP (thn (J pins s σ H _ I h)  ?_);rintro v L ⟨x,H1,I1,O,U⟩;obtain⟨a,xs,rfl,Y,q⟩:=U;cases O;refine wpAny_Slice ?_;rw[fg];refine ae (ae ?_);rw[evalPart_some];refine thn (zpl (zk2 (X:=X)) (zkl (X:=X)) pins L σ H1 (λz H2=>z = .int (-1)/\H2=H1) I1 ⟨1,rfl,rfl,rfl⟩)  ?_;rintro u B ⟨z,H2,I2,Z,e1,e2⟩;subst e1 e2;obtain⟨tk,rfl⟩:=Z;have I3:Inv X pins σ H2 { B with heap:=B.heap.push { cls:=.type "slice",data:=.fields #[.none,.none,.int (-1) tk] } }:=I2.kept (t':=B.toks) λb ob q=>af _ q;obtain⟨its,r,D,hz⟩:=I3.list (.of Y);have F:=r.length;show wpAny (model X.prog X.w) X.A (subscriptTail e _ (.ref a) (.ref B.heap.objs.size)) (EP X pins σ Q) X.xe { B with heap:=B.heap.push { cls:=.type "slice",data:=.fields #[.none,.none,.int (-1) tk] } };refine tail_any (ops:=[.ref a,.ref B.heap.objs.size]) D.isList.typeIs slot_list_getitem.lookup ?_ (by with_unfolding_all rfl);refine wpAny_getItem_list_slice D.isList (eP ..) .none .none (.int (-1) tk) (by simp) ?_ (by grind);rw[zex];refine⟨.ref _,_,I3.laid (t':=B.toks) (o:=.lst xs.reverse) (λb ob q=>af _ q) (ai _) ?_,rfl,q.at (I3.hok.fresh (ai _))⟩;exact⟨by simp_all,its.reverse,0,zbG r,aq _ rfl⟩
def zpJ (q:QE X e te):QE X (.Subscript e (.Slice none none (some (.UnaryOp .USub (.Constant (.int 1) j p4) p3)) p2) pos) (zte te):=⟨zpi q.run⟩
def zvw:V->V->V->Hp->(Hp->Prop)->Prop:=λo i v H Q=>∃p xs k,o = .ref p/\i = .int k/\H p=some (.lst xs)/\0<=k/\k<xs.length/\Q (upd H p (.lst (xs.set k.toNat v)))
def zpL(ho:QE X o to)(hi:QE X i ti)(ha:∀v,assign (.Subscript o i pos) X.env v=(do
   let ov <- holding [v] (eval o X.env)
   let iv <- holding [v,ov] (eval i X.env)
   standAt pos
   holding [v,ov,iv] (setItem ov iv v)
   release [v,ov,iv] []):=by intro _;rfl):QG X (.Subscript o i pos) (gSub to ti zvw):=
 ⟨zsi ho.run hi.run (by rintro pins s σ H o i v ov iv u Q I ro ri rv ⟨p,xs,k,e1,e2,hp,h0,h1,q⟩;exact zmQ pins s σ H o i v ov iv u Q I ro ri rv ⟨p,xs,k,k.toNat,e1,e2,hp,by unfold ixN;rw[if_pos h0,if_pos h1],q⟩) ha⟩
end
section
variable {X:Cx}
end
def chg (st:List Int)(b w:Int):List Int:=st.take b.toNat++[w]++st.drop (b.toNat+1)
def zn2 (st:List Int){b w:Int}(q:0<=b):zcW (st.map V.int) none (some b)++[.int w]++zcW (st.map V.int) (some (b+1)) none=(chg st b w).map V.int:=by
 obtain⟨j,rfl⟩:∃j:Nat,b=j:=⟨b.toNat,by lia⟩;rw[ziZ,show ((j:Int)+1)=((j+1:Nat):Int) by lia,ziY];unfold chg
 simp_all
def ziP {st:List Int}{b w:Int}(q:0<=b)(h1:b<st.length):(chg st b w).length=st.length:=by
 unfold chg
 grind
def zn3 {st:List Int}{b w c:Int}(B:0<=b)(h1:b<st.length)(D:0<=c):yV (chg st b w) c=if c=b then w else yV st c:=by
 obtain⟨j,rfl⟩:∃j:Nat,b=j:=⟨b.toNat,by lia⟩;obtain⟨k,rfl⟩:∃k:Nat,c=k:=⟨c.toNat,by lia⟩;have F:j<st.length:=by lia
 unfold yV chg;simp only[aO,bq];have q:(st.take j).length=j:=by rw[aQ];lia
 rcases cq k j with h | h | h
 ·rw[if_neg (by lia),b6,a8 (by rw[q];exact h),di h]
 ·simp_all
 ·rw[if_neg (by lia),b6,bg (by rw[q];lia),q];obtain⟨m,rfl⟩:∃m,k=j+1+m:=⟨k - (j+1),by lia⟩;rw[show j+1+m - j=m+1 by lia]
  simp_all
def uZ (st:List Int)(g:List (Int×Int)):Bool:=g.all λq=>decide (yV st q.1=q.2)
def zbc (st:List Int)(x:Wi):Bool:=decide (yV st x.b=x.w)&&uZ st x.g
def hits (B q:List Int)(x:Wi):Bool:=zbc B x&&decide (chg B x.b x.r=q)
def ztj (x:Wi):Wi:={ x with r:=x.w,w:=x.r }
def yj (st:List Int)(j:Nat):yV st (j:Int)=st.getD j 0:=by unfold yV;simp
def zbs {st:List Int}{r b:Int}(B:0<=b)(h1:b<st.length):yV (st++[r]) b=yV st b:=by
 obtain⟨j,rfl⟩:∃j:Nat,b=j:=⟨b.toNat,by lia⟩;have q:j<st.length:=by lia
 rw[yj,yj,bq,bq,a8 q]
def zbr {st:List Int}{r:Int}:yV (st++[r]) (st.length:Int)=r:=by rw[yj,bq,bg (ai _),Nat.sub_self];rfl
def zgp {st:List Int}{i:Nat}{m:Int}(h:st[i]?=some m):yV st (i:Int)=m:=by rw[yj,bq,h];rfl
def uw {rm:List Int}(B:∀r∈rm,2<=r/\r<=4){b:Int}(D:0<=b)(h1:b<rm.length):2<=yV rm b/\yV rm b<=4:=by
 obtain⟨j,rfl⟩:∃j:Nat,b=j:=⟨b.toNat,by lia⟩;have q:j<rm.length:=by lia
 rw[zgp (ah q)]
 simp_all
def zfj:∀st:List Int,Dt.noLs (st.map .int)=true
 | []=>rfl
 | _::st=>by show (true&&Dt.noLs (st.map .int))=true;rw[zfj st];rfl
def zlX (st:List Int):PySem.W.kqdOk 7 (Dt.tup (st.map .int)).toW=true:=by
 have e:∀ns:List Int,(Dt.toWs (ns.map .int)).all (PySem.W.kqdOk 6)=true:=by
  intro ns
  induction ns with
  | nil=>rfl
  | cons n ns q=>simp only[aC,Dt.toWs,cN,q,el];rfl
 exact e st
def zpS{X:Cx}{ifs:List Expr}{scope:Scope}{pos spos:Pos}{wi:TI}{g:TG}{ti:TT}{te:TE}{N:List Str}{nx:Str}(q:X.N.Nodup)(B:X.N[ix]?=some nx)(F:X.env.scope.names.lookup nx=some .local)(O:X.calm=true)(c:CompOk X scope N cix)(hi:QI X tg iter wi)(Y:∀C s H ex,QG (zw X scope N C s H ex) tg g)(Z:∀C s H ex,QTs (zw X scope N C s H ex) ifs ti)(he:∀C s H ex,QE (zw X scope N C s H ex) elt te)(J:swapsWithSole [.Name nx px] (.ListComp elt [⟨tg,iter,ifs,0⟩] scope pos) spos.line X.env=pure true:=by rfl)(hs:∀x,foldedSetIterable iter X.env x=pure x:=by intro _;rfl)(L:(assignEach [.Name nx px] X.env).map (·.2)=[assign (.Name nx px) X.env]:=by rfl):QS X (.Assign [.Name nx px] (.ListComp elt [⟨tg,iter,ifs,0⟩] scope pos) spos) (zfP (zkT wi g ti te cix) (uW ix)):=⟨λpins s σ H D I h=>zdG q B F J L (λ_=>rfl) λU Qp hf=>zfe (Fin:=λacc H=>D.nx (σ.set ix (some (.ref acc))) H) (ut c) O hi.run (zbT λC s H ex=>(Y C s H ex).run) (zbT λC s H ex=>(Z C s H ex).run) (zbT λC s H ex=>(he C s H ex).run) hs I h hf⟩
section
variable {prog:Program}{w:World}{A:Around}{E:Value->Shared->Prop}{s:Shared}
end
section
variable {X:Cx}
end
section
variable {prog:Program}{w:World}{A:Around}{R:Result->Shared->Prop}{s:Shared}
def zbI(I:Nat->Shared->Prop)(turn:∀n s,I n s->wpAny (model prog w) A (pyNext it) (λr s₁=>match r with
   | none=>R (.ok .next) s₁
   | some v=>wpAny (model prog w) A (letOwnedTupleGo target it v) (λ_ s₂=>wpAny (model prog w) A (assign target env v) (λ_ s₃=>
     wpAny (model prog w) A (forIn ifs true λc r=>if r=true then do let ok <- isTrue c env (eval c env);pure (ForInStep.yield ok) else pure (ForInStep.yield r)) (λok s₄=>
      if ok=true then wpAny (model prog w) A (eval elt env) (λx s₅=>
       wpAny (model prog w) A (call (.builtin "list.append") [acc,x]) (λ_ s₆=>∃m,m<n/\I m s₆) (λ_ _=>False) s₅) (λ_ _=>False) s₄
      else ∃m,m<n/\I m s₄) (λ_ _=>False) s₃) (λ_ _=>False) s₂) (λ_ _=>False) s₁) (λ_ _=>False) s)(n:Nat)(h:I n s) :
  codeAny (model prog w) A (.compLoop (.ListComp elt [c1,⟨target,iter,ifs,0⟩] scope pos) 1 it acc env) R s:=by
 refine eQ rfl I (λn s hI=>?_) n h;show wpAny _ A ((compTurn (.ListComp elt [c1,⟨target,iter,ifs,0⟩] scope pos) 1 it acc env).onRaise (λx=>do noteFrame x env;theTreesLotGoes x)) _ _ s;refine fj ?_;unfold compTurn;refine aa (bM (aa (aU (turn n s hI) (λr s₁ h₁=>?_) λ_ _ h'=>h'.elim)))
 cases r with
 | none=>exact ae h₁
 | some v=>
  refine aa (aU h₁ (λ_ s₂ h₂=>?_) λ_ _ h'=>h'.elim);refine aa (aU h₂ (λ_ s₃ h₃=>aa (aU h₃ (λok s₄ h₄=>?_) λ_ _ h'=>h'.elim)) λ_ _ h'=>h'.elim)
  cases ok with
  | false=>exact ae ⟨rfl,h₄⟩
  | true=>
   exact aa (aa (aU h₄ (λx s₅ h₅=>aa (aU h₅ (λ_ s₆ h₆=>ae (ae ⟨rfl,h₆⟩)) λ_ _ h'=>h'.elim)) λ_ _ h'=>h'.elim))
def zav(h1:codeAny (model prog w) A (.compLoop (.ListComp elt [c1,⟨target,iter,ifs,0⟩] scope pos) 1 it acc env) R s)(h2:wpAny (model prog w) A (pyIter it) (λit' s'=>codeAny (model prog w) A (.compLoop (.ListComp elt [c1,⟨target,iter,ifs,0⟩] scope pos) 1 it' acc env) R s') (λ_ _=>False) s) :
  codeAny (model prog w) A (.compStart (.ListComp elt [c1,⟨target,iter,ifs,0⟩] scope pos) 1 it acc env) R s:=by
 refine dr ?_;show wpAny _ A ((compStart (.ListComp elt [c1,⟨target,iter,ifs,0⟩] scope pos) 1 it acc env).onRaise (λx=>do noteFrame x env;standAt theWindowsPlace)) _ _ s;refine fw ?_;unfold compStart;rw[if_neg (by show ¬ ((0 != 0)=true);decide)];refine aa (bm ?_);split
 ·exact ae ⟨rfl,h1⟩
 ·refine aa (dG ?_);refine aa (bM ?_);refine aa (aU h2 (λit' s' h'=>ae ⟨rfl,h'⟩) λ_ _ h'=>h'.elim)
def zba(hf:∀x,foldedSetIterable it2 env x=pure x)(I:Nat->Shared->Prop)(turn:∀n s,I n s->wpAny (model prog w) A (pyNext it) (λr s₁=>match r with
   | none=>R (.ok .next) s₁
   | some v=>wpAny (model prog w) A (letOwnedTupleGo target it v) (λ_ s₂=>wpAny (model prog w) A (assign target env v) (λ_ s₃=>
     wpAny (model prog w) A (forIn ifs true λc r=>if r=true then do let ok <- isTrue c env (eval c env);pure (ForInStep.yield ok) else pure (ForInStep.yield r)) (λok s₄=>
      if ok=true then wpAny (model prog w) A (eval it2 env) (λx s₅=>wpAny (model prog w) A (pyIter x) (λiv s₆=>
       codeAny (model prog w) A (.compStart (.ListComp elt [⟨target,iter,ifs,0⟩,⟨t2,it2,ifs2,0⟩] scope pos) 1 iv acc env) (λr s₇=>match r with
        | .ok _=>∃m,m<n/\I m s₇
        | .error _=>False) s₆) (λ_ _=>False) s₅) (λ_ _=>False) s₄
      else ∃m,m<n/\I m s₄) (λ_ _=>False) s₃) (λ_ _=>False) s₂) (λ_ _=>False) s₁) (λ_ _=>False) s)(n:Nat)(h:I n s) :
  codeAny (model prog w) A (.compLoop (.ListComp elt [⟨target,iter,ifs,0⟩,⟨t2,it2,ifs2,0⟩] scope pos) 0 it acc env) R s:=by
 refine eQ rfl I (λn s hI=>?_) n h;show wpAny _ A ((compTurn (.ListComp elt [⟨target,iter,ifs,0⟩,⟨t2,it2,ifs2,0⟩] scope pos) 0 it acc env).onRaise (λx=>do noteFrame x env;theTreesLotGoes x)) _ _ s;refine fj ?_;unfold compTurn;refine aa (bM (aa (aU (turn n s hI) (λr s₁ h₁=>?_) λ_ _ h'=>h'.elim)))
 cases r with
 | none=>exact ae h₁
 | some v=>
  refine aa (aU h₁ (λ_ s₂ h₂=>?_) λ_ _ h'=>h'.elim);refine aa (aU h₂ (λ_ s₃ h₃=>aa (aU h₃ (λok s₄ h₄=>?_) λ_ _ h'=>h'.elim)) λ_ _ h'=>h'.elim)
  cases ok with
  | false=>exact ae ⟨rfl,h₄⟩
  | true=>
   refine aa (aU h₄ (λx s₅ h₅=>?_) λ_ _ h'=>h'.elim);refine aa (bM ?_);show wpAny _ _ (foldedSetIterable it2 env x >>= _) _ _ _;rw[hf];refine aa (ae ?_);show wpAny _ _ (holding [x] (pyIter x) >>= _) _ _ _;refine aa (be (aU h₅ (λiv s₆ h₆=>?_) λ_ _ h'=>h'.elim));refine aa (wpAny_runOwn (h:=none) ?_);refine dP (show codeAny (model prog w) (A.mark none) _ _ s₆ from h₆) λr s₇ h₇=>?_
   cases r with
   | ok f=>exact ae ⟨rfl,h₇⟩
   | error e=>exact h₇.elim
end
def zjp (J:It)(g:TG)(ti:TT)(te:TE)(acc:Addr)(N:St->Hp->Prop)(σ:St)(H:Hp):Prop:=∃W:Nat->Nat->St->Hp->Prop,(∃m,W 0 m σ H)/\
 ∀i m q H',W i m q H'->(J.stop i H'/\N q H')\/(J.go i H'/\∃N2:St->Hp->Prop,(∀ B H2,N2 B H2->∃D,D<m/\W (i+1) D B H2)/\∀x H2,J.yld i H' x H2->zhU g ti te acc N2 x q H2)
def ziR (g:TG)(ti:TT)(wi2:TI)(g2:TG)(ti2:TT)(te:TE)(acc:Addr)(N:St->Hp->Prop)(x:V)(σ:St)(H:Hp):Prop:=
 g x σ H λq H3=>ti q H3 λB H4=>if B=true then wi2 q H4 λJ2 H5=>zjp J2 g2 ti2 te acc N q H5 else N q H4
def zna (J:It)(g:TG)(ti:TT)(wi2:TI)(g2:TG)(ti2:TT)(te:TE)(acc:Addr)(Q:VK)(σ:St)(H:Hp):Prop:=∃W:Nat->Nat->St->Hp->Prop,(∃m,W 0 m σ H)/\
 ∀i m q H',W i m q H'->(J.stop i H'/\Q (.ref acc) H')\/(J.go i H'/\∃N:St->Hp->Prop,(∀ B H2,N B H2->∃D,D<m/\W (i+1) D B H2)/\∀x H2,J.yld i H' x H2->ziR g ti wi2 g2 ti2 te acc N x q H2)
def znM (wi:TI)(g:TG)(ti:TT)(wi2:TI)(g2:TG)(ti2:TT)(te:TE)(cix:List (Option Nat)):TE:=λσ H Q=>wi σ H λJ H1=>∀acc,H1 acc=none->zna J g ti wi2 g2 ti2 te acc Q (zaB σ cix) (upd H1 acc (.lst []))
section
variable {X:Cx}{Fam:Cx->Prop}{scope:Scope}{N:List Str}{cix:List (Option Nat)}{z:Str}{use:Option (Value->Sem Unit)}{Qp:Value->Shared->Prop}{elt ke ve tg iter tg2 iter2:Expr}{ifs ifs2:List Expr}{pos ipos spos px:Pos}{wi wi2:TI}{g g2:TG}{ti ti2:TT}{te tk tv:TE}{pins:List (Addr×Obj)}{σ:St}{H:Hp}{s:Shared}{Q:VK}{o0:HO}
def zhS (O:Opn X scope cix Fam)(hc:X.calm=true)(hi:PI X tg iter wi)(hg:∀X',Fam X'->PG X' tg g)(ht:∀X',Fam X'->PTs X' ifs ti)(ad:∀X',Fam X'->PI X' tg2 iter2 wi2)(ag:∀X',Fam X'->PG X' tg2 g2)(al:∀X',Fam X'->PTs X' ifs2 ti2)(he:∀X',Fam X'->PE X' elt te)
  (hs:∀x,foldedSetIterable iter X.env x=pure x) (an:∀X',Fam X'->∀x,foldedSetIterable iter2 X'.env x=pure x) (I:Inv X pins σ H s) (h:znM wi g ti wi2 g2 ti2 te cix σ H Q) (U:zt4 X pins σ use Qp Q) :
  wpAny (model X.prog X.w) X.A (comprehension (.ListComp elt [⟨tg,iter,ifs,0⟩,⟨tg2,iter2,ifs2,0⟩] scope pos) scope X.env ipos (newList []) false (eval iter X.env) use) Qp X.xe s:=
 zaD (ob:={ cls:=.type "list",dict:=none,data:=.seq ([]:List Value).toArray }) (o0:=λ_=>.lst []) (Fin:=λacc H=>Q (.ref acc) H)
  (B:=λX' acc P s=>wpAny (model X'.prog X'.w) X'.A (eval iter2 X'.env) (λx s5=>wpAny (model X'.prog X'.w) X'.A (pyIter x) (λiv s6=>codeAny (model X'.prog X'.w) X'.A (.compStart (.ListComp elt [⟨tg,iter,ifs,0⟩,⟨tg2,iter2,ifs2,0⟩] scope pos) 1 iv (.ref acc) X'.env) (λr s7=>match r with | .ok _=>P s7 | .error _=>False) s6) (λ_ _=>False) s5) (λ_ _=>False) s) (tb:=λacc Nx σ H=>wi2 σ H λJ2 H5=>zjp J2 g2 ti2 te acc Nx σ H5)
  O hc rfl hs (λ_ _ _ _ _ h0 h1=>codeAny_compStart_list h0 h1) (λX' L _ _ _ _ I D n h=>zba (an X' L) I D n h) (λs Q h=>bf h) (λ_ _=>⟨aN _,[],0,.nil,aq _ rfl⟩) hi hg ht (λX' L pX wX AX cX xX acc pl s σ H Nx P I q k=>by
  have e9:=ad X' L pl s σ H _ I q;rw[xX] at e9;refine thn e9 λxv s1 h1=>thn h1 λas s2 h2=>?_;obtain⟨it,fp,tn,J,H2,e,I2,T,Y,f2,W,⟨m0,w0⟩,D⟩:=h2;subst e
  have F:=zfg (X:=X') (e:=.ListComp elt [⟨tg,iter,ifs,0⟩,⟨tg2,iter2,ifs2,0⟩] scope pos) (pl:=pl) (R:=λr s7=>match r with | .ok _=>P s7 | .error _=>False) (k:=1) (B:=λP s=>wpAny (model X'.prog X'.w) X'.A (eval elt X'.env) (λx s5=>wpAny (model X'.prog X'.w) X'.A (call (.builtin "list.append") [.ref acc,x]) (λ_ s6=>P s6) (λ_ _=>False) s5) (λ_ _=>False) s) (tb:=λNx σ H=>te σ H λv H'=>∃xs,H' acc=some (.lst xs)/\xs.length<sizeLine/\Nx σ (upd H' acc (.lst (xs++[v]))))
   (λ_ _ I D n h=>zbI I D n h) cX xX T (λhn b Z=>⟨hn b Z,(f2 b Z).2⟩) (ag X' L) (al X' L) (λ_ _ _ _ _ _ I q k=>zgU (he X' L) xX I q k) D (λap H' s' I' q'=>k ap H' s' I' q') I2 Y (λb Z=>(f2 b Z).1) w0
  exact zav F (T.self X'.A 0 _ _ _ Y F)) I h (λJ H1 acc q hn=>q acc hn) U
end
def zmF{X:Cx}{ifs ifs2:List Expr}{scope:Scope}{pos spos:Pos}{wi wi2:TI}{g g2:TG}{ti ti2:TT}{te:TE}{N:List Str}{nx:Str}(q:X.N.Nodup)(B:X.N[ix]?=some nx)(F:X.env.scope.names.lookup nx=some .local)(hc:X.calm=true)(c:CompOk X scope N cix)(hi:QI X tg iter wi)(hg:∀C s H ex,QG (zw X scope N C s H ex) tg g)(ht:∀C s H ex,QTs (zw X scope N C s H ex) ifs ti)(J:∀C s H ex,QI (zw X scope N C s H ex) tg2 iter2 wi2)(L:∀C s H ex,QG (zw X scope N C s H ex) tg2 g2)(O:∀C s H ex,QTs (zw X scope N C s H ex) ifs2 ti2)(he:∀C s H ex,QE (zw X scope N C s H ex) elt te)(Y:swapsWithSole [.Name nx px] (.ListComp elt [⟨tg,iter,ifs,0⟩,⟨tg2,iter2,ifs2,0⟩] scope pos) spos.line X.env=pure true:=by rfl)(hs:∀x,foldedSetIterable iter X.env x=pure x:=by intro _;rfl)(Z:∀C s H ex x,foldedSetIterable iter2 (zw X scope N C s H ex).env x=pure x:=by intro _ _ _ _ _;rfl)(ad:(assignEach [.Name nx px] X.env).map (·.2)=[assign (.Name nx px) X.env]:=by rfl):QS X (.Assign [.Name nx px] (.ListComp elt [⟨tg,iter,ifs,0⟩,⟨tg2,iter2,ifs2,0⟩] scope pos) spos) (zfP (znM wi g ti wi2 g2 ti2 te cix) (uW ix)):=⟨λpins s σ H D I h=>zdG q B F Y ad (λ_=>rfl) λU Qp hf=>zhS (Q:=λv H=>D.nx (σ.set ix (some v)) H) (ut c) hc hi.run (zbT λC s H ex=>(hg C s H ex).run) (zbT λC s H ex=>(ht C s H ex).run) (zbT λC s H ex=>(J C s H ex).run) (zbT λC s H ex=>(L C s H ex).run) (zbT λC s H ex=>(O C s H ex).run) (zbT λC s H ex=>(he C s H ex).run) hs (zbT λC s H ex=>Z C s H ex) I h hf⟩
section
variable {K:PySem.W.Frag}{a acc:Addr}{xs:List V}{g:TG}{ti:TT}{wi2:TI}{g2:TG}{ti2:TT}{te:TE}{σ:St}{H:Hp}{Q:VK}{N:St->Hp->Prop}
def zhT (B:H acc=none)(Pv:Nat->St->Hp->Prop)(F:∀H',H' acc=some (.lst [])->xh H H'->Pv 0 σ H')(I:∀i σ H,i<=xs.length->Pv i σ H->SqL K H a xs)
  (hs:∀i x σ H,xs[i]?=some x->Pv i σ H->ziR g ti wi2 g2 ti2 te acc (Pv (i+1)) x σ H) (J:∀ σ H,Pv xs.length σ H->Q (.ref acc) H):zna (Itl K a) g ti wi2 g2 ti2 te acc Q σ (upd H acc (.lst [])):=by
 refine⟨λi m σ H=>m=xs.length - i/\i<=xs.length/\Pv i σ H,⟨xs.length,by simp,aN _,F _ zk (xh.upd B)⟩,?_⟩;rintro i m σ H ⟨rfl,hi,p⟩;have q:=I i σ H hi p;by_cases D:i<xs.length
 ·refine .inr ⟨⟨xs,xs[i],q,by simp[D]⟩,Pv (i+1),λL H' O=>⟨xs.length - (i+1),by lia,rfl,D,O⟩,λx H' y=>?_⟩;obtain⟨e,y⟩:=y;subst e;exact hs i x σ _ (y xs q) p
 ·have e:i=xs.length:=by lia
  subst e;exact .inl ⟨⟨xs,q,ai _⟩,J σ H p⟩
def zh1 (Pv:Nat->St->Hp->Prop)(D:Pv 0 σ H)(F:∀i σ H,i<=xs.length->Pv i σ H->SqL K H a xs)
  (hs:∀i x σ H,xs[i]?=some x->Pv i σ H->zhU g ti te acc (Pv (i+1)) x σ H) (I:∀ σ H,Pv xs.length σ H->N σ H):zjp (Itl K a) g ti te acc N σ H:=by
 refine⟨λi m σ H=>m=xs.length - i/\i<=xs.length/\Pv i σ H,⟨xs.length,by simp,aN _,D⟩,?_⟩;rintro i m σ H ⟨rfl,hi,p⟩;have q:=F i σ H hi p;by_cases B:i<xs.length
 ·refine .inr ⟨⟨xs,xs[i],q,by simp[B]⟩,Pv (i+1),λJ H' L=>⟨xs.length - (i+1),by lia,rfl,B,L⟩,λx H' y=>?_⟩;obtain⟨e,y⟩:=y;subst e;exact hs i x σ _ (y xs q) p
 ·have e:i=xs.length:=by lia
  subst e;exact .inl ⟨⟨xs,q,ai _⟩,I σ H p⟩
end
section
variable {X:Cx}
def zlt:CallQ X (.type "range") (λxs H Q=>∃n,xs=[.int n]/\New H (.rng 0 n) Q):=⟨by
 intro pins s σ H xs D Q I r h;obtain⟨n,rfl,q⟩:=h;obtain⟨u,rfl,B⟩:=zay r;obtain⟨t,rfl⟩:=B;refine call_range_1 ?_;refine⟨.ref s.heap.objs.size,_,I.laid (t':=s.toks+1+1) (o:=.rng 0 n) (λb ob q=>af _ q) (ai _) ?_,rfl,q.at (I.hok.fresh (ai _))⟩;exact⟨_,_,_,aq _ rfl⟩⟩
def zhz (n:Nat):Builtin.Range.rangeSize 0 (n:Int) 1=n:=by
 unfold Builtin.Range.rangeSize
 grind
def zk7:∀ {xs:List V} {q:List Value},xs.length=q.length->(∀ (i:Nat) x u,xs[i]?=some x->q[i]?=some u->yG x u)->yb xs q
 | [],[],_,_=>.nil
 | [],_::_,h,_=>by simp at h
 | _::_,[],h,_=>by simp at h
 | x::xs,u::q,h,k=>.cons (k 0 x u rfl rfl) (zk7 (by simpa using h) λi y v B D=>k (i+1) y v B D)
def zfV (O:X.calm=true):CallQ X (.type "list") (λxs H Q=>∃ (p:Addr) (n:Nat),xs=[.ref p]/\H p=some (.rng 0 n)/\n<=1000/\New H (.lst ((List.range n).map λi:Nat=>V.int i)) Q):=⟨by
 intro pins s σ H xs us Q I r h;obtain⟨p,n,rfl,U,J,q⟩:=h;obtain⟨u,rfl,Y⟩:=zay r;cases Y;obtain⟨t,u,v,Z⟩:=I.hok p _ U;have F:n<sizeLine:=zcM J;refine call_list_range (a:=0) (b:=n) (c:=1) (n:=n) (I.ok.hd O) Z ?_ ?_ (ay J (by decide)) λh' tk B c' kp hg D=>?_
 ·have e:=zhz n;unfold Builtin.Range.small;rw[e];simp[Builtin.Range.rangeFitsLong];lia
 ·exact zhz n
 ·have hv:yb ((List.range n).map λi:Nat=>V.int i) B.toList:=by
   refine zk7 (by rw[ab,aA,aX,D.1]) λj x u L hu=>?_;rw[am] at L;obtain⟨k,hk,rfl⟩:=aB.mp L;obtain⟨ad,e⟩:=ac.mp hk;have:k=j:=by simpa using e.symm
   subst this;obtain⟨t',rfl⟩:=D.2 k u (by simpa using hu);exact⟨t',by lia⟩
  refine⟨.ref s.heap.objs.size,_,I.laid (t':=tk) (o:=.lst ((List.range n).map λi:Nat=>V.int i)) kp (ai _) ?_,rfl,q.at (I.hok.fresh (ai _))⟩;exact⟨by rw[ab,aA];exact cj F,B.toList,c',hv,by simpa using hg⟩⟩
end
def zj (m:Int):List Int:=(List.range m.toNat).map λi:Nat=>(i:Int)
def xw (q:List (List Int))(B:List Int):List (List Int):=q.flatMap λr=>B.map λw=>r++[w]
def yh (cs:List (List Int)):List (List Int):=cs.foldl xw [[]]
def yW (cs:List (List Int))(c:List Int):yh (cs++[c])=xw (yh cs) c:=by
 unfold yh
 simp_all
def zf1:List Int->Nat->List Int
 | [],_=>[]
 | m::r,k=>zf1 r (k / m.toNat)++[((k % m.toNat:Nat):Int)]
def zkL:List Int->Nat
 | []=>1
 | m::r=>zkL r * m.toNat
def zkz (P m:Nat):List.range (P * m)=(List.range P).flatMap λq=>(List.range m).map λr=>q * m+r:=by
 induction P with
 | zero=>rw[Nat.zero_mul];rfl
 | succ P B=>
  rw[Nat.succ_mul,List.range_add,B,List.range_succ,List.flatMap_append];simp
def zfX (P m:Nat)(f:Nat->List Int):xw ((List.range P).map f) ((List.range m).map λi:Nat=>(i:Int))=(List.range (P * m)).map λk=>f (k / m)++[((k % m:Nat):Int)]:=by
 unfold xw;rw[zkz,List.map_flatMap,List.flatMap_map];congr 1;funext q;rw[au,au];refine de λr D=>?_;have B:=aW.mp D;show f q++[(r:Int)]=f ((q * m+r) / m)++[(((q * m+r) % m:Nat):Int)]
 have F:(q * m+r) / m=q:=by rw[fN,Nat.mul_add_div (by lia),Nat.div_eq_of_lt B];lia
 have I:(q * m+r) % m=r:=by rw[fN,Nat.mul_add_mod,Nat.mod_eq_of_lt B]
 rw[F,I]
def zgT:∀q:List Int,yh (q.reverse.map zj)=(List.range (zkL q)).map (zf1 q)
 | []=>rfl
 | m::r=>by rw[b5,aE];show yh (r.reverse.map zj++[zj m])=_;rw[yW,zgT r];exact zfX (zkL r) m.toNat (zf1 r)
def zcU:List Int->List Int->Prop
 | [],[]=>True
 | m::rm,w::st=>0<=w/\w<m/\zcU rm st
 | _,_=>False
def zcU.snoc:∀ {rm st:List Int} {m w:Int},zcU rm st->0<=w->w<m->zcU (rm++[m]) (st++[w])
 | [],[],_,_,_,q,h1=>⟨q,h1,trivial⟩
 | [],_::_,_,_,h,_,_=>h.elim
 | _::_,[],_,_,h,_,_=>h.elim
 | _::rm,_::st,_,_,h,q,h1=>⟨h.1,h.2.1,zcU.snoc h.2.2 q h1⟩
def zcU.len:∀ {rm st:List Int},zcU rm st->st.length=rm.length
 | [],[],_=>rfl
 | [],_::_,h=>h.elim
 | _::_,[],h=>h.elim
 | _::rm,_::st,h=>by rw[aS,aS,zcU.len h.2.2]
def zdh:∀ {q:List Int} (k:Nat),(∀m∈q,1<=m)->zcU q.reverse (zf1 q k)
 | [],_,_=>trivial
 | m::r,k,h=>by rw[b5];have D:=h m ak;refine zcU.snoc (zdh (k / m.toNat) λx B=>h x (ao _ B)) (by lia) ?_;have:=eo k (show 0<m.toNat by lia);lia
def zbM:Int->List Int->List Int->Int
 | p,m::rm,w::st=>zbM (p * m+w) rm st
 | p,_,_=>p
def zbf:∀ {rm st:List Int} {p m w:Int},st.length=rm.length->zbM p (rm++[m]) (st++[w])=zbM p rm st * m+w
 | [],[],_,_,_,_=>rfl
 | [],_::_,_,_,_,h=>by simp at h
 | _::_,[],_,_,_,h=>by simp at h
 | _::rm,_::st,p,m,w,h=>zbf (rm:=rm) (st:=st) (by simpa using h)
def zfk:∀ {q:List Int} {k:Nat},(∀m∈q,1<=m)->k<zkL q->zbM 0 q.reverse (zf1 q k)=k
 | [],k,_,B=>by
  have:k=0:=by have:k<1:=B;lia
  subst this;rfl
 | m::r,k,h,B=>by
  have J:=h m ak;have D:∀x∈r,1<=x:=λx F=>h x (ao _ F);rw[b5];show zbM 0 (r.reverse++[m]) (zf1 r (k / m.toNat)++[((k % m.toNat:Nat):Int)])=k;rw[zbf (zdh _ D).len,zfk D (Nat.div_lt_of_lt_mul (by rw[fN];exact B))];have e:((m.toNat:Nat):Int)=m:=by lia
  have:=Nat.div_add_mod k m.toNat
  have I:((k / m.toNat:Nat):Int) * m+((k % m.toNat:Nat):Int)=((m.toNat * (k / m.toNat)+k % m.toNat:Nat):Int):=by rw[Int.natCast_add,eF,e,Int.mul_comm]
  rw[I,this]
abbrev stD (st:List Int):Dt:=.tup (st.map .int)
def uF:∀sts:List (List Int),Dt.noLs (sts.map stD)=true
 | []=>rfl
 | st::sts=>by show ((stD st).noL&&Dt.noLs (sts.map stD))=true;rw[uF sts,show (stD st).noL=true from zfj st];rfl
def zgl (sts:List (List Int)):(Dt.lst (sts.map stD)).eqOk:=by
 have e:∀sts:List (List Int),(Dt.toWs (sts.map stD)).all (PySem.W.kqdOk 7)=true:=by
  intro sts
  induction sts with
  | nil=>rfl
  | cons m B q=>simp only[aC,Dt.toWs,cN,q,show PySem.W.kqdOk 7 (stD m).toW=true from zlX m,el]
 exact e sts
def zqE (H:Hp)(xs:List V)(cs:List (List Int)):Prop:=xs.length=cs.length/\∀ (i:Nat) c,cs[i]?=some c->∃a,xs[i]?=some (.ref a)/\H a=some (.lst (c.map V.int))
def zdz (K:PySem.W.Frag):Sp:=λvs H Q _=>∃ (q:Addr) (xs:List V) (cs:List (List Int)),vs=[.ref q]/\H q=some (.lst xs)/\zqE H xs cs/\cs.length<=8/\(∀c∈cs,c.length<=4)/\
 ∀ (a:Addr) (ys:List V) (H':Hp),H a=none->H' a=some (.lst ys)->IsL H' ((yh cs).map stD) ys->xh H H'->Q (.ref a) H'
def zb4 (q:List (List Int))(r B:List Int):xw (q++[r]) B=xw q B++B.map λw=>r++[w]:=by
 unfold xw
 simp_all
def uh (q:List (List Int))(B:List Int):(xw q B).length=q.length * B.length:=by
 unfold xw;rw[List.length_flatMap]
 induction q with
 | nil=>simp
 | cons r q D=>rw[aC,List.sum_cons,D,ab,aS,Nat.succ_mul,Nat.add_comm]
def zdE:∀ (cs:List (List Int)) (q:List Int),q∈yh cs->q.length=cs.length:=by
 intro cs
 have:∀ (n:Nat) (cs:List (List Int)),cs.length=n->∀q,q∈yh cs->q.length=cs.length:=by
  intro n
  induction n with
  | zero=>
   intro cs h q B;have:cs=[]:=bh h;subst this;have:q=[]:=by simpa [yh] using B
   simp_all
  | succ n F=>
   intro cs h q B;have D:cs≠[]:=by intro z;rw[z] at h;simp at h
   rw[<- bj D,yW] at B;unfold xw at B
   grind
 exact this cs.length cs rfl
def znS:∀ (n:Nat) (cs:List (List Int)),cs.length=n->(∀c∈cs,c.length<=4)->(yh cs).length<=4 ^ n:=by
 intro n
 induction n with
 | zero=>
  intro cs h _;have:cs=[]:=bh h;subst this;exact ai _
 | succ n D=>
  intro cs h B;have q:cs≠[]:=by intro z;rw[z] at h;simp at h
  rw[<- bj q,yW,uh,Nat.pow_succ];exact Nat.mul_le_mul (D cs.dropLast (by grind) λc F=>B c ((List.dropLast_sublist cs).subset F)) (B _ (List.getLast_mem q))
def zgS {cs:List (List Int)}(D:cs.length<=8)(q:∀c∈cs,c.length<=4)(k:Nat):(yh (cs.take k)).length<=65536:=by
 refine ay (znS _ (cs.take k) rfl λc B=>q c (bX B)) ?_;have:(cs.take k).length<=8:=by rw[aQ];lia
 exact ay (cE (by decide) this) (by decide)
def zmM (rm:List Int):yh (rm.map zj)=(List.range (zkL rm.reverse)).map (zf1 rm.reverse):=by
 have:=zgT rm.reverse
 simp_all
def yP (m:Int):(zj m).length=m.toNat:=by unfold zj;rw[ab,aA]
section
variable {X:Cx}{o:Expr}{to:TE}{apos cpos:Pos}
end
open PySem PySem.Spec PyProof.Rows PySem.W
inductive Run (ans:Nat->Nat->Bool) (n:Nat):{α:Type}->KasT α->α->Prop
 | ret {α:Type} (a:α):Run ans n (.ret a) a
 | ask {α:Type} {i j:Nat} {k:Bool->KasT α} {a:α} (hi:i<n) (hj:j<n) (h:Run ans n (k (ans i j)) a):Run ans n (.ask i j k) a
def Run.bind{α B:Type}{t:KasT α}{f:α->KasT B}{a:α}{b:B}(h:Run q n t a)(k:Run q n (f a) b):Run q n (t.bind f) b:=by
 induction h with
 | ret a=>exact k
 | ask hi D _ F=>exact .ask hi D (F k)
def Run.wp{q:Nat->Nat->Bool}{α:Type}{t:KasT α}{a:α}(h:Run q n t a){B:Nat->Nat->(Bool->Shared->Prop)->Shared->Prop}{S:Shared->Prop}{Q:α->Shared->Prop}(F:∀i j C s,i<n->j<n->S s->(∀s',S s'->C (q i j) s')->B i j C s)(D:∀s,S s->Q a s):∀s,S s->KasT.kasWp B t Q s:=by
 induction h with
 | ret a=>intro s hs;rw[KasT.kasWp.eq_1];exact D s hs
 | ask hi I _ J=>
  intro s hs;rw[KasT.kasWp.eq_2]
  simp_all
section
variable {n:Nat}{f:Nat->Int}
def zfO (f:Nat->Int)(i j:Nat):Bool:=decide (f i<f j)
def key (f:Nat->Int)(p:Array Nat)(k:Nat):Int:=f (p.getD k 0)
structure Up (n:Nat)(f:Nat->Int)(p:Array Nat)(m:Nat):Prop where
 perm:p.Perm (List.range n).toArray
 le:m<=n
 up:∀k,k+1<m->key f p k<key f p (k+1)
def uu {p:Array Nat}(h:p.Perm (List.range n).toArray):p.size=n:=by have:=h.size_eq;simpa using this
def yz{p:Array Nat}(h:p.Perm (List.range n).toArray)(B:k<n):p.getD k 0<n:=by
 have hs:=uu h
 have q:p.getD k 0∈p:=by simp_all
 have:=(h.mem_iff).mp q;simpa using this
def Up.lt_of(h:Up n f p m):∀ {i j:Nat},i<j->j<m->key f p i<key f p j:=by
 intro i j
 induction j with
 | zero=>intro D;lia
 | succ j F=>
  intro q B;have h1:=h.up j B
  grind
def zfR (p:Array Nat)(q:p.Perm (List.range n).toArray):∀ (g x:Nat),1<=x->x+g<=n->∃m,Run (zfO f) n (kas_asc p g x) m/\x<=m/\m<=x+g/\(∀k,x<=k->k<m->¬ key f p k<key f p (k - 1))/\(m<x+g->key f p m<key f p (m - 1))
 | 0,x,_,_=>⟨x,by rw[kas_asc.eq_1];exact .ret _,ai _,ai _,by grind,λh=>by lia⟩
 | g+1,x,J,L=>by
  rw[kas_asc.eq_2];by_cases B:key f p x<key f p (x - 1)
  ·refine⟨x,.ask (yz q (by lia)) (yz q (by lia)) ?_,ai _,by lia,by grind,λ_=>B⟩;rw[show zfO f (p.getD x 0) (p.getD (x - 1) 0)=true from a9 B,if_pos rfl];exact .ret _
  ·obtain⟨m,h1,h2,O,D,F⟩:=zfR p q g (x+1) (by lia) (by lia);refine⟨m,.ask (yz q (by lia)) (yz q (by lia)) ?_,by lia,by lia,λk U I=>?_,λh=>F (by lia)⟩
   ·rw[show zfO f (p.getD x 0) (p.getD (x - 1) 0)=false from ba B,if_neg aI];exact h1
   ·by_cases e:k=x
    ·subst e;exact B
    ·exact D k (by lia) I
def zb0 (n:Nat)(f:Nat->Int):Prop:=∀i j,i<n->j<n->f i=f j->i=j
def zhi (I:zb0 n f){p:Array Nat}(q:p.Perm (List.range n).toArray){i j:Nat}(hi:i<n)(J:j<n)(B:i≠j):key f p i≠key f p j:=by
 intro e;have F:=I _ _ (yz q hi) (yz q J) e;have hs:=uu q
 have D:p.toList.Nodup:=by
  have:p.toList.Perm (List.range n):=by have:=q.toList;simpa using this
  exact this.nodup_iff.mpr dX
 rw[bW,bW,bI (by lia),bI (by lia)] at F;have L:p.toList[i]'(by simp_all)=p.toList[j]'(by simp_all):=by simpa using F
 exact B ((cg D).mp L)
def zg1 (F:zb0 n f)(p:Array Nat)(q:p.Perm (List.range n).toArray):∀ (g x:Nat),1<=x->x+g<=n->∃m,Run (zfO f) n (kas_desc g p x 0) (p,m,0)/\x<=m/\m<=x+g/\(∀k,x<=k->k<m->key f p k<key f p (k - 1))
 | 0,x,_,_=>⟨x,by rw[kas_desc.eq_1];exact .ret _,ai _,ai _,by grind⟩
 | g+1,x,O,U=>by
  rw[kas_desc.eq_2];by_cases B:key f p x<key f p (x - 1)
  ·obtain⟨m,h1,h2,Y,I⟩:=zg1 F p q g (x+1) (by lia) (by lia);refine⟨m,.ask (yz q (by lia)) (yz q (by lia)) ?_,by lia,by lia,λk Z J=>?_⟩
   ·rw[show zfO f (p.getD x 0) (p.getD (x - 1) 0)=true from a9 B,if_pos rfl,if_neg (by lia)];exact h1
   ·by_cases e:k=x
    ·subst e;exact B
    ·exact I k (by lia) J
  ·have L:=zhi F q (i:=x) (j:=x - 1) (by lia) (by lia) (by lia);have D:key f p (x - 1)<key f p x:=by lia
   refine⟨x,.ask (yz q (by lia)) (yz q (by lia)) ?_,ai _,by lia,by grind⟩;rw[show zfO f (p.getD x 0) (p.getD (x - 1) 0)=false from ba B,if_neg aI];refine .ask (yz q (by lia)) (yz q (by lia)) ?_;rw[show zfO f (p.getD (x - 1) 0) (p.getD x 0)=true from a9 D,if_pos rfl];exact .ret _
def zjK(q:j<=p.size)(k:Nat):key f (kas_rev p 0 j) k=if k<j then key f p (j - 1 - k) else key f p k:=by
 unfold key kas_rev;rw[bW,getElem?_mirror_all q];by_cases h:k<j
 ·simp_all
 ·rw[if_neg (λz=>h z.2),if_neg h,bW]
def zmL(q:p.Perm (List.range n).toArray)(j:Nat):(kas_rev p 0 j).Perm (List.range n).toArray:=(mirror_perm p 0 j _).trans q
def ziU (J:zb0 n f)(hn:2<=n)(p:Array Nat)(B:p.Perm (List.range n).toArray):∃ (m:Nat) (q:Array Nat),Run (zfO f) n (kas_count n p) (m,q)/\1<=m/\Up n f q m:=by
 have hs:=uu B;obtain⟨m,h1,h2,h3,h4,h5⟩:=zfR (f:=f) p B (n - 1) 1 (ai _) (by lia)
 have D:Up n f p m:=⟨B,by lia,λk L=>by have O:=h4 (k+1) (by lia) L;rw[eR] at O;have:=zhi J B (i:=k) (j:=k+1) (by lia) (by lia) (by lia);lia⟩
 unfold kas_count;by_cases ad:m=n
 ·refine⟨m,p,h1.bind ?_,h2,D⟩;rw[if_pos (by simp_all)];exact .ret _
 ·by_cases I:m > 1
  ·refine⟨m,p,h1.bind ?_,h2,D⟩;rw[if_neg (by simp_all),if_pos I];refine .ask (yz B (by lia)) (yz B (by lia)) ?_;have U:key f p 0<key f p (m - 1):=D.lt_of (by lia) (by lia);rw[show zfO f (p.getD 0 0) (p.getD (m - 1) 0)=true from a9 U,if_pos rfl];exact .ret _
  ·have em:m=1:=by lia
   subst em;have Y:=h5 (by lia);obtain⟨d,g1,g2,g3,g4⟩:=zg1 J p B (n - 2) 2 (by lia) (by lia);have F:=zmL B d;obtain⟨m2,a1,a2,a3,a4,_⟩:=zfR (f:=f) (kas_rev p 0 d) F (n - d) d (by lia) (by lia);refine⟨m2,kas_rev p 0 d,h1.bind ?_,by lia,⟨F,by lia,λk L=>?_⟩⟩
   ·rw[if_neg (by simp_all),if_neg I];unfold kas_descPart;refine Run.bind (a:=(p,d,0)) g1 ?_;rw[if_neg (by simp)];unfold kas_tail3;exact Run.bind a1 (.ret _)
   ·by_cases Z:k+1<d
    ·rw[zjK (by lia),zjK (by lia),if_pos (by lia),if_pos Z];have e:d - 1 - k=(d - 1 - (k+1))+1:=by lia
     rw[e];by_cases e0:d - 1 - (k+1)=0
     ·rw[e0];exact Y
     ·have:=g4 (d - 1 - (k+1)+1) (by lia) (by lia)
      simp_all
    ·have O:=a4 (k+1) (by lia) L;rw[eR] at O;have:=zhi J F (i:=k) (j:=k+1) (by lia) (by lia) (by lia);lia
def zcw (p:Array Nat)(B:p.Perm (List.range n).toArray)(k:Nat)(F:k<n):∀ (g l r:Nat),r<=k->l<=r->r - l<=g->(∀i,i<l->¬ key f p k<key f p i)->(∀i,r<=i->i<k->key f p k<key f p i)->
  (∀i j,i<j->j<k->key f p i<key f p j)->
  ∃m,Run (zfO f) n (kas_place p k g l r) m/\m<=k/\(∀i,i<m->¬ key f p k<key f p i)/\(∀i,m<=i->i<k->key f p k<key f p i)
 | 0,l,r,h1,h2,h3,I,J,_=>⟨l,by rw[kas_place.eq_1];exact .ret _,by lia,I,λi hi=>J i (by lia)⟩
 | g+1,l,r,h1,h2,h3,I,J,q=>by
  rw[kas_place.eq_2];by_cases D:l ≥ r
  ·refine⟨l,?_,by lia,I,λi hi=>J i (by lia)⟩;rw[if_pos D];exact .ret _
  ·rw[if_neg D];by_cases L:key f p k<key f p ((l+r) / 2)
   ·obtain⟨m,O,g2,U,Y⟩:=zcw p B k F g l ((l+r) / 2) (by lia) (by lia) (by lia) I (λi hi Z=>by
     by_cases e:i=(l+r) / 2
     ·rw[e];exact L
     ·have:=q ((l+r) / 2) i (by lia) Z;lia) q
    refine⟨m,.ask (yz B F) (yz B (by lia)) ?_,g2,U,Y⟩;rw[show zfO f (p.getD k 0) (p.getD ((l+r) / 2) 0)=true from a9 L,if_pos rfl];exact O
   ·obtain⟨m,O,g2,U,Y⟩:=zcw p B k F g ((l+r) / 2+1) r h1 (by lia) (by lia) (λi hi=>by
     by_cases e:i=(l+r) / 2
     ·rw[e];exact L
     ·have:=q i ((l+r) / 2) (by lia) (by lia);lia) J q
    refine⟨m,.ask (yz B F) (yz B (by lia)) ?_,g2,U,Y⟩;rw[show zfO f (p.getD k 0) (p.getD ((l+r) / 2) 0)=false from ba L,if_neg aI];exact O
def zdm {p:Array Nat}{q d:Nat}(h1:q<p.size)(h2:d<=q)(k:Nat):key f (bubble p q d) k=if k=q - d then key f p q else if q - d<k/\k<=q then key f p (k - 1) else key f p k:=by
 unfold key;simp only[bW];rw[getElem?_bubble h1 d h2]
 grind
def ziK (I:zb0 n f):∀ (g k:Nat) (p:Array Nat),k+g=n->Up n f p k->∃q,Run (zfO f) n (kas_bin g p k) q/\Up n f q n
 | 0,k,p,L,h=>by
  have e:k=n:=by lia
  rw[e] at h;exact⟨p,by rw[kas_bin.eq_1];exact .ret _,h⟩
 | g+1,k,p,L,h=>by
  have hs:=uu h.perm;obtain⟨l,O,r2,U,r4⟩:=zcw (f:=f) p h.perm k (by lia) k 0 k (ai _) (aN _) (by lia) (λi hi=>by lia) (λi h1 h2=>by lia) (λi j B Y=>h.lt_of B Y)
  have D:Up n f (bubble p k (k - l)) (k+1):=by
   refine⟨(bubble_perm p k (k - l)).trans h.perm,by lia,λi hi=>?_⟩;rw[zdm (by lia) (by lia),zdm (by lia) (by lia)];have F:k - (k - l)=l:=by lia
   rw[F];by_cases Z:i=l
   ·grind
   ·rw[if_neg Z];by_cases e2:l<i
    ·rw[if_pos (by lia),if_neg (by lia),if_pos (by lia),eR];exact h.lt_of (by lia) (by lia)
    ·rw[if_neg (by lia)];by_cases J:i+1=l
     ·rw[if_pos J];have h1:=U i (by lia);have h2:=zhi I h.perm (i:=i) (j:=k) (by lia) (by lia) (by lia);lia
     ·rw[if_neg J,if_neg (by lia)];exact h.lt_of (by lia) (by lia)
  obtain⟨q,q1,q2⟩:=ziK I g (k+1) (bubble p k (k - l)) (by lia) D;refine⟨q,?_,q2⟩;rw[kas_bin.eq_2];exact Run.bind O q1
def zhE (B:zb0 n f)(F:2<=n):∃q,Run (zfO f) n (kas_sort n) q/\Up n f q n:=by
 obtain⟨m,p,h1,h2,D⟩:=ziU B F (List.range n).toArray (Array.Perm.refl _);unfold kas_sort;by_cases I:m<n
 ·obtain⟨q,L,J⟩:=ziK B (n - m) m p (by lia) D;refine⟨q,Run.bind h1 ?_,J⟩
  grind
 ·have e:m=n:=by have:=D.le;lia
  refine⟨p,Run.bind h1 ?_,by lia⟩;rw[if_neg I];exact .ret _
end
open PySem PySem.Spec PyProof.Rows
def zd3 {prog:Program}{w:World}{A:Around}{s:Shared}{b:Bool}{Q:Bool->Shared->Prop}:∀ {ns B:List Int} {xs ys:List Value} (i:Nat),yb (ns.map V.int) xs->yb (B.map V.int) ys->ns.length=B.length->Q (HT.lexLt ns B) s->W.KatLex prog w A b false Q (xs.zip ys) i s
 | [],[],_,_,i,F,I,_,q=>by cases F;cases I;exact W.kat_nil q
 | [],_::_,_,_,_,_,_,h,_=>by simp at h
 | _::_,[],_,_,_,_,_,h,_=>by simp at h
 | a::ns,c::B,_,_,i,F,I,O,q=>by
  cases F with
  | cons U J=>
   cases I with
   | cons Y L=>
    obtain⟨t,rfl⟩:=U;obtain⟨u,rfl⟩:=Y;rw[List.zip_cons_cons];have D:Q (if a=c then HT.lexLt ns B else decide (a<c)) s:=q;refine W.kat_cons (wpAny_eqBool_int ?_);by_cases e:a=c
    ·rw[show (a==c)=true from by lia];rw[if_pos e] at D;exact W.kat_yes (zd3 (i+1) J L (by simpa using O) D)
    ·rw[show (a==c)=false from beq_false_of_ne e];rw[if_neg e] at D;refine W.kat_no ?_
     cases (b&&i==0) with
     | true=>exact oneLt_int D
     | false=>exact W.kat_one _ _ (P.lt_int D)
def y6:∀s:List Int,HT.lexLt s s=false
 | []=>rfl
 | a::s=>by show (if a=a then HT.lexLt s s else _)=false;rw[if_pos rfl];exact y6 s
def zaM:∀ {a b c:List Int},a.length=b.length->b.length=c.length->HT.lexLt a b=true->HT.lexLt b c=true->HT.lexLt a c=true
 | [],[],[],_,_,h,_=>h
 | x::a,y::b,z::c,h1,h2,I,J=>by
  have q:(if x=y then HT.lexLt a b else decide (x<y))=true:=I;have B:(if y=z then HT.lexLt b c else decide (y<z))=true:=J;show (if x=z then HT.lexLt a c else decide (x<z))=true;by_cases D:x=y
  ·by_cases F:y=z
   ·rw[if_pos D] at q;rw[if_pos F] at B;rw[if_pos (D.trans F)];exact zaM (by simpa using h1) (by simpa using h2) q B
   ·grind
  ·grind
 | [],_::_,_,h,_,_,_=>by simp at h
 | _::_,[],_,h,_,_,_=>by simp at h
 | [],[],_::_,_,h,_,_=>by simp at h
 | _::_,_::_,[],_,h,_,_=>by simp at h
def u4:∀ {a b:List Int},a.length=b.length->a=b\/HT.lexLt a b=true\/HT.lexLt b a=true
 | [],[],_=>.inl rfl
 | [],_::_,h=>by simp at h
 | _::_,[],h=>by simp at h
 | x::a,y::b,h=>by
  show _\/(if x=y then HT.lexLt a b else decide (x<y))=true\/(if y=x then HT.lexLt b a else decide (y<x))=true;by_cases e:x=y
  ·subst e;rw[if_pos rfl,if_pos rfl];rcases u4 (a:=a) (b:=b) (by simpa using h) with h1 | h1 | h1
   all_goals simp_all
  ·rw[if_neg e,if_neg (Ne.symm e)];rcases Int.lt_or_gt_of_ne e with h1 | h1
   all_goals simp_all
def zgZ {α:Type}{p q:α->Bool}:∀ {l:List α},(∀x∈l,p x=true->q x=true)->(∃x∈l,p x=false/\q x=true)->l.countP p<l.countP q
 | [],_,h=>by simp_all
 | y::l,h,k=>by
  have I:l.countP p<=l.countP q:=List.countP_mono_left λx B D=>h x (ao _ B) D;rw[List.countP_cons,List.countP_cons];obtain⟨x,B,D,F⟩:=k;rcases aG.mp B with rfl | B
  ·rw[D,F];simp;lia
  ·have L:=zgZ (l:=l) (λz J=>h z (ao _ J)) ⟨x,B,D,F⟩
   grind
def zcm (sts:List (List Int))(i:Nat):Int:=(sts.countP λc=>HT.lexLt c (sts.getD i [])  : Nat)
def xz{sts:List (List Int)}(q:∀st∈sts,st.length=m)(hi:i<sts.length)(F:j<sts.length):decide (zcm sts i<zcm sts j)=HT.lexLt (sts.getD i []) (sts.getD j []):=by
 have I:sts.getD i []∈sts:=by rw[bq,ah hi];exact bO hi
 have J:sts.getD j []∈sts:=by rw[bq,ah F];exact bO F
 have L:∀ {a b:List Int},a∈sts->b∈sts->HT.lexLt a b=true->(sts.countP λc=>HT.lexLt c a)<(sts.countP λc=>HT.lexLt c b):=λ{a b} D O B=>
  zgZ (λx U Y=>zaM ((q x U).trans (q a D).symm) ((q a D).trans (q b O).symm) Y B) ⟨a,D,y6 a,B⟩
 unfold zcm;generalize sts.getD i []=a at I;generalize sts.getD j []=b at J;rcases u4 (a:=a) (b:=b) ((q a I).trans (q b J).symm) with h | h | h
 ·subst h;rw[y6]
  simp_all
 all_goals grind
def zaX (h:Heap)(L:Addr):List (Addr×Obj):=(List.range h.objs.size).filterMap λb=>if b=L then none else (h.get? b).map λo=>(b,o)
def zW:(b,o)∈zaX h L↔b≠L/\h.get? b=some o:=by
 unfold zaX;rw[cQ];constructor
 ·rintro⟨c,D,e⟩;by_cases q:c=L
  ·simp_all
  ·rw[if_neg q] at e;obtain⟨o',B,F⟩:=aB.mp e
   grind
 ·rintro⟨q,B⟩;exact⟨b,aW.mpr (ax B),by simp_all⟩
def zrN {h:Heap}{L:Addr}{m q:Str->Option Value}(a:h.Ns L m)(b:h.Ns L q):m=q:=by
 obtain⟨o,es,O,U,Y,Z,hf⟩:=a;obtain⟨o',es',B,D,F,I,J⟩:=b
 grind
section
variable {X:Cx}
def zaQ(x:yp P w H h a o):∃u,h.get? a=some u:=by
 cases o with
 | lst xs=>obtain⟨_,_,_,_,e⟩:=x;exact⟨_,e⟩
 | tup xs=>obtain⟨_,_,_,p⟩:=x;obtain⟨o,e,_⟩:=p;exact⟨o,e⟩
 | dK kvs=>obtain⟨_,_,_,_,o,_,_,e,_⟩:=x;exact⟨_,e⟩
 | dT kvs=>obtain⟨_,_,_,_,o,_,_,e,_⟩:=x;exact⟨_,e⟩
 | set S n=>obtain⟨o,_,_,_,e,_⟩:=x;exact⟨_,e⟩
 | ins C dx fs=>obtain⟨_,_,_,e,_⟩:=x;exact⟨_,e⟩
 | own y=>exact x
 | xd fs=>obtain⟨_,⟨_,_,_,e,_⟩,_⟩:=x;exact⟨_,e⟩
 | met f y=>exact⟨_,x⟩
 | rng lo hi=>obtain⟨_,_,_,e⟩:=x;exact⟨_,e⟩
 | frz o u=>obtain⟨e,_⟩:=x;exact⟨_,e⟩
 | tbl ps=>exact⟨_,x⟩
 | ext q=>obtain⟨_,e,_⟩:=x;exact e
def zdX{pins:List (Addr×Obj)}{σ:St}{H:Hp}{s:Shared}(I:Inv X pins σ H s)(hm:s.heap.Ns X.env.locals m){h':Heap}{D:Addr}{ys:List V}{its:List Value}(U:∀b o,b≠X.env.locals->s.heap.get? b=some o->h'.get? b=some o)(J:h'.Ns X.env.locals m)(Y:s.heap.get? D=none)(L:H D=none)(ho:h'.get? D=some { cls:=.type "list",data:=.seq its.toArray c })(hv:yb ys its)(hz:ys.length<=sizeLine)(tk:Nat):Inv X pins σ (upd H D (.lst ys)) { s with heap:=h',toks:=tk }:=by
 have nD:∀b o,s.heap.get? b=some o->b≠D:=λb o e z=>by rw[z,Y] at e;cases e
 have nL:∀b u,H b=some u->b≠X.env.locals:=λb u e=>zc e I.free;refine Inv.step (ch:=[]) (g':=s.gens) (d':=s.drawn) (t':=tk) I (λb F=>by simp at F) (λb o h1 _ _ B _=>U b o h1 B) (λb o h1 _ _ B _=>⟨o.slots,U b o h1 B⟩) (λb o _ B h5=>by rw[zg (nD b o B)];exact h5) (λb o _ B=>?_) (λb ys q=>by rw[zg (zc q L)];exact q) (λb o u q=>by rw[zg (zc q L)];exact q) (λb ps q=>⟨#[],by rw[zg (zc q L),du];exact q⟩) (λm' Z=>by rw[<- zrN hm Z];exact J) (λb u F=>?_) I.bare
 ·by_cases hL:b=X.env.locals
  ·obtain⟨o',_,_,h1,_⟩:=J
   simp_all
  ·exact⟨o,U b o hL B⟩
 ·by_cases O:b=D
  ·subst O;rw[zk] at F;cases F;exact⟨hz,its,c,hv,ho⟩
  ·rw[zg O] at F;refine (I.hok b u F).stay (λc v ad q=>U c v ?_ q) (λc q=>by rw[zg (zc q L)];exact q) (λc ys q=>by rw[zg (zc q L)];exact q)
   grind
def zgG {pins:List (Addr×Obj)}{σ:St}{H:Hp}{s:Shared}(I:Inv X pins σ H s):∀ {sts:List (List Int)} {vs:List V} {its:List Value},IsL H (sts.map stD) vs->yb vs its->∀ {i:Nat},i<sts.length->∃ (a:Addr) (items:List Value),vs.getD i .non = .ref a/\its.getD i .none = .ref a/\IsTup s.heap a items.toArray/\yb ((sts.getD i []).map V.int) items/\a≠X.env.locals
 | [],_,_,_,_,i,hi=>by simp at hi
 | st::sts,_,_,h,D,i,hi=>by
  obtain⟨x,r,rfl,⟨a,xs,rfl,B,q⟩,F⟩:=h;obtain rfl:=q.of_ints
  cases D with
  | cons J L=>
   cases J
   cases i with
   | zero=>
    obtain⟨items,O,U,_⟩:=I.tuple (.of B);exact⟨a,items,rfl,rfl,U,O,zc B I.free⟩
   | succ i=>
    obtain⟨Y,items,Z,e2,e3,e4,e5⟩:=zgG I (sts:=sts) F L (i:=i) (by simpa using hi);exact⟨Y,items,by simpa using Z,by simpa using e2,e3,by simpa using e4,e5⟩
def zkW {pins:List (Addr×Obj)}{σ:St}{H:Hp}{s:Shared}(I:Inv X pins σ H s){h':Heap}(J:∀b o,b≠X.env.locals->s.heap.get? b=some o->h'.get? b=some o):∀ {sts:List (List Int)} {vs:List V} {its:List Value},IsL H (sts.map stD) vs->yb vs its->(∀st∈sts,1<=st.length)->∃fs,W.KatTups h' its fs/\fs.length=sts.length/\∀f∈fs,∃a t,f = .int a t
 | [],_,_,h,q,_=>by cases h;cases q;exact⟨[],trivial,rfl,λ_ h=>by simp at h⟩
 | st::sts,_,_,h,q,h1=>by
  obtain⟨x,r,rfl,⟨a,xs,rfl,L,B⟩,U⟩:=h;obtain rfl:=B.of_ints
  cases q with
  | cons Y Z=>
   cases Y;obtain⟨items,D,pt,_⟩:=I.tuple (.of L);obtain⟨o,ho,hc,n,hd⟩:=pt;obtain⟨fs,f1,f2,f3⟩:=zkW I J (sts:=sts) U Z λz hz=>h1 z (ao _ hz);have F:=h1 st ak
   match st,D,F with
   | z::zs,D,_=>
    cases D with
    | cons q1 qq=>
     obtain⟨t,rfl⟩:=q1;refine⟨_::fs,⟨⟨a,o,_,n,rfl,J a o (zc L I.free) ho,hc,hd,rfl⟩,f1⟩,by simp_all,λf O=>?_⟩;rcases aG.mp O with rfl | O
     all_goals simp_all
def zsK:List V->Hp->VK->Prop:=λxs H Q=>∃ (l:Addr) (vs:List V) (sts:List (List Int)) (m:Nat),xs=[.ref l]/\H l=some (.lst vs)/\IsL H (sts.map stD) vs/\2<=sts.length/\sts.length<64/\1<=m/\(∀st∈sts,st.length=m)/\sts.Nodup/\
 ∀ (ys:List V) (q:List (List Int)),IsL H (q.map stD) ys->q.Perm sts->(q.Pairwise λa b=>HT.lexLt a b=true)->New H (.lst ys) Q
def zg9 {H:Hp}{sts:List (List Int)}{vs:List V}(h:IsL H (sts.map stD) vs):∀ {p:List Nat},(∀i∈p,i<sts.length)->IsL H ((p.map λi=>sts.getD i []).map stD) (p.map λi=>vs.getD i .non)
 | [],_=>rfl
 | i::p,q=>by
  have hi:=q i ak;obtain⟨x,D,F⟩:=h.getD (i:=i) (d:=stD (sts.getD i [])) (by simp[hi]);refine⟨vs.getD i .non,_,rfl,?_,zg9 h λj B=>q j (ao _ B)⟩
  simp_all
def zfL(h:yb vs its):∀ (p:List Nat),(∀i∈p,i<vs.length)->yb (p.map λi=>vs.getD i .non) (p.map λi=>its.getD i .none)
 | [],_=>.nil
 | i::p,q=>by
  have hi:=q i ak;obtain⟨u,D,F⟩:=h.get (i:=i) (x:=vs[i]) (ah hi);refine .cons ?_ (zfL h p λj B=>q j (ao _ B))
  simp_all
def zbj {α:Type}(d:α)(l:List α):(List.range l.length).map (λi=>l.getD i d)=l:=by refine fH (by simp) λi h1 h2=>?_;simp[h2]
def zlw:CallQ X (.builtin "sorted") zsK:=⟨by
 intro pins s σ H xs us Q I r h;obtain⟨l,vs,sts,m,rfl,hl,B,h2,b3,as,hm,av,q⟩:=h;obtain⟨u,rfl,ru⟩:=zay r;cases ru;obtain⟨its,rv,pl,hz⟩:=I.list (.of hl);have a0:=B.length;rw[ab] at a0;have ca:=rv.length;obtain⟨m0,ag,_⟩:=id I.loc;refine W.kat_sorted (h₀:=(⟨#[],{}⟩:Heap)) (L:=X.env.locals) (m:=m0) (news:=zaX s.heap X.env.locals) ⟨ag,λb o e=>?_,aN _⟩ (λp hp=>?_) pl.isList (by lia) (by lia) λD e1 h' F N O=>?_
 ·have:=ax e;simp at this
 ·obtain⟨b,o⟩:=p;have:=zW.mp hp;refine⟨this.2,this.1,?_⟩
  cases e:(⟨#[],{}⟩:Heap).get? b with
  | none=>rfl
  | some o'=>
   have:=ax e;simp at this
 ·have kp:∀b o,b≠X.env.locals->s.heap.get? b=some o->h'.get? b=some o:=λb o hb e=>(N (b,o) (ao _ (zW.mpr ⟨hb,e⟩))).1;obtain⟨fs,k1,k2,k3⟩:=zkW I kp B rv λst a3=>by rw[hm st a3];exact as
  refine W.kat_kind (T:=.type "int") (s:={ s with heap:=h' }) k1 (by lia) (λf hf=>?_) (by decide) ?_
  ·obtain⟨a,t,rfl⟩:=k3 f hf;intro A' Q' E' s' _ hq;exact cC (fQ s' a t) hq
  ·have hu:zb0 sts.length (zcm sts):=λi j hi J e=>by
    have e1:=xz hm hi J;have e2:=xz hm J hi;rw[e,ba (fB _)] at e1;rw[e,ba (fB _)] at e2;have gi:sts.getD i []=sts[i]:=by simp[hi]
    have gj:sts.getD j []=sts[j]:=by simp[J]
    rcases u4 (a:=sts.getD i []) (b:=sts.getD j []) (by simp_all) with h | h | h
    ·rw[gi,gj] at h;exact (cg av).mp h
    all_goals grind
   obtain⟨p,al,U⟩:=zhE hu h2;rw[show its.length=sts.length by lia];refine al.wp (S:=λs'=>s'={ s with heap:=h' }) (λi j C s' hi J Y hC=>?_) (λs' Y=>?_) _ rfl
   ·subst Y;obtain⟨a1,a4,_,b1,c1,d1,f1⟩:=zgG I B rv hi;obtain⟨a2,a5,_,b2,c2,d2,f2⟩:=zgG I B rv J;obtain⟨o1,a7,_,n1,bb⟩:=c1;obtain⟨o2,bd,_,n2,bk⟩:=c2;show wpAny _ _ (keyLt' _ (its.getD i .none) (its.getD j .none)) C _ _;rw[b1,b2]
    have gi:(sts.getD i []).length=m:=by simp_all
    have gj:(sts.getD j []).length=m:=by simp_all
    have l1:=d1.length;have l2:=d2.length;rw[ab] at l1 l2;refine W.kat_lt (s:={ s with heap:=h' }) (kp _ _ f1 a7) bb (kp _ _ f2 bd) bk ?_;rw[show decide (a4.toArray.size<a5.toArray.size)=false from ba (by simp;lia)];refine zd3 0 d1 d2 (by rw[gi,gj]) ?_;have:=hC { s with heap:=h' } rfl;rw[show zfO (zcm sts) i j=HT.lexLt (sts.getD i []) (sts.getD j []) from xz hm hi J] at this;exact this
   ·subst Y
    have Z:p.toList.Perm (List.range sts.length):=by have:=U.perm.toList;simpa using this
    have ad:∀i∈p.toList,i<sts.length:=λi hi=>aW.mp ((Z.mem_iff).mp hi);refine W.KasFin.intro F N (W.UpdF.head λq' bl=>?_) λbn c F'' N''=>?_
    ·exact aJ (O q' bl)
    ·have bo:∀b o,b≠X.env.locals->s.heap.get? b=some o->bn.get? b=some o:=λb o hb e=>(N'' (b,o) (ao _ (zW.mpr ⟨hb,e⟩))).1;have bs:D≠X.env.locals:=(N'' (D,_) ak).2.1
     have bx:s.heap.get? D=none:=by
      cases e:s.heap.get? D with
      | none=>rfl
      | some o=>exact absurd (O (D,o) (zW.mpr ⟨bs,e⟩)) (cA _)
     have an:H D=none:=by
      cases e:H D with
      | none=>rfl
      | some o=>
       obtain⟨o',cc⟩:=zaQ (I.hok D o e)
       grind
     have ap:=(N'' (D,_) ak).1;have I':=zdX I ag (ys:=p.toList.map λi=>vs.getD i .non) bo F''.ns bx an ap (zfL rv p.toList λi hi=>by simp_all) (by rw[ab,Z.length_eq,aA];exact cj (zcM (by lia))) s.toks;refine⟨.ref D,_,I',rfl,(q _ (p.toList.map λi=>sts.getD i []) (zg9 B ad) ?_ ?_).at an⟩
     ·have:=Z.map λi=>sts.getD i [];rwa[zbj] at this
     ·have cd:p.size=sts.length:=uu U.perm;rw[b8];intro i j hi J b0;rw[ab,aX] at hi J;have hk:=U.lt_of b0 (by lia);rw[da,da,cZ,cZ];have e1:p.getD i 0=p[i]:=by simp[hi]
      have e2:p.getD j 0=p[j]:=by simp[J]
      unfold key at hk;rw[e1,e2] at hk;rw[<- xz hm (ad _ (by simp)) (ad _ (by simp))];exact a9 hk⟩
end
open PySem PySem.Spec PySem.Calls PyProof.Rows PySem.W
def zaf {prog:Program}{w:World}{A:Around}{E:Value->Shared->Prop}{s:Shared}{a:Addr}{vs:List Value}{n:Nat}{P:PySem.Fin->Shared->Prop}(ho:s.heap.get? a=some (seqObj "list" vs.toArray n))(h2:vs.length<2)
  (h:∀h' c,(∀b o,b≠a->s.heap.get? b=some o->h'.get? b=some o)->h'.get? a=some (seqObj "list" vs.toArray c)->P (.done (.ret .none)) { s with heap:=h' }) :
  wpAny (model prog w) A (Builtin.«list.sort» ⟨[.ref a],[]⟩) P E s:=by
 obtain⟨e1,ho1⟩:∃e1,(s.heap.update a (Obj.mapSeq λ_=>(#[]:Array Value))).get? a=some (seqObj "list" #[] e1):=⟨_,get?_update_seq ho λ_=>#[]⟩;rw[list_sort_plain];refine aa (listItems_at ho rfl ?_);refine aa (listUpdate_at ho rfl ?_ (by rw[aV,bQ];lia) (aN _));refine aa (seqEpoch_at ho1 rfl ?_);refine aa (wpAny_newTuple ?_ (by show vs.length<=_;rw[bQ];lia));refine aa (wpAny_newList ?_ (aN _));refine be ?_;show wpAny (model prog w) A _ P E { s with heap:=((s.heap.update a (Obj.mapSeq λ_=>(#[]:Array Value))).push (seqObj "tuple" vs.toArray 0)).push (seqObj "list" #[] 0) };dsimp only;have hn2:vs.toArray.size<2:=by rw[aV];lia
 rw[if_pos hn2,if_pos hn2];refine aa (ae ?_);refine aa (m:=(pure ():StateT SortSt _ _).run _) (ae ?_)
 have hsnd:(arrOf (SortSt.mk' general' (vs.toArray.zip vs.toArray) #[] 7 none)).map (λx=>x.snd)=vs.toArray:=by show (vs.toArray.zip vs.toArray).map (λx=>x.snd)=vs.toArray;apply Array.toList_inj.mp;rw[Array.toList_map,Array.toList_zip];exact List.map_snd_zip (ai _)
 have ha:a<s.heap.objs.size:=ax ho;have g3:(((s.heap.update a (Obj.mapSeq λ_=>(#[]:Array Value))).push (seqObj "tuple" vs.toArray 0)).push (seqObj "list" #[] 0)).get? a=some (seqObj "list" #[] e1):=af _ (af _ ho1);refine aa (seqEpoch_at g3 rfl ?_);refine aa (listUpdate_at g3 rfl ?_ (aN _) ?_)
 ·show wpAny _ _ _ _ _ _;dsimp only;rw[hsnd];simp only[bne_self_eq_false,aT,if_false];refine ae (h _ _ (λb o hb e=>?_) (get?_update_seq g3 λ_=>vs.toArray));rw[eG _ _ _ _ hb];refine af _ (af _ ?_);rw[eG _ _ _ _ hb];exact e
 ·dsimp only;rw[hsnd,aV,bQ];lia
def zfF {prog:Program}{w:World}{A:Around}{E:Value->Shared->Prop}{s:Shared}{l:Addr}{vs:List Value}{Q:Value->Shared->Prop}(J:s.heap.IsList l vs.toArray)(h2:vs.length<2)
  (h:∀D h' c,(∀b o,s.heap.get? b=some o->h'.get? b=some o)->s.heap.get? D=none->h'.get? D=some (seqObj "list" vs.toArray c)->Q (.ref D) { s with heap:=h' }) :
  wpAny (model prog w) A (call (.builtin "sorted") [.ref l]) Q E s:=by
 refine Calls.call_function_entry kind_sorted plain_sorted entry_sorted (args_sorted1 _) ?_;unfold Builtin.«sorted»;refine aa (m:=checkCount "sorted" 1 1 _) (ae ?_);refine aa (collect_list J ?_ (by rw[bQ];lia));refine aa (wpAny_newList ?_ (by rw[bQ];lia))
 have hsz:((s.heap.push (seqObj "list" #[] 0)).update s.heap.objs.size (Obj.mapSeq (·++vs.toArray))).objs.size=s.heap.objs.size+1:=by simp_all
 have F:(((s.heap.push (seqObj "list" #[] 0)).update s.heap.objs.size (Obj.mapSeq (·++vs.toArray))).push (seqObj "list" vs.toArray 0)).get? (s.heap.objs.size+1)=some (seqObj "list" vs.toArray 0):=by rw[<- hsz];exact aq _ rfl
 have I:∀b o,s.heap.get? b=some o->(((s.heap.push (seqObj "list" #[] 0)).update s.heap.objs.size (Obj.mapSeq (·++vs.toArray))).push (seqObj "list" vs.toArray 0)).get? b=some o:=λb o q=>by have B:b<s.heap.objs.size:=ax q;rw[Heap.get?_push_ne _ _ _ (by rw[hsz];exact aJ (cW B)),eG _ _ _ _ (aJ B),Heap.get?_push_ne _ _ _ (aJ B)];exact q
 show wpAny _ _ _ _ _ { s with heap:=((s.heap.push (seqObj "list" #[] 0)).update s.heap.objs.size (Obj.mapSeq (·++vs.toArray))).push (seqObj "list" vs.toArray 0) };rw[hsz];refine aa (be (aR slot_list_sort ⟨_,F,rfl⟩ entry_list_sort ?body (args_list_sort _)))
 case body=>
  refine zaf (s:={ s with heap:=((s.heap.push (seqObj "list" #[] 0)).update s.heap.objs.size (Obj.mapSeq (·++vs.toArray))).push (seqObj "list" vs.toArray 0) }) F h2 λh' c L O=>?_;refine⟨_,rfl,ae ⟨_,rfl,h _ _ _ (λb o e=>L b o (aJ (cW (ax e))) (I b o e)) ?_ O⟩⟩;exact Heap.get?_none_of_le (db _)
section
variable {X:Cx}
def zpY:List V->Hp->VK->Prop:=λxs H Q=>∃ (l:Addr) (vs:List V) (sts:List (List Int)) (m:Nat),xs=[.ref l]/\H l=some (.lst vs)/\IsL H (sts.map stD) vs/\sts.length<64/\1<=m/\(∀st∈sts,st.length=m)/\sts.Nodup/\
 ∀ (ys:List V) (q:List (List Int)),IsL H (q.map stD) ys->q.Perm sts->(q.Pairwise λa b=>HT.lexLt a b=true)->New H (.lst ys) Q
def zn7:CallQ X (.builtin "sorted") zpY:=⟨by
 intro pins s σ H xs us Q I r h;obtain⟨l,vs,sts,m,rfl,hl,B,L,O,hm,U,q⟩:=h;by_cases h2:2<=sts.length
 ·exact zlw.run _ _ _ _ _ _ _ I r ⟨l,vs,sts,m,rfl,hl,B,h2,L,O,hm,U,q⟩
 ·obtain⟨u,rfl,ru⟩:=zay r;cases ru;obtain⟨its,rv,pl,hz⟩:=I.list (.of hl);have Y:=B.length;rw[ab] at Y;have ad:=rv.length;obtain⟨m0,F,_⟩:=id I.loc;refine zfF pl.isList (by lia) λD h' c kp Z hD=>?_
  have J:H D=none:=by
   cases e:H D with
   | none=>rfl
   | some o=>
    obtain⟨o',ag⟩:=zaQ (I.hok D o e)
    grind
  have I':=zdX I F (ys:=vs) (λb o _ e=>kp b o e) (by obtain⟨o,es,ep,g,k⟩:=F;exact⟨o,es,ep,kp _ _ g,k⟩) Z J hD rv (by grind) s.toks;refine⟨.ref D,_,I',rfl,(q _ sts B (List.Perm.refl _) ?_).at J⟩
  match sts,h2 with
  | [],_=>exact .nil
  | [_],_=>exact dq _ _
  | _::_::_,h2=>exact absurd (by simp) h2⟩
end
open PySem
def Ris (xs:Array Nat):Prop:=∀i j:Nat,i<j->j<xs.size->xs.getD i 0<xs.getD j 0
def zdH {xs:Array Nat}(D:Ris xs){j:Nat}:∀ (B lo hi:Nat),lo<=hi->hi<=xs.size->hi - lo<=B->(∀i,i<lo->xs.getD i 0<j)->(∀i,hi<=i->i<xs.size->j<=xs.getD i 0)->
  ∃p,SetTable.below.go xs j B lo hi=p/\p<=xs.size/\(∀i,i<p->xs.getD i 0<j)/\(∀i,p<=i->i<xs.size->j<=xs.getD i 0)
 | 0,lo,hi,h1,h2,Y,F,I=>by
  have:lo=hi:=by lia
  subst this;exact⟨lo,rfl,h2,F,I⟩
 | B+1,lo,hi,h1,h2,Y,F,I=>by
  show ∃p,(if lo<hi then if xs.getD ((lo+hi) / 2) j<j then SetTable.below.go xs j B ((lo+hi) / 2+1) hi else SetTable.below.go xs j B lo ((lo+hi) / 2) else lo)=p/\_;by_cases O:lo<hi
  ·rw[if_pos O];have U:(lo+hi) / 2<xs.size:=by lia
   have e:xs.getD ((lo+hi) / 2) j=xs.getD ((lo+hi) / 2) 0:=by simp[U]
   rw[e];by_cases J:xs.getD ((lo+hi) / 2) 0<j
   ·rw[if_pos J];refine zdH D B _ hi (by lia) h2 (by lia) (λi L=>?_) I;by_cases q:i=(lo+hi) / 2
    ·rw[q];exact J
    ·have:=D i ((lo+hi) / 2) (by lia) U;lia
   ·rw[if_neg J];refine zdH D B lo _ (by lia) (by lia) (by lia) F (λi L hs=>?_);by_cases q:i=(lo+hi) / 2
    ·rw[q];lia
    ·have:=D ((lo+hi) / 2) i (by lia) hs;lia
  ·rw[if_neg O];have:lo=hi:=by lia
   subst this;exact⟨lo,rfl,h2,F,I⟩
def ug(q:Ris xs)(j:Nat):SetTable.below xs j<=xs.size/\(∀i,i<SetTable.below xs j->xs.getD i 0<j)/\(∀i,SetTable.below xs j<=i->i<xs.size->j<=xs.getD i 0):=by obtain⟨p,e,h⟩:=zdH q (j:=j) xs.size 0 xs.size (aN _) (ai _) (ai _) (λi h=>absurd h (cu _)) (λi h1 h2=>by lia);have B:SetTable.below xs j=p:=e;rw[B];exact h
def ua{xs:Array Nat}(h:xs[i]?=some j):i<xs.size/\xs.getD i 0=j:=by
 obtain⟨h1,h2⟩:=cx.mp h
 simp_all
def zf8{xs:Array Nat}(h:i<xs.size):xs[i]?=some (xs.getD i 0):=by simp[h]
def zlm(B:Ris xs)(h:xs[i]?=some j):SetTable.below xs j=i:=by
 obtain⟨h1,h2⟩:=ua h;obtain⟨I,D,F⟩:=ug B j;rcases cq (SetTable.below xs j) i with q | q | q
 ·have:=F _ (ai _) (by lia);have:=B _ i q h1;lia
 ·exact q
 ·have:=D i q;lia
def za3{t:SetTable}(q:Ris t.place)(h:t.place[i]?=some j):t.slot j = .live i:=by unfold SetTable.slot;rw[zlm q h];simp[h]
def zkM {t:SetTable}(q:t.dummies = #[]){j:Nat}(h:∀i:Nat,t.place[i]?≠some j):t.slot j = .empty:=by
 unfold SetTable.slot
 have e:(t.place[SetTable.below t.place j]?==some j)=false:=by grind
 have B:SetTable.has t.dummies j=false:=by rw[q];rfl
 simp_all
def zqa {t:SetTable}(q:Ris t.place)(B:t.dummies = #[])(j:Nat):(t.slot j = .empty/\∀i:Nat,t.place[i]?≠some j)\/∃i,t.slot j = .live i/\t.place[i]?=some j:=by
 by_cases h:∃i:Nat,t.place[i]?=some j
 ·obtain⟨i,hi⟩:=h;exact .inr ⟨i,za3 q hi,hi⟩
 ·have h':∀i:Nat,t.place[i]?≠some j:=λi e=>h ⟨i,e⟩;exact .inl ⟨zkM B h',h'⟩
def tm (q:Nat):SetTable:=⟨q,#[],#[],0,true,0,true⟩
def stp (q:Nat)(h:Int):Nat->SetTable.Probe
 | 0=>(tm q).probeStart h
 | n+1=>(tm q).advance (stp q h n)
def wk (q:Nat)(h:Int)(n:Nat):Nat:=(stp q h n).j
def ziE (q:Nat)(p:SetTable.Probe):((tm q).advance p).dummy=p.dummy:=by unfold SetTable.advance;split <;> rfl
def zfI (q:Nat)(h:Int):∀n,(stp q h n).dummy=none
 | 0=>rfl
 | n+1=>by show ((tm q).advance _).dummy=none;rw[ziE,zfI q h n]
def zgR (q:Nat)(p:SetTable.Probe)(h:0<p.more):(tm q).advance p={ p with j:=p.j+1,more:=p.more - 1 }:=by unfold SetTable.advance;rw[if_pos h]
def zdD (q:Nat)(p:SetTable.Probe)(h:p.more=0):(tm q).advance p={ p with j:=(p.i * 5+1+p.perturb / 32) % (q+1),more:=SetTable.runEnd q ((p.i * 5+1+p.perturb / 32) % (q+1)) - (p.i * 5+1+p.perturb / 32) % (q+1),i:=(p.i * 5+1+p.perturb / 32) % (q+1),perturb:=p.perturb / 32 }:=by unfold SetTable.advance;rw[if_neg (by lia)];rfl
def lp (q:Nat)(h:Int):Nat->Nat×Nat
 | 0=>(SetTable.bits h % (q+1),SetTable.bits h)
 | n+1=>SetTable.leap q (lp q h n).1 (lp q h n).2
def znH (q i:Nat):SetTable.runEnd q i - i<=9:=by unfold SetTable.runEnd;split <;> lia
def zeA (B:Nat)(h:Int){T i q:Nat}(e:stp B h T=⟨i,SetTable.runEnd B i - i,i,q,none⟩):∀k,k<=SetTable.runEnd B i - i->stp B h (T+k)=⟨i+k,SetTable.runEnd B i - i - k,i,q,none⟩
 | 0,_=>e
 | k+1,D=>by
  show (tm B).advance (stp B h (T+k))=_;rw[zeA B h e k (by lia),zgR B _ (by lia)]
  grind
def zjL (q:Nat)(h:Int):∀k,∃T,T<=10 * k/\stp q h T=⟨(lp q h k).1,SetTable.runEnd q (lp q h k).1 - (lp q h k).1,(lp q h k).1,(lp q h k).2,none⟩
 | 0=>⟨0,ai _,rfl⟩
 | k+1=>by obtain⟨T,B,e⟩:=zjL q h k;have D:=znH q (lp q h k).1;refine⟨T+(SetTable.runEnd q (lp q h k).1 - (lp q h k).1)+1,by lia,?_⟩;show (tm q).advance (stp q h (T+_))=_;rw[zeA q h e _ (ai _),zdD q _ (Nat.sub_self _)];rfl
def zdp (q:Nat)(h:Int):∀k,(lp q h k).2=SetTable.bits h / 32 ^ k
 | 0=>by show SetTable.bits h=_;simp
 | k+1=>by show (lp q h k).2 / 32=_;rw[zdp q h k,Nat.div_div_eq_div_mul,Nat.pow_succ]
def zn0 (h:Int):SetTable.bits h<2 ^ 64:=by
 unfold SetTable.bits
 grind
def lcg (m i:Nat):Nat:=(i * 5+1) % m
def orb (m:Nat):Nat->Nat->Nat
 | 0,i=>i
 | k+1,i=>lcg m (orb m k i)
def zjS (q:Nat)(h:Int):∀k,(lp q h (13+k)).1=orb (q+1) k (lp q h 13).1
 | 0=>rfl
 | k+1=>by
  show ((lp q h (13+k)).1 * 5+1+(lp q h (13+k)).2 / 32) % (q+1)=lcg (q+1) (orb (q+1) k _);rw[<- zjS q h k,zdp];have B:=zn0 h
  have e:SetTable.bits h / 32 ^ (13+k)=0:=by
   refine Nat.div_eq_of_lt (a6 B ?_)
   calc 2 ^ 64<=32 ^ 13:=by decide
    _<=32 ^ (13+k):=cE (by decide) (by lia)
  rw[e];rfl
def zcv (m:Nat)(a:Nat):∀ (b i:Nat),orb m (a+b) i=orb m b (orb m a i)
 | 0,i=>rfl
 | b+1,i=>by show lcg m (orb m (a+b) i)=lcg m (orb m b _);rw[zcv m a b i]
def zqz (m:Nat):Nat->Nat->List Nat
 | 0,_=>[]
 | n+1,i=>i::zqz m n (lcg m i)
def zmf (m:Nat)(k i:Nat):orb m (k+1) i=orb m k (lcg m i):=by rw[Nat.add_comm,zcv];rfl
def zej (m:Nat):∀ (n i k:Nat),k<n->(zqz m n i)[k]?=some (orb m k i)
 | n+1,i,0,_=>rfl
 | n+1,i,k+1,h=>by rw[zmf];exact zej m n (lcg m i) k (by lia)
def zhs (m:Nat):∀ (n i:Nat),(zqz m n i).length=n
 | 0,_=>rfl
 | n+1,i=>by show (zqz m n _).length+1=n+1;rw[zhs m n]
structure Ring (m:Nat):Prop where
 pos:0<m
 all:∀v,v<m->v∈zqz m m 0
 back:orb m m 0=0
def Ring.reach(r:Ring m)(hi:i<m)(I:j<m):∃k,k<m/\orb m k i=j:=by
 obtain⟨a,D,L⟩:=bz.mp (r.all i hi);obtain⟨b,F,O⟩:=bz.mp (r.all j I);rw[zhs] at D F
 have q:orb m a 0=i:=by
  have:=zej m m 0 a D
  simp_all
 have B:orb m b 0=j:=by
  have:=zej m m 0 b F
  simp_all
 by_cases J:a<=b
 ·refine⟨b - a,by lia,?_⟩;rw[<- q,<- zcv,show a+(b - a)=b by lia];exact B
 ·refine⟨b+m - a,by lia,?_⟩;rw[<- q,<- zcv,show a+(b+m - a)=m+b by lia,zcv,r.back];exact B
def zsR (m:Nat):Bool:=((List.range m).all λv=>(zqz m m 0).contains v)&&orb m m 0==0
def zet(q:0<m)(h:zsR m=true):Ring m:=by
 unfold zsR at h;rw[bN] at h;refine⟨q,λv B=>?_,eq_of_beq h.2⟩
 simp_all
def zvz:Ring 8:=zet (by decide) (by decide +kernel)
def zsQ:Ring 32:=zet (by decide) (by decide +kernel)
def zp0:Ring 128:=zet (by decide) (by decide +kernel)
def zp1:Ring 512:=zet (by decide) (by decide +kernel)
def zm1(r:Ring (q+1))(h:Int)(B:j<=q):∃n,n<10 * SetTable.turns q/\wk q h n=j:=by have D:(lp q h 13).1<q+1:=eo _ (eS _);obtain⟨k,I,e⟩:=r.reach D (eZ B);obtain⟨T,J,F⟩:=zjL q h (13+k);refine⟨T,by unfold SetTable.turns;lia,?_⟩;show (stp q h T).j=j;rw[F];show (lp q h (13+k)).1=j;rw[zjS,e]
open PySem PySem.Spec PyProof.Rows
def zp3 {xs:Array Nat}(B:Ris xs){i j a b:Nat}(hi:xs[i]?=some a)(D:xs[j]?=some b)(h:a<b):i<j:=by
 obtain⟨h1,h2⟩:=ua hi;obtain⟨F,I⟩:=ua D;rcases cq i j with q | q | q
 ·exact q
 ·subst q;lia
 ·have:=B j i q h1;lia
def zhy(q:Ris xs):∀ (M:Nat),(∀j,j<M->∃i:Nat,xs[i]?=some j)->∀ (j i:Nat),j<M->xs[i]?=some j->j<=i
 | _,_,0,_,_,_=>aN _
 | M,h,j+1,i,F,e=>by obtain⟨D,B⟩:=h j (by lia);have h1:=zp3 q B e (fJ j);have h2:=zhy q M h j D (by lia) B;lia
def zp2(q:Ris xs)(h:xs.size<M):∃j,j<M/\∀i:Nat,xs[i]?≠some j:=by refine bJ λB=>?_;have all:∀j,j<M->∃i:Nat,xs[i]?=some j:=λj D=>bJ λF=>B ⟨j,D,λi e=>F ⟨i,e⟩⟩;obtain⟨i,e⟩:=all (M - 1) (by lia);have h1:=zhy q M all (M - 1) i (by lia) e;have h2:=(ua e).1;lia
section
variable {t:SetTable}{hashAt:Nat->Int}{h:Int}
def zhv (D:Ris t.place)(F:t.dummies = #[]):∀ (q n:Nat),(∃N,n<=N/\N<n+q/\∀i:Nat,t.place[i]?≠some (wk t.mask h N))->
  ∃N,n<=N/\(∀m,n<=m->m<N->∃i,t.place[i]?=some (wk t.mask h m)/\hashAt i≠h)/\
   (((∀i:Nat,t.place[i]?≠some (wk t.mask h N))/\SetTable.probe.go t hashAt h q (stp t.mask h n)=some (.empty (wk t.mask h N) none))\/
    ∃i,t.place[i]?=some (wk t.mask h N)/\hashAt i=h/\SetTable.probe.go t hashAt h q (stp t.mask h n)=some (.candidate (wk t.mask h N) i (stp t.mask h (N+1))))
 | 0,n,⟨N,h1,h2,_⟩=>by lia
 | q+1,n,⟨N,h1,h2,I⟩=>by
  rcases zqa D F (wk t.mask h n) with ⟨e,hn⟩ | ⟨i,e,hi⟩
  ·refine⟨n,ai _,λm a b=>by lia,.inl ⟨hn,?_⟩⟩;show (match t.slot (wk t.mask h n) with | .empty=>some (SetTable.Met.empty (wk t.mask h n) (stp t.mask h n).dummy) | .dummy=>_ | .live i=>_)=_;rw[e,zfI]
  ·by_cases B:hashAt i=h
   ·refine⟨n,ai _,λm a b=>by lia,.inr ⟨i,hi,B,?_⟩⟩;show (match t.slot (wk t.mask h n) with | .empty=>_ | .dummy=>_ | .live i=>if hashAt i==h then some (SetTable.Met.candidate (wk t.mask h n) i (t.advance (stp t.mask h n))) else _)=_;rw[e];show (if (hashAt i==h)=true then _ else _)=_;rw[if_pos (beq_iff_eq.mpr B)];rfl
   ·have U:n≠N:=λz=>by subst z;exact I i hi
    obtain⟨N',Y,J,Z⟩:=zhv D F q (n+1) ⟨N,by lia,by lia,I⟩
    have e2:SetTable.probe.go t hashAt h (q+1) (stp t.mask h n)=SetTable.probe.go t hashAt h q (stp t.mask h (n+1)):=by show (match t.slot (wk t.mask h n) with | .empty=>_ | .dummy=>_ | .live i=>if hashAt i==h then _ else SetTable.probe.go t hashAt h q (t.advance (stp t.mask h n)))=_;rw[e];show (if (hashAt i==h)=true then _ else _)=_;rw[if_neg (λz=>B (beq_iff_eq.mp z))];rfl
    refine⟨N',by lia,λm b1 L=>?_,?_⟩
    ·by_cases O:m=n
     ·subst O;exact⟨i,hi,B⟩
     ·exact J m (by lia) L
    ·simp_all
end
section
variable {prog:Program}{w:World}
abbrev tk (prog:Program)(w:World):HeapKind prog w (List Key):=tupleKind (z6 prog w)
def zt9 (t:SetTable)(h:Int)(i:Nat):Prop:=∃n,n<10 * SetTable.turns t.mask/\t.place[i]?=some (wk t.mask h n)/\∀m,m<n->∃q:Nat,t.place[q]?=some (wk t.mask h m)
def zap (m:Nat):Prop:=m=7\/m=31\/m=127\/m=511
def zap.ring(h:zap m):Ring (m+1):=by
 rcases h with rfl | rfl | rfl | rfl
 ·exact zvz
 ·exact zsQ
 ·exact zp0
 ·exact zp1
def zap.le(h:zap m):7<=m/\m<=511:=by rcases h with rfl | rfl | rfl | rfl <;> lia
def zap.odd(h:zap m):(m % 2==0)=false:=by rcases h with rfl | rfl | rfl | rfl <;> rfl
structure Tb (prog:Program)(w:World)(t:SetTable)(es:Array (Int×Value))(xs:List (List Key×Addr)):Prop where
 eq:es.toList=xs.map λq=>((tk prog w).hash q.1,Value.ref q.2)
 nd:(xs.map (·.1)).Nodup
 dm:t.dummies = #[]
 ris:Ris t.place
 le:∀ (i j:Nat),t.place[i]?=some j->j<=t.mask
 sz:t.place.size=xs.length
 msk:zap t.mask
 few:xs.length<=t.mask
 plain:t.plain=true
 led:t.led = !w.params.followText "set-order"
 reach:∀ (i:Nat) (q:List Key×Addr),xs[i]?=some q->zt9 t ((tk prog w).hash q.1) i
variable {t:SetTable}{es:Array (Int×Value)}{xs:List (List Key×Addr)}
def Tb.size (T:Tb prog w t es xs):es.size=xs.length:=by rw[<- aX,T.eq,ab]
def Tb.get (T:Tb prog w t es xs){i:Nat}{q:List Key×Addr}(h:xs[i]?=some q):es[i]?=some ((tk prog w).hash q.1,Value.ref q.2):=by rw[<- Array.getElem?_toList,T.eq,am,h];rfl
def Tb.at' (T:Tb prog w t es xs){i j:Nat}(h:t.place[i]?=some j):∃q,xs[i]?=some q:=by
 have:=(ua h).1;rw[T.sz] at this
 simp_all
def Tb.fits (T:Tb prog w t es xs):t.fits es.size=true:=by unfold SetTable.fits SetTable.fill;rw[T.size,T.sz,T.dm];have:=T.few;simp;lia
def Tb.empty (T:Tb prog w t es xs)(h:Int):∃N,N<10 * SetTable.turns t.mask/\∀i:Nat,t.place[i]?≠some (wk t.mask h N):=by have:=T.few;obtain⟨j,q,B⟩:=zp2 T.ris (M:=t.mask+1) (by rw[T.sz];lia);obtain⟨N,h1,h2⟩:=zm1 T.msk.ring h (cI q);exact⟨N,h1,by rw[h2];exact B⟩
variable {A:Around}{E:Value->Shared->Prop}{s:Shared}
def zfS(h:(z6 prog w).is k v=true):(∃i t,v = .int i t)\/∃x t,v = .str x t:=by
 rcases z5 h with ⟨i,t,_,e⟩ | ⟨x,t,_,e⟩
 ·exact .inl ⟨i,t,e⟩
 ·exact .inr ⟨x,t,e⟩
def zci:∀ {ks:List Key} {vs:List Value},ItemsAre (z6 prog w) ks vs->∀v∈vs,(∃i t,v = .int i t)\/∃x t,v = .str x t
 | _,_,.nil,v,h=>by simp at h
 | _,_,.cons h1 h2,v,h=>by
  rcases aG.mp h with rfl | h
  ·exact zfS h1
  ·exact zci h2 v h
def zdq(I:(tk prog w).is s.heap k b)(h:Q false s):wpAny (model prog w) A (ofAClassStatement 8 (.ref b)) Q E s:=by
 have B:IsTupleKey (z6 prog w) s.heap k b:=I;have J:=B.typeIs;obtain⟨o,items,n,L,_,O,hi⟩:=B;unfold ofAClassStatement;refine aa (cC J ?_);dsimp only;rw[if_pos (by decide)];refine aa (ae ?_);simp only[fD,aT,if_false];refine aa (ck L O ?_);refine aa ?_;show wpAny _ _ (forIn items _ _) _ _ s;rw[<- Array.forIn_toList];refine fK _ (λzR r s'=>r.1=none/\s'=s/\∀v∈zR,(∃i t,v=Value.int i t)\/∃x t,v=Value.str x t) _ ?_ ?_ _ _ ⟨rfl,rfl,zci hi⟩
 ·rintro v zR r s' ⟨D,rfl,q⟩
  have e:ofAClassStatement 7 v=pure false:=by rcases q v ak with ⟨i,t,rfl⟩ | ⟨x,t,rfl⟩ <;> rfl
  rw[e];refine aa (ae ?_);simp only[aT,if_false];exact ae ⟨rfl,rfl,λu F=>q u (ao _ F)⟩
 ·rintro⟨U,Y⟩ s' ⟨D,rfl,_⟩;simp only at D;subst D;exact ae h
def zts(L:(tk prog w).is s.heap k b):∀ (l:List Value),(∀v∈l,∃D q,v = .ref q/\(tk prog w).is s.heap D q)->Q false s->wpAny (model prog w) A (searchCouldBeSeen (.ref b) l) Q E s:=by
 intro l O h;unfold searchCouldBeSeen;refine aa ?_;refine fK _ (λzR r s'=>r.1=none/\s'=s/\∀v∈zR,∃D q,v=Value.ref q/\(tk prog w).is s.heap D q) _ ?_ ?_ _ _ ⟨rfl,rfl,O⟩
 ·rintro v zR r s' ⟨I,rfl,B⟩;obtain⟨D,q,rfl,F⟩:=B v ak;have next:∀u∈zR,∃D q,u=Value.ref q/\(tk prog w).is s'.heap D q:=λu J=>B u (ao _ J);dsimp only;split
  ·exact ae ⟨rfl,rfl,next⟩
  ·refine aa ((tk prog w).quiet L ?_);simp only[fD,aT,if_false];refine aa ((tk prog w).quiet F ?_);simp only[fD,aT,if_false];refine aa (zdq L ?_);simp only[aT,if_false];refine aa (zdq F ?_);simp only[aT,if_false];exact ae ⟨rfl,rfl,next⟩
 ·rintro⟨U,Y⟩ s' ⟨I,rfl,_⟩;simp only at I;subst I;exact ae h
end
section
variable {prog:Program}{w:World}{t:SetTable}{es:Array (Int×Value)}{xs:List (List Key×Addr)}{A:Around}{E:Value->Shared->Prop}{s:Shared}
def zeK (t:SetTable)(xs:List (List Key×Addr))(h:Int)(k:List Key)(n:Nat):Prop:=∀m,m<n->∃ (i:Nat) (q:List Key×Addr),t.place[i]?=some (wk t.mask h m)/\xs[i]?=some q/\q.1≠k
def zcL {a b:Addr}{o:Obj}{ep:Nat}{k:List Key}{adding:Bool}{Q:SetFound->Shared->Prop}(hu:A.units<cLine)(T:Tb prog w t es xs)(hk:(tk prog w).is s.heap k b)(hel:∀q∈xs,(tk prog w).is s.heap q.1 q.2)
  (ho:s.heap.get? a=some o) (hd:o.data = .set es ep t)
  (found:∀r i q,xs[i]?=some q->q.1=k->(r=none/\adding=true\/r=some i)->Q (.there r) s)
  (free:∀N,N<10 * SetTable.turns t.mask->(∀i:Nat,t.place[i]?≠some (wk t.mask ((tk prog w).hash k) N))->zeK t xs ((tk prog w).hash k) k N->Q (.free (wk t.mask ((tk prog w).hash k) N) false) s) :
  ∀ (fuel n:Nat) (stand:Option SetTable.Probe),stand.getD (t.probeStart ((tk prog w).hash k))=stp t.mask ((tk prog w).hash k) n->10 * SetTable.turns t.mask<n+fuel->n<=10 * SetTable.turns t.mask->zeK t xs ((tk prog w).hash k) k n->
   wpAny (model prog w) A (setSearchFrom a (.ref b) ((tk prog w).hash k) adding fuel stand) Q E s
 | 0,n,stand,_,h2,h3,_=>by lia
 | fuel+1,n,stand,h1,h2,h3,h4=>by
  unfold setSearchFrom;refine aa (bp ho hd T.fits ?_);dsimp only;rw[show t.gaveWay=false from T.msk.odd];simp only[aT,if_false];rw[h1];obtain⟨N0,hN0,eN0⟩:=T.empty ((tk prog w).hash k)
  have hn0:n<=N0:=by
   rcases Nat.lt_or_ge N0 n with q | q
   ·obtain⟨i,_,e,_⟩:=h4 N0 q;exact absurd e (eN0 i)
   ·exact q
  have pass:∀N,n<=N->(∀m,n<=m->m<N->∃i:Nat,t.place[i]?=some (wk t.mask ((tk prog w).hash k) m)/\(es[i]?.map (·.1)).getD 0≠(tk prog w).hash k)->zeK t xs ((tk prog w).hash k) k N:=λN hN hh m hm=>by
   rcases Nat.lt_or_ge m n with q | q
   ·exact h4 m q
   ·obtain⟨i,e1,e2⟩:=hh m q hm;obtain⟨q,hq⟩:=T.at' e1;refine⟨i,q,e1,hq,λz=>e2 ?_⟩;rw[T.get hq,<- z];rfl
  obtain⟨N,hN,hp,hc⟩:=zhv (t:=t) (hashAt:=λi=>(es[i]?.map (·.1)).getD 0) (h:=(tk prog w).hash k) T.ris T.dm (10 * SetTable.turns t.mask) n ⟨N0,hn0,by lia,eN0⟩
  have hNle:N<=N0:=by
   rcases Nat.lt_or_ge N0 N with q | q
   ·obtain⟨i,e,_⟩:=hp N0 hn0 q;exact absurd e (eN0 i)
   ·exact q
  rcases hc with ⟨he,hg⟩ | ⟨i,hi,hh,hg⟩
  ·have hg':t.probe (λi=>(es[i]?.map (·.1)).getD 0) ((tk prog w).hash k) (stp t.mask ((tk prog w).hash k) n)=some (.empty (wk t.mask ((tk prog w).hash k) N) none):=hg;have fin:=free N (by lia) he (pass N hN hp);generalize hm:SetTable.probe t _ _ _=met;have:met=some (.empty (wk t.mask ((tk prog w).hash k) N) none):=hm.symm.trans hg';rw[this];dsimp only;exact ae fin
  ·have hg':t.probe (λi=>(es[i]?.map (·.1)).getD 0) ((tk prog w).hash k) (stp t.mask ((tk prog w).hash k) n)=some (.candidate (wk t.mask ((tk prog w).hash k) N) i (stp t.mask ((tk prog w).hash k) (N+1))):=hg;generalize hm:SetTable.probe t _ _ _=met;have:met=some (.candidate (wk t.mask ((tk prog w).hash k) N) i (stp t.mask ((tk prog w).hash k) (N+1))):=hm.symm.trans hg';rw[this];dsimp only;obtain⟨q,hq⟩:=T.at' hi;have hqe:=T.get hq;have hqk:=hel q (aj hq);have stl:t.slot (wk t.mask ((tk prog w).hash k) N) = .live i:=za3 T.ris hi
   have core:wpAny (model prog w) A (do
     let some (_,y):=es[i]? | unsupported "internal:set-entry"
     let equal <- holding [y] (eqBool y (.ref b))
     let (es',_,t') <- setState a
     if adding&&equal then return .there none
     let some smem:=t'.sameMemory t.moves t.mask | unsupported "set.changed-during-lookup:is-the-new-block-at-the-old-address"
     let still <- match (if smem then t'.slot (wk t.mask ((tk prog w).hash k) N) else .empty) with
      | .live i'=>match es'[i']? with
       | some (_,y')=>do pure (if <- isSame y' y then some i' else none)
       | none=>pure none
      | _=>pure none
     match still with
     | none=>rule "set.search.anew";setSearchFrom a (.ref b) ((tk prog w).hash k) adding fuel none
     | some i'=>if equal then return .there (some i') else setSearchFrom a (.ref b) ((tk prog w).hash k) adding fuel (some (stp t.mask ((tk prog w).hash k) (N+1)))) Q E s:=by
    rw[hqe];dsimp only;refine aa (be ((tk prog w).eqBool hu hqk hk ?_));refine aa (bp ho hd T.fits ?_);dsimp only;by_cases hkk:q.1=k
    ·rw[a9 hkk]
     cases adding with
     | true=>
      simp only[Bool.and_self,if_true];exact ae (found none i q hq hkk (.inl ⟨rfl,rfl⟩))
     | false=>
      simp only[Bool.false_and,aT,if_false];have e1:t.sameMemory t.moves t.mask=some true:=by unfold SetTable.sameMemory;simp
      rw[e1];dsimp only;simp only[if_true];rw[stl];dsimp only;rw[hqe];dsimp only;refine aa (wpAny_isSame_ref_self (aa (ae ?_)));simp only[if_true];exact ae (found (some i) i q hq hkk (.inr rfl))
    ·rw[ba hkk];simp only[Bool.and_false,aT,if_false];have e1:t.sameMemory t.moves t.mask=some true:=by unfold SetTable.sameMemory;simp
     rw[e1];dsimp only;simp only[if_true];rw[stl];dsimp only;rw[hqe];dsimp only;refine aa (wpAny_isSame_ref_self (aa (ae ?_)));simp only[if_true];refine zcL hu T hk hel ho hd found free fuel (N+1) _ rfl (by lia) (by lia) λm hm=>?_;rcases cJ.mp hm with z | z
     ·exact pass N hN hp m z
     ·subst z;exact⟨i,q,hi,hq,hkk⟩
   split
   ·refine aa (zts hk _ (λv hv=>?_) ?_)
    ·obtain⟨e,he,rfl⟩:=az.mp hv
     have he':e∈es.toList:=by have:=ee.mp he;exact ee.mpr (Array.mem_filter.mp this).1
     rw[T.eq] at he';obtain⟨q',hq',rfl⟩:=az.mp he';exact⟨_,_,rfl,hel q' hq'⟩
    ·simp only[aT,if_false];exact core
   ·exact core
end
def ze6 {α:Type}(l:List α)(p:Nat)(x:α):List α:=l.take p++x::l.drop p
def zgd {α:Type}{l:List α}{p i:Nat}{x:α}(q:p<=l.length)(h:i<p):(ze6 l p x)[i]?=l[i]?:=by unfold ze6;rw[a8 (by grind),di h]
def zgb{α:Type}{l:List α}{x:α}(q:p<=l.length):(ze6 l p x)[p]?=some x:=by
 unfold ze6
 simp_all
def zgc {α:Type}{l:List α}{p i:Nat}{x:α}(q:p<=l.length)(h:p<=i):(ze6 l p x)[i+1]?=l[i]?:=by unfold ze6;rw[bg (by grind),aQ,show i+1 - min p l.length=(i - p)+1 by lia,bt,List.getElem?_drop,show p+(i - p)=i by lia]
def zdV {α:Type}{l:List α}{p:Nat}{x:α}(q:p<=l.length):(ze6 l p x).length=l.length+1:=by
 unfold ze6
 grind
def zlK {α q:Type}(f:α->q)(l:List α)(p:Nat)(x:α):(ze6 l p x).map f=ze6 (l.map f) p (f x):=by
 unfold ze6
 simp_all
def zjq {α:Type}(l:List α)(p:Nat)(x:α):(ze6 l p x).Perm (x::l):=by
 unfold ze6;refine List.perm_middle.trans ?_
 simp_all
def yK{α:Type}(xs:Array α)(x:α):(SetTable.insertAt xs p x).toList=ze6 xs.toList p x:=by
 unfold SetTable.insertAt ze6;rw[Array.toList_append,Array.toList_push,Array.toList_extract,Array.toList_extract,List.extract_eq_take_drop,List.extract_eq_take_drop];rw[fO,eW,b6];congr 1;show x::_=_;congr 1;show []++List.take _ (List.drop p xs.toList)=_;rw[List.nil_append];refine bY ?_
 simp_all
def za8 {α:Type}(xs:Array α)(i:Nat):xs[i]?=xs.toList[i]?:=by simp_all
def zge{xs:Array Nat}(B:p<=xs.size)(h:xs[i]?=some v):(SetTable.insertAt xs p j)[if i<p then i else i+1]?=some v:=by
 rw[za8,yK];rw[za8] at h;have q:p<=xs.toList.length:=by rw[aX];exact B
 split
 ·rename_i hi;rw[zgd q hi,h]
 ·rename_i hi;rw[zgc q (by lia),h]
def zaI{xs:Array Nat}(F:p<=xs.size)(h:(SetTable.insertAt xs p j)[i]?=some v):(i=p/\v=j)\/(i<p/\xs[i]?=some v)\/∃B,i=B+1/\p<=B/\xs[B]?=some v:=by
 rw[za8,yK] at h;have D:p<=xs.toList.length:=by rw[aX];exact F
 rcases cq i p with q | q | q
 ·rw[zgd D q,<- za8] at h
  simp_all
 ·subst q;rw[zgb D] at h
  simp_all
 ·obtain⟨B,rfl⟩:∃B,i=B+1:=⟨i - 1,by lia⟩;rw[zgc D (by lia),<- za8] at h;exact .inr (.inr ⟨B,rfl,by lia,h⟩)
def zih(Y:Ris xs)(hn:∀i:Nat,xs[i]?≠some j):Ris (SetTable.insertAt xs (SetTable.below xs j) j):=by
 obtain⟨J,b2,b3⟩:=ug Y j;intro i F O h2;have Z:=zf8 (xs:=SetTable.insertAt xs (SetTable.below xs j) j) (i:=i) (by lia);have I:=zf8 h2;generalize (SetTable.insertAt xs (SetTable.below xs j) j).getD i 0=v at Z;generalize (SetTable.insertAt xs (SetTable.below xs j) j).getD F 0=L at I
 have U:∀i v,SetTable.below xs j<=i->xs[i]?=some v->j<v:=λi v h e=>by
  obtain⟨a1,a2⟩:=ua e
  grind
 have D:∀i v,i<SetTable.below xs j->xs[i]?=some v->v<j:=λi v h e=>by obtain⟨a1,a2⟩:=ua e;have:=b2 i h;lia
 have B:∀i F v L,i<F->xs[i]?=some v->xs[F]?=some L->v<L:=λi F v L h e I=>by
  obtain⟨a1,a2⟩:=ua e;obtain⟨a3,a4⟩:=ua I;have:=Y i F h a3
  omega
 rcases zaI J Z with ⟨rfl,rfl⟩ | ⟨q,e⟩ | ⟨i',rfl,q,e⟩
 ·rcases zaI J I with ⟨rfl,rfl⟩ | ⟨q',e'⟩ | ⟨i'',rfl,q',e'⟩
  ·lia
  ·lia
  ·exact U _ _ q' e'
 ·rcases zaI J I with ⟨rfl,rfl⟩ | ⟨q',e'⟩ | ⟨i'',rfl,q',e'⟩
  ·exact D _ _ q e
  ·exact B _ _ _ _ O e e'
  ·exact B _ _ _ _ (by lia) e e'
 ·rcases zaI J I with ⟨rfl,rfl⟩ | ⟨q',e'⟩ | ⟨i'',rfl,q',e'⟩
  ·lia
  ·lia
  ·exact B _ _ _ _ (by lia) e e'
section
variable {prog:Program}{w:World}{t:SetTable}{es:Array (Int×Value)}{xs:List (List Key×Addr)}
def zov:SetTable.has #[] j=false:=rfl
def Tb.put(T:Tb prog w t es xs)(hN:N<10 * SetTable.turns t.mask)(he:∀i:Nat,t.place[i]?≠some (wk t.mask ((tk prog w).hash k) N))(hp:zeK t xs ((tk prog w).hash k) k N)(hk:k∉xs.map (·.1))(hf:xs.length+1<=t.mask)(Y:wk t.mask ((tk prog w).hash k) N<=t.mask) :
  ∃J,Tb prog w (t.put (wk t.mask ((tk prog w).hash k) N)).1 (SetTable.insertAt es (t.put (wk t.mask ((tk prog w).hash k) N)).2 ((tk prog w).hash k,.ref b)) J/\J.Perm ((k,b)::xs):=by
 generalize hj:wk t.mask ((tk prog w).hash k) N=j at *;obtain⟨L,b2,b3⟩:=ug T.ris j;have Z:(t.put j).2=SetTable.below t.place j:=rfl
 have ht:(t.put j).1={ t with place:=SetTable.insertAt t.place (SetTable.below t.place j) j }:=by
  unfold SetTable.put;dsimp only;rw[T.dm,zov]
  grind
 generalize ad:SetTable.below t.place j=p at *;have D:p<=xs.length:=by rw[<- T.sz];exact L
 have B:∀ {i v:Nat},t.place[i]?=some v->∃F:Nat,(SetTable.insertAt t.place p j)[F]?=some v:=λ{i v} h=>⟨_,zge L h⟩;have O:=zjq xs p (k,b);refine⟨ze6 xs p (k,b),?_,O⟩;rw[Z,ht];refine⟨?_,?_,T.dm,?_,?_,?_,T.msk,?_,T.plain,T.led,?_⟩
 ·rw[yK,T.eq,zlK]
 ·rw[(O.map (·.1)).nodup_iff,aC,bT];exact⟨hk,T.nd⟩
 ·have:=zih T.ris he
  simp_all
 ·intro i v e;rcases zaI L e with ⟨_,rfl⟩ | ⟨_,e'⟩ | ⟨_,_,_,e'⟩
  ·exact Y
  ·exact T.le _ _ e'
  ·exact T.le _ _ e'
 ·show (SetTable.insertAt t.place p j).size=_;rw[<- aX,yK,zdV (by simp_all),zdV D,aX,T.sz]
 ·show (ze6 xs p (k,b)).length<=t.mask;rw[zdV D];exact hf
 ·intro i q I;rcases cq i p with z | z | z
  ·rw[zgd D z] at I;obtain⟨n,h1,h2,h3⟩:=T.reach i q I;refine⟨n,h1,?_,λm U=>?_⟩
   ·have:=zge (j:=j) L h2
    simp_all
   ·obtain⟨F,e⟩:=h3 m U;exact B e
  ·subst z;rw[zgb D] at I;cases I;refine⟨N,hN,?_,λm U=>?_⟩
   ·show (SetTable.insertAt t.place i j)[i]?=_;rw[za8,yK,zgb (by simp_all)]
    simp_all
   ·obtain⟨F,q',e,_⟩:=hp m U;exact B e
  ·obtain⟨F,rfl⟩:∃F,i=F+1:=⟨i - 1,by lia⟩;rw[zgc D (by lia)] at I;obtain⟨n,h1,h2,h3⟩:=T.reach F q I;refine⟨n,h1,?_,λm U=>?_⟩
   ·have:=zge (j:=j) L h2;rw[if_neg (by lia)] at this;exact this
   ·obtain⟨F,e⟩:=h3 m U;exact B e
end
def zd9:∀ (n:Nat) {l:List Nat},l.Nodup->(∀x∈l,x<n)->l.length<=n
 | 0,l,_,h=>by
  cases l with
  | nil=>exact ai _
  | cons a _=>exact absurd (h a ak) (cu _)
 | n+1,l,q,h=>by
  by_cases D:n∈l
  ·have h1:=zd9 n (q.erase n) λx B=>by
    grind
   grind
  ·have:=zd9 n q λx B=>by
    grind
   lia
def zek {α:Type}[BEq α][LawfulBEq α]:∀ {l l':List α},l.Nodup->l'.Nodup->(∀x,x∈l↔x∈l')->l.Perm l'
 | [],l',_,_,h=>by
  cases l' with
  | nil=>exact .nil
  | cons a _=>exact absurd ((h a).mpr ak) (by simp)
 | a::l,l',B,q,h=>by grind
def St0 (q:Nat)(h:Int)(K:Nat):SetTable.Probe:=⟨(lp q h K).1,SetTable.runEnd q (lp q h K).1 - (lp q h K).1,(lp q h K).1,(lp q h K).2,none⟩
def zjM {q:Nat}{h:Int}{T K:Nat}(e:stp q h T=St0 q h K):stp q h (T+(SetTable.runEnd q (lp q h K).1 - (lp q h K).1)+1)=St0 q h (K+1):=by show (tm q).advance (stp q h (T+_))=_;rw[zeA q h e _ (ai _),zdD q _ (Nat.sub_self _)];rfl
def zrH (q:Nat)(h:Int):∀K,(lp q h K).1<=q
 | 0=>cI (eo _ (eS _))
 | K+1=>cI (eo _ (eS _))
def zcA {q i:Nat}(h:i<=q):SetTable.runEnd q i<=q/\i<=SetTable.runEnd q i:=by unfold SetTable.runEnd;split <;> lia
def ze5{h:Int}{owner:Array (Option Nat)}(hs:owner.size=q+1):∀ (B K T:Nat),T<=10 * K->stp q h T=St0 q h K->(∀m,m<T->∃D,owner[wk q h m]?=some (some D))->
  (∃K',K<=K'/\K'<K+B/\owner[(lp q h K').1]?=some none)->
  ∃N,SetTable.layClean.free q owner B (lp q h K).1 (lp q h K).2=some (wk q h N)/\N<10 * (K+B)/\wk q h N<=q/\owner[wk q h N]?=some none/\∀m,m<N->∃D,owner[wk q h m]?=some (some D)
 | 0,K,T,_,_,_,⟨K',h1,h2,_⟩=>by lia
 | B+1,K,T,hT,eT,Z,⟨K',h1,h2,h3⟩=>by
  have ap:=zrH q h K;obtain⟨r1,r2⟩:=zcA ap;have r9:=znH q (lp q h K).1
  have F:∀k,k<=SetTable.runEnd q (lp q h K).1 - (lp q h K).1->wk q h (T+k)=(lp q h K).1+k:=λk O=>by show (stp q h (T+k)).j=_;rw[zeA q h eT k O]
  have inR:∀k,k<=SetTable.runEnd q (lp q h K).1 - (lp q h K).1->∃u,owner[(lp q h K).1+k]?=some u/\owner.getD ((lp q h K).1+k) (some 0)=u:=λk O=>by
   have av:(lp q h K).1+k<owner.size:=by lia
   simp_all
  show ∃N,(match (List.range (SetTable.runEnd q (lp q h K).1+1 - (lp q h K).1)).find? λk=>(owner.getD ((lp q h K).1+k) (some 0)).isNone with
   | some k=>some ((lp q h K).1+k)
   | none=>SetTable.layClean.free q owner B (lp q h (K+1)).1 (lp q h (K+1)).2)=some (wk q h N)/\_
  cases hf:(List.range (SetTable.runEnd q (lp q h K).1+1 - (lp q h K).1)).find? λk=>(owner.getD ((lp q h K).1+k) (some 0)).isNone with
  | some k=>
   obtain⟨hp,i,hi,ad,ag⟩:=List.find?_eq_some_iff_getElem.mp hf;rw[bF] at ad;subst ad;rw[aA] at hi;have O:i<=SetTable.runEnd q (lp q h K).1 - (lp q h K).1:=by lia
   obtain⟨u,I,J⟩:=inR i O;rw[J] at hp
   have as:u=none:=by
    cases u with
    | none=>rfl
    | some z=>exact absurd hp (by simp)
   subst as;refine⟨T+i,by rw[F i O],by lia,by rw[F i O];lia,by rw[F i O];exact I,λm hm=>?_⟩;by_cases Y:m<T
   ·exact Z m Y
   ·obtain⟨L,rfl⟩:∃L,m=T+L:=⟨m - T,by lia⟩;obtain⟨u,I,J⟩:=inR L (by lia);have:=ag L (by lia);rw[bF,J] at this;rw[F L (by lia),I]
    cases u with
    | none=>simp at this
    | some D=>exact⟨D,rfl⟩
  | none=>
   have al:=eU.mp hf
   have U:∀k,k<=SetTable.runEnd q (lp q h K).1 - (lp q h K).1->∃D,owner[(lp q h K).1+k]?=some (some D):=λk O=>by
    obtain⟨u,I,J⟩:=inR k O;have:=al k (aW.mpr (by lia));rw[J] at this
    cases u with
    | none=>simp at this
    | some D=>exact⟨D,I⟩
   have a0:K≠K':=λz=>by
    subst z;obtain⟨D,e⟩:=U 0 (aN _)
    grind
   have an:∀m,m<T+(SetTable.runEnd q (lp q h K).1 - (lp q h K).1)+1->∃D,owner[wk q h m]?=some (some D):=λm hm=>by
    by_cases Y:m<T
    ·exact Z m Y
    ·obtain⟨L,rfl⟩:∃L,m=T+L:=⟨m - T,by lia⟩;rw[F L (by lia)];exact U L (by lia)
   obtain⟨N,a1,a2,a3⟩:=ze5 hs B (K+1) _ (by lia) (zjM eT) an ⟨K',by lia,by lia,h3⟩;exact⟨N,a1,by lia,a3⟩
structure Own (mask:Nat)(hs:List Int)(n:Nat)(owner:Array (Option Nat)):Prop where
 size:owner.size=mask+1
 lt:∀ (j i:Nat),owner[j]?=some (some i)->i<n
 inj:∀ (j j' i:Nat),owner[j]?=some (some i)->owner[j']?=some (some i)->j=j'
 reach:∀ (i:Nat) (h:Int),i<n->hs[i]?=some h->∃N,N<10 * SetTable.turns mask/\owner[wk mask h N]?=some (some i)/\∀m,m<N->∃i',owner[wk mask h m]?=some (some i')
def Own.gap{hs:List Int}(o:Own q hs n owner)(hn:n<=q):∃j,j<=q/\owner[j]?=some none:=by
 refine bJ λI=>?_
 have all:∀j,j<q+1->∃i,owner[j]?=some (some i):=λj D=>by
  have J:j<owner.size:=by rw[o.size];exact D
  cases e:owner[j] with
  | none=>exact absurd ⟨j,cI D,by simp_all⟩ I
  | some i=>exact⟨i,by simp_all⟩
 have L:=zd9 n (l:=(List.range (q+1)).map λj=>((owner[j]?).join).getD 0) ?_ ?_
 ·rw[ab,aA] at L;lia
 ·refine bS.mpr (List.Pairwise.imp_of_mem ?_ dX);intro a b O U F e;refine F ?_;obtain⟨i,hi⟩:=all a (aW.mp O);obtain⟨Y,B⟩:=all b (aW.mp U);rw[hi,B] at e;have:i=Y:=e;subst this;exact o.inj _ _ _ hi B
 ·intro x Z;obtain⟨j,D,rfl⟩:=az.mp Z;obtain⟨i,hi⟩:=all j (aW.mp D);rw[hi];exact o.lt _ _ hi
def Own.step{hs:List Int}{h:Int}(o:Own B hs n owner)(hr:Ring (B+1))(hn:n<=B)(hh:hs[n]?=some h) :
  ∃j,SetTable.layClean.free B owner (SetTable.turns B) (SetTable.bits h % (B+1)) (SetTable.bits h)=some j/\Own B hs (n+1) (owner.setIfInBounds j (some n)):=by
 obtain⟨g,hg,eg⟩:=o.gap hn;have hb:(lp B h 13).1<B+1:=eZ (zrH B h 13);obtain⟨k,hk,e⟩:=hr.reach hb (eZ hg);obtain⟨N,h1,h2,h3,h4,h5⟩:=ze5 o.size (SetTable.turns B) 0 0 (ai _) (h:=h) rfl (λm O=>absurd O (cu _)) ⟨13+k,aN _,by unfold SetTable.turns;lia,by rw[zjS,e];exact eg⟩;have hj:wk B h N<owner.size:=by rw[o.size];lia
 have F:(owner.setIfInBounds (wk B h N) (some n))[wk B h N]?=some (some n):=by simp_all
 have D:∀j,j≠wk B h N->(owner.setIfInBounds (wk B h N) (some n))[j]?=owner[j]?:=λj Z=>by rw[Array.getElem?_setIfInBounds];rw[if_neg (λz=>Z z.symm)]
 have I:∀j i,owner[j]?=some (some i)->(owner.setIfInBounds (wk B h N) (some n))[j]?=some (some i):=λj i e=>by
  by_cases q:j=wk B h N
  ·rw[q,h4] at e;cases e
  ·rw[D j q];exact e
 refine⟨wk B h N,h1,by simp[o.size],λj i e=>?_,λj Y i e L=>?_,λi h' hi J=>?_⟩
 ·by_cases q:j=wk B h N
  ·simp_all
  ·rw[D j q] at e;have:=o.lt _ _ e;lia
 ·by_cases q:j=wk B h N
  ·subst q;rw[F] at e;cases e;by_cases U:Y=wk B h N
   ·exact U.symm
   ·rw[D Y U] at L;have:=o.lt _ _ L;lia
  ·rw[D j q] at e;by_cases U:Y=wk B h N
   ·subst U;rw[F] at L;cases L;have:=o.lt _ _ e;lia
   ·rw[D Y U] at L;exact o.inj _ _ _ e L
 ·by_cases q:i=n
  ·subst q;rw[hh] at J;cases J;refine⟨N,by lia,F,λm O=>?_⟩;obtain⟨i',e⟩:=h5 m O;exact⟨i',I _ _ e⟩
  ·obtain⟨M,m1,m2,m3⟩:=o.reach i h' (by lia) J;refine⟨M,m1,I _ _ m2,λm O=>?_⟩;obtain⟨i',e⟩:=m3 m O;exact⟨i',I _ _ e⟩
def zmh (q:Nat)(hs:List Int):Own q hs 0 (Array.replicate (q+1) none):=by
 have B:∀j i,(Array.replicate (q+1) (none:Option Nat))[j]?≠some (some i):=λj i e=>by
  rw[Array.getElem?_replicate] at e
  grind
 exact⟨by simp,λj i e=>absurd e (B j i),λj D i e=>absurd e (B j i),λi h hi=>absurd hi (cu _)⟩
def zg5(I:Ring (B+1)):∀ (zR q:List Int) (owner:Array (Option Nat)),(q++zR).length<=B->Own B (q++zR) q.length owner->
  ∃D,zR.foldl (λ(acc:Option (Array (Option Nat)×Nat)) h=>acc.bind λx=>(SetTable.layClean.free B x.1 (SetTable.turns B) (SetTable.bits h % (B+1)) (SetTable.bits h)).bind λj=>some (x.1.setIfInBounds j (some x.2),x.2+1)) (some (owner,q.length))=some (D,(q++zR).length)/\Own B (q++zR) (q++zR).length D
 | [],q,owner,_,o=>by simp_all
 | h::zR,q,owner,F,o=>by
  have L:q.length+(zR.length+1)<=B:=by rw[aD,aS] at F;exact F
  obtain⟨j,e,o'⟩:=o.step I (by lia) (h:=h) (by simp);have J:q++h::zR=(q++[h])++zR:=by rw[b6];rfl
  have O:q.length+1=(q++[h]).length:=by rw[aD];rfl
  rw[J,O] at o';obtain⟨D,U,Y⟩:=zg5 I zR (q++[h]) _ (by rw[<- J];exact F) o'
  grind
def zfb(B:Ring (q+1))(hs:Array Int)(D:hs.size<=q):∃owner,SetTable.layClean q hs=some owner/\Own q hs.toList hs.size owner:=by
 obtain⟨owner,h1,h2⟩:=zg5 B hs.toList [] (Array.replicate (q+1) none) (by simp_all) (zmh q _);rw[List.nil_append,aX] at h2;refine⟨owner,?_,h2⟩;unfold SetTable.layClean
 simp_all
def xA (q:Nat)(owner:Array (Option Nat)):List (Nat×Nat):=(List.range (q+1)).filterMap λj=>(owner.getD j none).map (j,·)
def xZ{hs:List Int}(o:Own q hs n owner):(j,i)∈xA q owner↔owner[j]?=some (some i):=by
 unfold xA;rw[cQ];constructor
 ·rintro⟨J,D,e⟩;obtain⟨L,F,I⟩:=aB.mp e;cases I;have B:j<owner.size:=by rw[o.size];exact aW.mp D
  simp_all
 ·intro e;obtain⟨B,F⟩:=cx.mp e;refine⟨j,aW.mpr (by rw[<- o.size];exact B),?_⟩
  simp_all
def zjQ (q:Nat)(owner:Array (Option Nat)):(xA q owner).Pairwise λa b=>a.1<b.1:=by
 unfold xA;refine List.pairwise_filterMap.mpr ((List.pairwise_lt_range).imp ?_)
 simp_all
def zjP{hs:List Int}(o:Own q hs hs.length owner):((xA q owner).map (·.2)).Perm (List.range hs.length):=by
 refine zek ?_ dX λi=>?_
 ·refine bS.mpr (List.Pairwise.imp_of_mem ?_ (zjQ q owner));intro a b B D F e;have h1:=(xZ o).mp B;have h2:=(xZ o).mp D;rw[e] at h1;have:=o.inj _ _ _ h1 h2;lia
 ·rw[aW];constructor
  ·intro h;obtain⟨⟨j,I⟩,h1,rfl⟩:=az.mp h;exact o.lt _ _ ((xZ o).mp h1)
  ·intro h;obtain⟨N,_,e,_⟩:=o.reach i hs[i] h (ah h);exact az.mpr ⟨(_,i),(xZ o).mpr e,rfl⟩
def zcz {α:Type}(l:List α):(List.range l.length).filterMap (λi=>l[i]?)=l:=by
 have:∀ (n:Nat) (l:List α),n=l.length->(List.range n).filterMap (λi=>l[i]?)=l:=by
  intro n
  induction n with
  | zero=>intro l h;cases l with | nil=>rfl | cons _ _=>simp at h
  | succ n q=>
   intro l h
   cases l with
   | nil=>simp at h
   | cons a l=>
    rw[List.range_succ_eq_map,bZ];show a::_=_;rw[eM];congr 1;exact q l (by simpa using h)
 exact this _ l rfl
section
variable {prog:Program}{w:World}{t:SetTable}{es:Array (Int×Value)}{xs:List (List Key×Addr)}
def Tb.laid(T:Tb prog w t es xs)(hm:zap B)(hl:xs.length<=B)(J O:Nat) :
  ∃t' D Y,SetTable.laid B J O t.led true (es.map (·.1))=some (t',D)/\(D.filterMap (es[·]?)).size=es.size/\Tb prog w t' (D.filterMap (es[·]?)) Y/\Y.Perm xs/\t'.mask=B:=by
 obtain⟨owner,e,o⟩:=zfb hm.ring (es.map (·.1)) (by rw[Array.size_map,T.size];exact hl)
 have hh:(es.map (·.1)).toList=xs.map λq=>(tk prog w).hash q.1:=by rw[Array.toList_map,T.eq,au];rfl
 have hsz:(es.map (·.1)).size=xs.length:=by rw[Array.size_map,T.size]
 rw[hh,hsz] at o;have o':Own B (xs.map λq=>(tk prog w).hash q.1) (xs.map λq=>(tk prog w).hash q.1).length owner:=by rw[ab];exact o
 have Z:=zjP o';rw[ab] at Z
 have ad:((((xA B owner).map (·.2)).toArray).filterMap (es[·]?)).toList=((xA B owner).map (·.2)).filterMap (es.toList[·]?):=by simp_all
 have I:(((xA B owner).map (·.2)).filterMap (xs[·]?)).Perm xs:=by have:=Z.filterMap (xs[·]?);rw[zcz] at this;exact this
 have ag:((xA B owner).map (·.2)).filterMap (es.toList[·]?)=(((xA B owner).map (·.2)).filterMap (xs[·]?)).map λq=>((tk prog w).hash q.1,Value.ref q.2):=by rw[List.map_filterMap];congr 1;funext i;rw[T.eq,am]
 have U:∀ {c:Nat} {q:List Key×Addr},(((xA B owner).map (·.2)).filterMap (xs[·]?))[c]?=some q->∃j i,(xA B owner)[c]?=some (j,i)/\xs[i]?=some q:=by
  have as:∀ (l:List (Nat×Nat)),(∀p∈l,p.2<xs.length)->∀ {c:Nat} {q:List Key×Addr},((l.map (·.2)).filterMap (xs[·]?))[c]?=some q->∃j i,l[c]?=some (j,i)/\xs[i]?=some q:=by
   intro l
   induction l with
   | nil=>intro _ c q h;simp at h
   | cons p l ih=>
    intro al c q h;have av:=al p ak;rw[aC,bZ,ah av] at h
    cases c with
    | zero=>
     refine⟨p.1,p.2,rfl,?_⟩
     simp_all
    | succ c=>exact ih (λp' a0=>al p' (ao _ a0)) (by simpa using h)
  intro c q h;refine as _ (λp Z=>?_) h;obtain⟨j,i⟩:=p;exact o.lt _ _ ((xZ o).mp Z)
 have F:∀ {c j i:Nat},(xA B owner)[c]?=some (j,i)->(((xA B owner).map (·.1)).toArray)[c]?=some j:=λ{c j i} h=>by simp_all
 refine⟨_,_,((xA B owner).map (·.2)).filterMap (xs[·]?),by unfold SetTable.laid;rw[e];rfl,?_,⟨?_,?_,rfl,?_,?_,?_,hm,?_,rfl,by exact T.led,?_⟩,I,rfl⟩
 ·show ((((xA B owner).map (·.2)).toArray).filterMap (es[·]?)).size=es.size;rw[<- aX,ad,ag,ab,I.length_eq,T.size]
 ·exact ad.trans ag
 ·rw[(I.map (·.1)).nodup_iff];exact T.nd
 ·intro i j an hj
  have ap:j<(xA B owner).length:=by
   have:(((xA B owner).map (·.1)).toArray).size=(xA B owner).length:=by simp
   rw[<- this];exact hj
  have a1:i<(xA B owner).length:=Nat.lt_trans an ap;have:=b8.mp (zjQ B owner) i j a1 ap an;show (((xA B owner).map (·.1)).toArray).getD i 0<(((xA B owner).map (·.1)).toArray).getD j 0
  simp_all
 ·intro c j hc;have L:((xA B owner).map (·.1))[c]?=some j:=by rw[za8] at hc;exact hc
  rw[am] at L;obtain⟨⟨j',i'⟩,h1,rfl⟩:=aB.mp L;have h2:=(xZ o).mp (aj h1);have:=(cx.mp h2).1;rw[o.size] at this;show j'<=B;lia
 ·show (((xA B owner).map (·.1)).toArray).size=_;have h1:(((xA B owner).map (·.1)).toArray).size=(xA B owner).length:=by simp
  rw[h1,I.length_eq];have:=Z.length_eq
  grind
 ·rw[I.length_eq];exact hl
 ·intro c q hq;obtain⟨j,i,h1,h2⟩:=U hq;have hi:=(ac.mp h2).1;obtain⟨N,n1,n2,n3⟩:=o.reach i ((tk prog w).hash q.1) hi (by simp_all);have hj:=o.inj _ _ _ ((xZ o).mp (aj h1)) n2;subst hj;refine⟨N,n1,F h1,λm a2=>?_⟩;obtain⟨i',e'⟩:=n3 m a2;obtain⟨c',L,a3⟩:=bz.mp ((xZ o).mpr e');exact⟨c',F (by rw[ah L,a3])⟩
end
section
variable {prog:Program}{w:World}{t:SetTable}{es:Array (Int×Value)}{xs:List (List Key×Addr)}{A:Around}{E:Value->Shared->Prop}{s:Shared}
def uR (prog:Program)(w:World)(h:Heap)(a:Addr)(xs:List (List Key×Addr)):Prop:=∃o es q t,h.get? a=some o/\o.ExactSet/\o.data = .set es q t/\Tb prog w t es xs/\xs.length * 5<t.mask * 3
def zbK{ns:List Int}(U:(tk prog w).is s.heap (ns.map Sum.inl) b)(h:Q true s):wpAny (model prog w) A (hashByValue 8 (.ref b)) Q E s:=by
 have D:IsTupleKey (z6 prog w) s.heap (ns.map Sum.inl) b:=U;have Y:=D.typeIs;obtain⟨o,items,n,Z,_,hd,hi⟩:=D
 have B:∀ {ns:List Int} {vs:List Value},ItemsAre (z6 prog w) (ns.map Sum.inl) vs->∀v∈vs,∃i t,v=Value.int i t:=by
  intro ns
  induction ns with
  | nil=>intro vs h v I;cases h;simp at I
  | cons n ns ih=>
   intro vs h v I
   cases h with
   | cons h1 h2=>
    rcases aG.mp I with rfl | I
    ·have J:zgk (Sum.inl n) v=true:=h1;rcases z5 J with ⟨i,t,_,e⟩ | ⟨x,t,z,_⟩
     all_goals simp_all
    ·exact ih h2 v I
 unfold hashByValue;refine aa (eu Y F.slot_tuple_hash.lookup ?_);dsimp only;refine aa (ck Z hd ?_);refine aa ?_;show wpAny _ _ (forIn items _ _) _ _ s;rw[<- Array.forIn_toList];refine fK _ (λzR r s'=>r.1=none/\s'=s/\∀v∈zR,∃i t,v=Value.int i t) _ ?_ ?_ _ _ ⟨rfl,rfl,B hi⟩
 ·rintro v zR r s' ⟨L,rfl,q⟩;obtain⟨i,t,rfl⟩:=q v ak;have e:hashByValue 7 (Value.int i t)=pure true:=rfl;rw[e];refine aa (ae ?_);simp only[fD,aT,if_false];exact ae ⟨rfl,rfl,λu O=>q u (ao _ O)⟩
 ·rintro⟨r1,r2⟩ s' ⟨L,rfl,_⟩;simp only at L;subst L;exact ae h
def zdt{h:Heap}{a:Addr}{o:Obj}{es:Array (Int×Value)}{es':Array (Int×Value)}(D:h.get? a=some o)(B:o.data = .set es q t) :
  (h.update a (Obj.putSet es' t')).get? a=some { o with data:=.set es' (q+1) t' }:=by
 have:=bi (Obj.putSet es' t') D (by rw[putSet_of es' t' B];rfl);rw[putSet_of es' t' B] at this;exact this
def zmK(T:Tb prog w t es xs)(ho:s.heap.get? a=some o)(hx:o.ExactSet)(hd:o.data = .set es ep t)(hw:SetTable.sizeAbove wanted=mask+1)(hm:zap mask)(hl:xs.length * 5<mask * 3)(h:∀h' xs',Heap.SameBut a s.heap h'->uR prog w h' a xs'->xs'.Perm xs->Q () { s with heap:=h' }):wpAny (model prog w) A (setRelay a wanted) Q E s:=by
 unfold setRelay;refine aa (bp ho hd T.fits ?_);dsimp only;have:=hm.le;rw[if_neg (by rw[hw,bQ];lia)];obtain⟨t',order,xs',e,hsz,T',hp,hmk⟩:=T.laid hm (by lia) t.finger (t.movedTo mask)
 have e':t.relaid (es.map (·.1)) wanted=some (t',order):=by unfold SetTable.relaid;rw[hw,T.plain];exact e
 have core:∀ {R:Array (Int×Value)×SetTable->Shared->Prop},R (order.filterMap (es[·]?),t') s->wpAny (model prog w) A (do
   let some (t,order):=t.relaid (es.map (·.1)) wanted | unsupported "internal:set-table-without-room"
   let es':=order.filterMap (es[·]?)
   if es'.size != es.size then unsupported "internal:set-table-lost-an-element"
   pure (es',t)) R E s:=λ{R} hR=>by
  rw[e'];dsimp only;rw[hsz];simp only[bne_self_eq_false,aT,if_false]
  first | exact ae hR | exact aa (by grind)
 refine aa (core ?_);refine wpAny_storeSet_of ho hd ?_ (by rw[hsz,T.size,bQ];lia);refine h _ xs' (br _ a _) ⟨_,_,_,t',zdt ho hd,hx,rfl,T',?_⟩ hp;rw[hp.length_eq,hmk];exact hl
def Tb.out(T:Tb prog w t es xs)(U:N<10 * SetTable.turns t.mask)(I:∀i:Nat,t.place[i]?≠some (wk t.mask ((tk prog w).hash k) N))(J:zeK t xs ((tk prog w).hash k) k N):k∉xs.map (·.1):=λz=>by
 obtain⟨q,L,B⟩:=az.mp z;obtain⟨i,hi⟩:=List.mem_iff_getElem?.mp L;obtain⟨n,h1,h2,F⟩:=T.reach i q hi;rw[B] at h2 F;rcases cq N n with z | z | z
 ·obtain⟨D,e⟩:=F N z;exact I D e
 ·simp_all
 ·obtain⟨D,Y,O,Z,e3⟩:=J n z
  have:D=i:=by
   have a1:=za3 T.ris O;have a2:=za3 T.ris h2
   simp_all
  grind
def zm7{ns:List Int}(hu:A.units<cLine)(S:uR prog w s.heap a xs)(hk:(tk prog w).is s.heap (ns.map Sum.inl) b)(as:∀q∈xs,(tk prog w).is s.heap q.1 q.2)(hn:xs.length<300)(h:∀r h' n O,Heap.SameBut a s.heap h'->uR prog w h' a O->((ns.map Sum.inl)∈xs.map (·.1)->O=xs)->((ns.map Sum.inl)∉xs.map (·.1)->O.Perm ((ns.map Sum.inl,b)::xs))->Q r { s with heap:=h',toks:=n }) :
  wpAny (model prog w) A (setAdd a (.ref b)) Q E s:=by
 obtain⟨o,es,ep,t,ho,hx,hd,T,B⟩:=S;unfold setAdd;refine be (aa ((tk prog w).pyHash hu hk ?_));unfold setAddHashed;refine be ?_;rw[show (100000:Nat)=99999+1 from rfl];unfold setAddHashedIn;refine aa (bp (s:={ s with toks:=s.toks+(tk prog w).draws (ns.map Sum.inl) }) ho hd T.fits ?_);dsimp only;rw[show byScan (.ref b) es=false from rfl];simp only[aT,if_false];unfold setSearch;have hm:=T.msk.le;have a5:t.fill=xs.length:=by unfold SetTable.fill;rw[T.sz,T.dm];rfl
 refine aa (zcL (s:={ s with toks:=s.toks+(tk prog w).draws (ns.map Sum.inl) }) hu T hk as ho hd ?found ?free 100000 0 none rfl (by unfold SetTable.turns;lia) (aN _) (λm hm=>absurd hm (cu _)))
 case found=>
  intro r i q hq av _;dsimp only;have ad:(ns.map Sum.inl)∈xs.map (·.1):=az.mpr ⟨q,aj hq,av⟩;exact ae (h false s.heap _ xs (Heap.SameBut.refl a s.heap) ⟨o,es,ep,t,ho,hx,hd,T,B⟩ (λ_=>rfl) (λz=>absurd ad z))
 case free=>
  intro N hN he hp;have U:=T.out hN he hp;dsimp only;refine aa (bp (s:={ s with toks:=s.toks+(tk prog w).draws (ns.map Sum.inl) }) ho hd T.fits ?_);dsimp only
  have ag:wk t.mask ((tk prog w).hash (ns.map Sum.inl)) N<=t.mask:=by
   have:∀ (h:Int) (n:Nat),wk t.mask h n<=t.mask/\(stp t.mask h n).j+(stp t.mask h n).more<=t.mask:=by
    intro h n
    induction n with
    | zero=>
     have h0:SetTable.bits h % (t.mask+1)<=t.mask:=cI (eo _ (eS _));obtain⟨r1,r2⟩:=zcA h0;refine⟨h0,?_⟩;show SetTable.bits h % (t.mask+1)+(SetTable.runEnd t.mask (SetTable.bits h % (t.mask+1)) - SetTable.bits h % (t.mask+1))<=t.mask;lia
    | succ n ih=>
     show ((tm t.mask).advance (stp t.mask h n)).j<=t.mask/\((tm t.mask).advance (stp t.mask h n)).j+((tm t.mask).advance (stp t.mask h n)).more<=t.mask;by_cases a0:0<(stp t.mask h n).more
     ·rw[zgR _ _ a0]
      grind
     ·rw[zdD _ _ (by lia)];have h0:((stp t.mask h n).i * 5+1+(stp t.mask h n).perturb / 32) % (t.mask+1)<=t.mask:=cI (eo _ (eS _));obtain⟨r1,r2⟩:=zcA h0
      grind
   exact (this _ _).1
  obtain⟨a1,T1,Y⟩:=T.put (b:=b) hN he hp U (by lia) ag;generalize al:t.put (wk t.mask ((tk prog w).hash (ns.map Sum.inl)) N)=tp at T1;obtain⟨I,p⟩:=tp;dsimp only at T1 ⊢
  have an:I.mask=t.mask:=by
   have:I=(t.put (wk t.mask ((tk prog w).hash (ns.map Sum.inl)) N)).1:=by rw[al]
   rw[this];rfl
  rw[T1.plain];simp only[if_true];refine aa (zbK (s:={ s with toks:=s.toks+(tk prog w).draws (ns.map Sum.inl) }) hk ?_);simp only[if_true];have Z:=Y.length_eq;rw[aS] at Z;refine aa (wpAny_storeSet_of (s:={ s with toks:=s.toks+(tk prog w).draws (ns.map Sum.inl) }) ho hd ?_ (by rw[T1.size,bQ];lia));have g1:=zdt (es':=SetTable.insertAt es p ((tk prog w).hash (ns.map Sum.inl),.ref b)) (t':=I) ho hd;have ap:=br s.heap a (Obj.putSet (SetTable.insertAt es p ((tk prog w).hash (ns.map Sum.inl),.ref b)) I);simp only[Bool.not_false,Bool.true_and];have J:I.fill=xs.length+1:=by unfold SetTable.fill;rw[T1.sz,T1.dm,Z];rfl
  by_cases L:I.tooFull=true
  ·rw[if_pos L];unfold SetTable.tooFull at L;rw[J,an] at L;have F:=b7 L;rw[T.size]
   have next:∃D,SetTable.sizeAbove (SetTable.grown (xs.length+1))=D+1/\zap D/\(xs.length+1) * 5<D * 3:=by
    rcases T.msk with e | e | e | e
    ·rw[e] at F B;have:xs.length=4:=by lia
     rw[this];exact⟨31,by decide,.inr (.inl rfl),by lia⟩
    ·rw[e] at F B;have:xs.length=18:=by lia
     rw[this];exact⟨127,by decide,.inr (.inr (.inl rfl)),by lia⟩
    ·rw[e] at F B;have:xs.length=76:=by lia
     rw[this];exact⟨511,by decide,.inr (.inr (.inr rfl)),by lia⟩
    ·rw[e] at F B;lia
   obtain⟨D,m1,m2,m3⟩:=next;refine aa (zmK (s:={ s with heap:=s.heap.update a (Obj.putSet (SetTable.insertAt es p ((tk prog w).hash (ns.map Sum.inl),.ref b)) I),toks:=s.toks+(tk prog w).draws (ns.map Sum.inl) }) T1 g1 hx rfl m1 m2 (by rw[Z];exact m3) λh' a2 a3 S2 a4=>?_);exact ae (h true h' _ a2 (ap.trans a3) S2 (λz=>absurd z U) λ_=>a4.trans Y)
  ·rw[if_neg L];unfold SetTable.tooFull at L;rw[J,an] at L;have F:¬ ((xs.length+1) * 5 ≥ t.mask * 3):=λz=>L (a9 z);refine ae (h true _ _ a1 ap ⟨_,_,_,I,g1,hx,rfl,T1,?_⟩ (λz=>absurd z U) λ_=>Y)
   simp_all
end
open PySem PySem.Spec PyProof.Rows PySem.W
def zY:Slot "set_iterator" "__next__" "set_iterator.__next__" :=
 .of (owner := "set_iterator") (n := "__next__") (by rw[typeLookup_type,dS];kernel_rfl) (by decide +kernel) (by decide +kernel) (by decide +kernel)
  (by first | exact .inl (by decide +kernel) | exact .inr (by decide +kernel)) (by rw[isSubtype_type];kernel_rfl)
def uy:Slot "set_iterator" "__iter__" "set_iterator.__iter__" :=
 .of (owner := "set_iterator") (n := "__iter__") (by rw[typeLookup_type,dS];kernel_rfl) (by decide +kernel) (by decide +kernel) (by decide +kernel)
  (by first | exact .inl (by decide +kernel) | exact .inr (by decide +kernel)) (by rw[isSubtype_type];kernel_rfl)
def xY:entryFor table "set_iterator.__next__" = some Builtin.«set_iterator.__next__»:=entryFor_of_tree (by kernel_rfl)
def zaE:entryFor table "set_iterator.__iter__" = some Builtin.«dict_keyiterator.__iter__»:=entryFor_alias (id' := "dict_keyiterator.__iter__") (by kernel_rfl) rfl (by decide +kernel) (by kernel_rfl)
def zcY:entryFor table "set.__iter__" = some Builtin.«frozenset.__iter__»:=entryFor_alias (id' := "frozenset.__iter__") (by kernel_rfl) rfl (by decide +kernel) (by kernel_rfl)
def uf (a:Value):argsOk "set_iterator.__next__" ⟨[a],[]⟩:=by unfold argsOk;kernel_rfl
def za7 (a:Value):argsOk "set_iterator.__iter__" ⟨[a],[]⟩:=by unfold argsOk;kernel_rfl
def zji {α:Type}(next:Nat->Nat):∀ (n k:Nat) (left:List α) (q:Array α),left.length=n->(pickOrder.go next n k left q).toList.Perm (q.toList++left)
 | 0,k,left,q,h=>by
  have:left=[]:=bh h;subst this;show q.toList.Perm (q.toList++[])
  simp_all
 | n+1,k,left,q,h=>by
  have B:next k % left.length<left.length:=eo _ (by lia)
  show (match left[next k % left.length]? with
   | some x=>pickOrder.go next n (k+1) (left.eraseIdx (next k % left.length)) (q.push x)
   | none=>q).toList.Perm _
  rw[ah B];refine (zji next n (k+1) _ _ (by grind)).trans ?_;rw[Array.toList_push,b6];refine List.Perm.append_left _ ?_
  have e:left=left.take (next k % left.length)++left[next k % left.length]::left.drop (next k % left.length+1):=by simp_all
  rw[List.eraseIdx_eq_take_drop_succ];refine List.Perm.trans ?_ (List.Perm.of_eq e.symm);rw[List.singleton_append];exact List.perm_middle.symm
def zfw {α:Type}(next:Nat->Nat)(xs:Array α):(pickOrder next xs).toList.Perm xs.toList:=by
 show (pickOrder.go next xs.size 0 xs.toList #[]).toList.Perm _;have:=zji next xs.size 0 xs.toList #[] (aX)
 grind
section
variable {prog:Program}{w:World}{t:SetTable}{es:Array (Int×Value)}{xs:List (List Key×Addr)}{A:Around}{E:Value->Shared->Prop}{s:Shared}
def zmg (w:World)(a:Addr)(q:Nat)(es:Array (Int×Value)):Array (Int×Value):=if w.params.followText "set-order" then pickOrder (w.params.setOrder a q) es else es
def zfv (a:Addr)(q:Nat):(zmg w a q es).toList.Perm es.toList:=by
 unfold zmg;split
 ·exact zfw _ _
 ·simp_all
def yF (h:Heap)(B a:Addr)(q i n D:Nat):Prop:=∃o,h.get? B=some o/\o.cls = .type "set_iterator" /\ o.data = .fields #[.int q 0,.int i 0,.ref a,.int n 0,.int D 0]
def yF.typeIs(x:yF s.heap B a q i n D):s.TypeIs (.ref B) "set_iterator" := let ⟨o,ho,hc,_⟩:=x;⟨o,ho,hc⟩
structure SetIs (prog:Program)(w:World)(h:Heap)(a:Addr)(es:Array (Int×Value))(ep:Nat)(t:SetTable)(xs:List (List Key×Addr)):Prop where
 ob:∃o,h.get? a=some o/\o.ExactSet/\o.data = .set es ep t
 tb:Tb prog w t es xs
def zj8{e:Int×Value}(hit:yF s.heap it a slot i es.size ep)(S:SetIs prog w s.heap a es ep t xs)(hs:w.params.followText "set-order" = true\/SetTable.below t.place slot=i)(hx:(zmg w a ep es)[i]?=some e)(hQ:∀h' slot',yF h' it a slot' (i+1) es.size ep->(w.params.followText "set-order" = true\/SetTable.below t.place slot'=i+1)->Heap.SameBut it s.heap h'->Q (some e.2) { s with heap:=h' }):wpAny (model prog w) A (pyNext (.ref it)) Q E s:=by
 obtain⟨o,ho,hc,hd⟩:=id hit;obtain⟨⟨os,hos,_,hds⟩,T⟩:=S;have hf:=T.fits;unfold pyNext
 refine aa (cD (wpAny_callSpecial?_slot (name:=Str.ofString "__next__") hit.typeIs zY
  (aR zY hit.typeIs xY ?_ (uf _))))
 refine aa (ae ?_);refine aa (eX ho hd ?_);dsimp only;refine aa (eI hos hds hf ?_);rw[if_neg (by simp)]
 have upd2:∀slot':Nat,∃h',yF h' it a slot' (i+1) es.size ep/\Heap.SameBut it s.heap h'/\∀ {A':Around} {E':Value->Shared->Prop} {α:Type} {f:Sem α} {R:α->Shared->Prop},wpAny (model prog w) A' f R E' { s with heap:=h' }->wpAny (model prog w) A' (do setField (.ref it) 0 (rawInt slot');setField (.ref it) 1 (rawInt ((i:Int)+1));f) R E' s:=by
  intro slot';have h1:(s.heap.update it (Obj.mapFields (·.setIfInBounds 0 (rawInt slot')))).get? it=some (Obj.mapFields (·.setIfInBounds 0 (rawInt slot')) o):=bi _ ho (cT (bU hd _));have hd1:(Obj.mapFields (·.setIfInBounds 0 (rawInt slot')) o).data = .fields #[.int slot' 0,.int i 0,.ref a,.int es.size 0,.int ep 0]:=by rw[bU hd];simp[rawInt]
  refine⟨(s.heap.update it (Obj.mapFields (·.setIfInBounds 0 (rawInt slot')))).update it (Obj.mapFields (·.setIfInBounds 1 (rawInt ((i:Int)+1)))),⟨_,bi _ h1 (cT (bU hd1 _)),?_,?_⟩,(br ..).trans (br ..),λ{A' E' α f R} hR=>?_⟩
  ·rw[dH,dH];exact hc
  ·rw[bU hd1];simp[rawInt]
  ·exact aa (bD ho hd (by simp) (aa (bD (s:={ s with heap:=s.heap.update it (Obj.mapFields (·.setIfInBounds 0 (rawInt slot'))) }) h1 hd1 (by simp) hR)))
 unfold setNext
 cases hb:w.params.followText "set-order" with
 | true=>
  have hx':(pickOrder (w.params.setOrder a ep) es)[i]?=some e:=by
   unfold zmg at hx
   simp_all
  obtain⟨h',hi',sb',step⟩:=upd2 slot;refine aa ?_;refine aa (bp hos hds hf ?_);dsimp only;unfold setsByText;refine aa (aa (bm (ae ?_)));rw[show (model prog w).w=w from rfl,hb];simp only[if_true];rw[if_neg (by simp)];unfold setWalk;refine aa ?_;refine aa (bp hos hds hf ?_);dsimp only;unfold setsByText;refine aa (aa (bm (ae ?_)));rw[show (model prog w).w=w from rfl,hb];simp only[if_true];refine aa (bm (ae ?_));refine ae ?_;rw[show (model prog w).w=w from rfl];simp only[aO];rw[hx'];dsimp only[Option.map];exact step (ae ⟨_,rfl,ae (hQ h' slot hi' (.inl hb) sb')⟩)
 | false=>
  have hx':es[i]?=some e:=by
   unfold zmg at hx
   grind
  have hsl:SetTable.below t.place slot=i:=by grind
  have hi:i<es.size:=(cx.mp hx').1;have hpl:t.place[i]?=some (t.place.getD i 0):=zf8 (by rw[T.sz,<- T.size];exact hi);obtain⟨h',hi',sb',step⟩:=upd2 (t.place.getD i 0+1);refine aa ?_;refine aa (bp hos hds hf ?_);dsimp only;unfold setsByText;refine aa (aa (bm (ae ?_)));rw[show (model prog w).w=w from rfl,hb];simp only[aT,if_false];rw[if_neg (by show ¬ ((!t.plain&&decide (es.size > 1))=true);rw[T.plain];simp)];refine aa ?_;show wpAny _ _ (if (!t.led&&!es.isEmpty)=true then unsupported "set:maker-not-led" else pure ()) _ _ s;rw[if_neg (by rw[T.led,hb];simp)];refine ae ?_;simp only[aO];rw[hsl,hx',hpl];refine ae ?_;dsimp only;refine step (ae ⟨_,rfl,ae (hQ h' _ hi' (.inr ?_) sb')⟩);obtain⟨b1,b2,b3⟩:=ug T.ris (t.place.getD i 0+1);have hi2:=(ua hpl).1;rcases cq (SetTable.below t.place (t.place.getD i 0+1)) (i+1) with z | z | z
  ·have:=b3 i (by lia) hi2;lia
  ·exact z
  ·have h1:=b2 (i+1) z;have h2:=T.ris i (i+1) (fJ i) (by lia);lia
def zmb(Z:A.handled=none)(B:yF s.heap I a q es.size es.size J)(S:SetIs prog w s.heap a es J t xs)(hs:w.params.followText "set-order" = true\/SetTable.below t.place q=es.size)(hQ:∀h',Heap.ExtBut I s.heap h'->Q none { s with heap:=h' }):wpAny (model prog w) A (pyNext (.ref I)) Q E s:=by
 obtain⟨o,L,hc,O⟩:=id B;obtain⟨⟨os,D,_,F⟩,T⟩:=S;have U:=T.fits;unfold pyNext
 refine aa (cD (wpAny_callSpecial?_slot (name:=Str.ofString "__next__") B.typeIs zY
  (aR zY B.typeIs xY ?_ (uf _))))
 refine aa (ae ?_);refine aa (eX L O ?_);dsimp only;refine aa (eI D F U ?_);rw[if_neg (by simp)];unfold setNext;refine aa ?_;refine aa (bp D F U ?_);dsimp only;unfold setsByText;refine aa (aa (bm (ae ?_)))
 cases hb:w.params.followText "set-order" with
 | true=>
  rw[show (model prog w).w=w from rfl,hb];simp only[if_true];rw[if_neg (by simp)];unfold setWalk;refine aa ?_;refine aa (bp D F U ?_);dsimp only;unfold setsByText;refine aa (aa (bm (ae ?_)));rw[show (model prog w).w=w from rfl,hb];simp only[if_true];refine aa (bm (ae ?_));refine ae ?_;rw[show (model prog w).w=w from rfl];simp only[aO]
  have hn:(pickOrder (w.params.setOrder a J) es)[es.size]?=none:=by rw[za8];refine List.getElem?_eq_none ?_;rw[(zfw _ es).length_eq,aX];exact ai _
  rw[hn];dsimp only[Option.map];refine aa (bD L O (by simp) ?_);show wpAny _ _ (newExc (.type "StopIteration") [] >>= _) _ _ _;refine aa ?_;simp only[newExc,newTuple];refine aa (bf ?_ (by size_fits));refine aa (m:=firstArgMember _ _) (fm (a:=Value.none) (by first | rfl | (simp only[firstArgMember];rfl)) ?_);refine bf ?_ (by size_fits);simp only[raiseNew];refine aa (fq ?_);rw[show A.in1.handled=none from Z];refine aa (ae (wpAny_throw ?_));refine aa (cz (T := "StopIteration") (b:=true) ⟨_,aq _ rfl,rfl⟩ c7 ?_);exact ae (hQ _ (((br ..).extBut.push _).push _))
 | false=>
  have Y:SetTable.below t.place q=es.size:=by grind
  rw[show (model prog w).w=w from rfl,hb];simp only[aT,if_false];rw[if_neg (by show ¬ ((!t.plain&&decide (es.size > 1))=true);rw[T.plain];simp)];refine aa ?_;show wpAny _ _ (if (!t.led&&!es.isEmpty)=true then unsupported "set:maker-not-led" else pure ()) _ _ s;rw[if_neg (by rw[T.led,hb];simp)];refine ae ?_;simp only[aO];rw[Y,Array.getElem?_eq_none (ai _)];refine ae ?_;dsimp only;refine aa (bD L O (by simp) ?_);show wpAny _ _ (newExc (.type "StopIteration") [] >>= _) _ _ _;refine aa ?_;simp only[newExc,newTuple];refine aa (bf ?_ (by size_fits));refine aa (m:=firstArgMember _ _) (fm (a:=Value.none) (by first | rfl | (simp only[firstArgMember];rfl)) ?_);refine bf ?_ (by size_fits);simp only[raiseNew];refine aa (fq ?_);rw[show A.in1.handled=none from Z];refine aa (ae (wpAny_throw ?_));refine aa (cz (T := "StopIteration") (b:=true) ⟨_,aq _ rfl,rfl⟩ c7 ?_);exact ae (hQ _ (((br ..).extBut.push _).push _))
def zjz(q:yF s.heap D a B i n F)(h:Q (.ref D) s):wpAny (model prog w) A (pyIter (.ref D)) Q E s:=by refine e7 q.typeIs uy (aR uy q.typeIs zaE ?_ (za7 _));show wpAny _ _ (ret (.ref D)) _ _ s;exact ae ⟨_,rfl,"set_iterator",_,q.typeIs,zY.lookup,h⟩
def SetIs.typeIs(S:SetIs prog w s.heap a es q t xs):s.TypeIs (.ref a) "set" := let ⟨o,ho,hc,_⟩:=S.ob;⟨o,ho,hc.1⟩
def zlO(S:SetIs prog w s.heap a es I t xs)(h:Q (.ref s.heap.objs.size) { s with heap:=s.heap.push { cls:=.type "set_iterator",data:=.fields #[.int 0 0,.int 0 0,.ref a,.int es.size 0,.int I 0] } }):wpAny (model prog w) A (pyIter (.ref a)) Q E s:=by
 have J:=S.typeIs;obtain⟨⟨L,q,O,B⟩,T⟩:=S;have D:=T.fits;refine e7 J F.slot_set_iter (aR F.slot_set_iter J zcY ?_ (F.args_set_iter_1 _));unfold Builtin.«frozenset.__iter__»;refine aa (m:=Builtin.Frozenset.slot0 "__iter__" ⟨[.ref a],[]⟩) (ae ?_);refine aa ?_;unfold Builtin.Frozenset.sizeOf;refine aa (eI q B D (ae ?_));refine aa ?_;unfold setDrawn;refine aa (bp q B D ?_);dsimp only;unfold setsByText;refine aa (aa (bm (ae ?_)));refine ae ?_;rw[if_neg (by show ¬ ((!_&&(!t.plain&&decide (es.size > 1)))=true);rw[T.plain];simp)];refine aa (ae ?_);refine aa (wpAny_setEpoch_of q B D ?_);refine aa (bf (ae ⟨_,rfl,"set_iterator",_,⟨_,aq _ rfl,rfl⟩,zY.lookup,?_⟩));simpa [rawInt] using h
end
open PySem PySem.Spec PyProof.Rows PySem.W PySem.Calls
section
variable {prog:Program}{w:World}{t:SetTable}{es:Array (Int×Value)}{xs:List (List Key×Addr)}{A:Around}{E:Value->Shared->Prop}{s:Shared}
def zmP(D:s.TypeIs (.ref r) "set")(h:Q false s):wpAny (model prog w) A (Builtin.List.listLengthHint (.ref r)) Q E s:=by
 unfold Builtin.List.listLengthHint;refine aa (eu D PySem.F.slot_set_len.lookup ?_);generalize B:("set.__len__" : String)=id0
 wp_delta
 rw[show splitId id0=some ("set","__len__") from by subst B;decide +kernel];subst B;refine aa (cz (T := "set") (b:=true) D (by rw[isSubtype_type];kernel_rfl) ?_);refine wpAny_ite_split (λq=>absurd q (by decide)) (λ_=>?_);refine wpAny_ite_split (λ_=>?_) (λq=>absurd (by decide +kernel) q);refine aa (cC D ?_);exact ae h
def SetIs.keep(S:SetIs prog w h a es q t xs)(k:∀o,h.get? a=some o->h'.get? a=some o):SetIs prog w h' a es q t xs:=let ⟨⟨o,ho,r⟩,T⟩:=S;⟨⟨o,k o ho,r⟩,T⟩
def yF.keep(S:yF h B a q i n D)(k:∀o,h.get? B=some o->h'.get? B=some o):yF h' B a q i n D:=let ⟨o,ho,r⟩:=S;⟨o,k o ho,r⟩
def SetIs.lt(S:SetIs prog w h a es q t xs):a<h.objs.size:=let ⟨⟨o,ho,_⟩,_⟩:=S;ax ho
def zkK (hh:A.handled=none)(I a:Addr)(Z:a≠I)(F:Nat) :
  Walks prog w A I [I,a] [I] es.size (λi v=>∃e,(zmg w a F es)[i]?=some e/\v=e.2) (λi h=>(∃q,yF h I a q i es.size F/\(w.params.followText "set-order" = true\/SetTable.below t.place q=i))/\SetIs prog w h a es F t xs) where
 sub:=λb J=>by simp at J;simp[J]
 frame:=λ_ _ _ st hk=>⟨let ⟨Y,x,y⟩:=st.1;⟨Y,x.keep λo e=>hk I (by simp) o e,y⟩,st.2.keep λo e=>hk a (by simp) o e⟩
 item:=λi s Q E hi st L=>by
  obtain⟨⟨Y,B,hs⟩,S⟩:=st
  have O:i<(zmg w a F es).size:=by
   have:=(zfv (w:=w) (es:=es) a F).length_eq
   grind
  refine zj8 B S hs (e:=(zmg w a F es)[i]) (bI O) λh' D U ad sb=>?_;exact L _ h' s.toks ⟨_,bI O,rfl⟩ ⟨⟨D,U,ad⟩,S.keep λo e=>(sb.2 a Z).trans e⟩ λb o J e=>sb.extBut b o (λh=>J (by simp[h])) e
 done:=λs Q E st L=>by obtain⟨⟨Y,B,hs⟩,S⟩:=st;exact zmb hh B S hs λh' ag=>L h' s.toks λb o J e=>ag b o (λh=>J (by simp[h])) e
 self:=λ_ _ _ _ st L=>let ⟨Y,x,_⟩:=st.1;zjz x L
def zp6 (a:Addr)(q:Nat):KdlSrc prog w "set" a a es.size (λi v=>∃e,(zmg w a q es)[i]?=some e/\v=e.2) (λh=>SetIs prog w h a es q t xs) where
 type:=λs S=>S.typeIs
 there:=λ_ S=>⟨S.lt,S.lt⟩
 keep:=λ_ _ S D=>S.keep λo e=>D a (.inl rfl) o e
 notList:=by decide
 notTuple:=by decide
 hint:=λ_ _ _ _ S B=>zmP S.typeIs B
 iter:=λA s F S=>⟨_,_,(λ_ _ B=>zlO S B),zkK F _ a (aJ S.lt) q,⟨⟨0,⟨_,aq _ rfl,rfl,rfl⟩,.inr ?_⟩,S.keep λo e=>af _ e⟩⟩
where finally
 have b:=ug S.tb.ris 0;rcases Nat.eq_zero_or_pos (SetTable.below t.place 0) with z | z
 ·exact z
 ·exact absurd (b.2.1 0 z) (cu _)
end
def zeL (h:Heap)(L D:Addr)(v:Value)(st:List Int):Prop:=∃ (a:Addr) (items:List Value),v = .ref a/\IsTup h a items.toArray/\yb (st.map V.int) items/\a≠L/\a≠D
def zeL.keep{st:List Int}(r:zeL h L D v st)(q:∀b o,b≠L->b≠D->h.get? b=some o->h'.get? b=some o):zeL h' L D v st:=by obtain⟨a,items,e,⟨o,B,F⟩,I,h1,h2⟩:=r;exact⟨a,items,e,⟨o,q a o h1 h2 B,F⟩,I,h1,h2⟩
def zdl:∀ {vs:List Value} {sts:List (List Int)},Paired (zeL h L D) vs sts->(∀st∈sts,1<=st.length)->∃fs,W.KatTups h vs fs/\fs.length=sts.length/\∀f∈fs,∃a t,f=Value.int a t
 | _,_,.nil,_=>⟨[],trivial,rfl,λ_ h=>by simp at h⟩
 | _,_,.cons (b:=st) r I,h1=>by
  obtain⟨a,items,rfl,⟨o,J,O,n,U⟩,q,_⟩:=r;obtain⟨fs,Y,f2,f3⟩:=zdl I λz Z=>h1 z (ao _ Z);have B:=h1 st ak
  match st,q,B with
  | z::zs,q,_=>
   cases q with
   | cons q1 qq=>
    obtain⟨t,rfl⟩:=q1;refine⟨_::fs,⟨⟨a,o,_,n,rfl,J,O,U,rfl⟩,Y⟩,by simp_all,λf F=>?_⟩;rcases aG.mp F with rfl | F
    all_goals simp_all
def zbi {α q:Type}{R:α->q->Prop}:∀ {l:List α} {l':List q},Paired R l l'->∀ {i:Nat} (d:α) (d':q),i<l'.length->R (l.getD i d) (l'.getD i d')
 | _,_,.nil,i,_,_,h=>by simp at h
 | _,_,.cons r _,0,_,_,_=>r
 | _,_,.cons _ t,i+1,d,d',h=>by have:=zbi t (i:=i) d d' (by simpa using h);simpa using this
def zds {α q:Type}{R:α->q->Prop}:∀ {l:List α} {l':List q},Paired R l l'->l.length=l'.length
 | _,_,.nil=>rfl
 | _,_,.cons _ t=>by rw[aS,aS,zds t]
section
variable {prog:Program}{w:World}{A:Around}{E:Value->Shared->Prop}{s:Shared}
def zl2{sts:List (List Int)}(ad:s.heap.Ns L m0)(ap:D≠L)(ho:s.heap.get? D=some (seqObj "list" vs.toArray n))(hv:Paired (zeL s.heap L D) vs sts)(bs:sts.length<64)(as:1<=m)(hm:∀st∈sts,st.length=m)(av:sts.Nodup)(h:∀h' c p,List.Perm p (List.range sts.length)->((p.map λi=>sts.getD i []).Pairwise λa b=>HT.lexLt a b=true)->(∀b o,b≠L->b≠D->s.heap.get? b=some o->h'.get? b=some o)->h'.Ns L m0->
   h'.get? D=some (seqObj "list" (p.map λi=>vs.getD i .none).toArray c)->Q .none { s with heap:=h' }) :
  wpAny (model prog w) A (call (.builtin "list.sort") [.ref D]) Q E s:=by
 have a0:=zds hv;by_cases h2:2<=sts.length
 ·have B:∀p∈(zaX s.heap L).filter (λq=>decide (q.1≠D)),s.heap.get? p.1=some p.2/\p.1≠L/\p.1≠D:=λp Z=>by
   have h1:=bv.mp Z;have h2:=zW.mp (show (p.1,p.2)∈zaX s.heap L from h1.1)
   simp_all
  have J:∀b,(⟨#[],{}⟩:Heap).get? b=none:=λb=>by
   cases e:(⟨#[],{}⟩:Heap).get? b with
   | none=>rfl
   | some o'=>
    have:=ax e;simp at this
  refine W.kat_lsort (h₀:=(⟨#[],{}⟩:Heap)) (L:=L) (m:=m0) (D:=D) (its:=vs.toArray) (n:=n) (news:=(D,seqObj "list" vs.toArray n)::(zaX s.heap L).filter (λq=>decide (q.1≠D))) (g:=λo=>(D,o)::(zaX s.heap L).filter (λq=>decide (q.1≠D))) ⟨ad,λb o e=>?_,aN _⟩ (λp Z=>?_) (W.UpdF.head λq hq=>(B q hq).2.2) (vs:=vs) rfl (by lia) (by lia) λe1 h' F N=>?_
  ·simp_all
  ·rcases aG.mp Z with rfl | Z
   ·simp_all
   ·exact⟨(B p Z).1,(B p Z).2.1,J _⟩
  ·have kp:∀b o,b≠L->b≠D->s.heap.get? b=some o->h'.get? b=some o:=λb o hb hD e=>(N (b,o) (ao _ (bv.mpr ⟨zW.mpr ⟨hb,e⟩,a9 hD⟩))).1;have O:Paired (zeL h' L D) vs sts:=Paired.mapP hv λv st r=>r.keep kp;obtain⟨fs,k1,k2,k3⟩:=zdl O λst a3=>by rw[hm st a3];exact as
   refine W.kat_kind (T:=.type "int") (s:={ s with heap:=h' }) k1 (by lia) (λf hf=>?_) (by decide) ?_
   ·obtain⟨a,t,rfl⟩:=k3 f hf;intro A' Q' E' s' _ hq;exact cC (fQ s' a t) hq
   ·have hu:zb0 sts.length (zcm sts):=λi j hi I e=>by
     have e1:=xz hm hi I;have e2:=xz hm I hi;rw[e,ba (fB _)] at e1;rw[e,ba (fB _)] at e2;have gi:sts.getD i []=sts[i]:=by simp[hi]
     have gj:sts.getD j []=sts[j]:=by simp[I]
     rcases u4 (a:=sts.getD i []) (b:=sts.getD j []) (by simp_all) with h | h | h
     ·rw[gi,gj] at h;exact (cg av).mp h
     all_goals grind
    obtain⟨p,ag,U⟩:=zhE hu h2;rw[show vs.length=sts.length by lia];refine ag.wp (S:=λs'=>s'={ s with heap:=h' }) (λi j C s' hi I Y hC=>?_) (λs' Y=>?_) _ rfl
    ·subst Y;obtain⟨a1,a4,b1,c1,d1,_⟩:=zbi O .none [] hi;obtain⟨a2,a5,b2,c2,d2,_⟩:=zbi O .none [] I;obtain⟨o1,a7,_,n1,bb⟩:=c1;obtain⟨o2,bd,_,n2,bk⟩:=c2;show wpAny _ _ (keyLt' _ (vs.getD i .none) (vs.getD j .none)) C _ _;rw[b1,b2]
     have gi:(sts.getD i []).length=m:=by simp_all
     have gj:(sts.getD j []).length=m:=by simp_all
     have l1:=d1.length;have l2:=d2.length;rw[ab] at l1 l2;refine W.kat_lt (s:={ s with heap:=h' }) a7 bb bd bk ?_;rw[show decide (a4.toArray.size<a5.toArray.size)=false from ba (by simp;lia)];refine zd3 0 d1 d2 (by rw[gi,gj]) ?_;have:=hC { s with heap:=h' } rfl;rw[show zfO (zcm sts) i j=HT.lexLt (sts.getD i []) (sts.getD j []) from xz hm hi I] at this;exact this
    ·subst Y
     have al:p.toList.Perm (List.range sts.length):=by have:=U.perm.toList;simpa using this
     have an:∀i∈p.toList,i<sts.length:=λi hi=>aW.mp ((al.mem_iff).mp hi);refine W.KasFin.intro F N (W.UpdF.head λq' bl=>(B q' bl).2.2) λbn c F'' N''=>?_;refine h bn c p.toList al ?_ (λb o hb hD e=>(N'' (b,o) (ao _ (bv.mpr ⟨zW.mpr ⟨hb,e⟩,a9 hD⟩))).1) F''.ns (N'' (D,_) ak).1;have bx:p.size=sts.length:=uu U.perm;rw[b8];intro i j hi I bo;rw[ab,aX] at hi I;have hk:=U.lt_of bo (by lia);rw[da,da,cZ,cZ];have e1:p.getD i 0=p[i]:=by simp[hi]
     have e2:p.getD j 0=p[j]:=by simp[I]
     unfold key at hk;rw[e1,e2] at hk;rw[<- xz hm (an _ (by simp)) (an _ (by simp))]
     simp_all
 ·refine aR slot_list_sort ⟨_,ho,rfl⟩ entry_list_sort ?_ (args_list_sort _);refine zaf ho (by lia) λh' c kp hD=>⟨_,rfl,?_⟩;refine h h' c (List.range sts.length) (List.Perm.refl _) ?_ (λb o _ hb e=>kp b o hb e) ?_ ?_
  ·grind
  ·obtain⟨o,es,ep,g,k⟩:=ad;exact⟨o,es,ep,kp _ _ (Ne.symm ap) g,k⟩
  ·rw[<- a0,zbj];exact hD
end
def zaa {α J:Type}{f:α->J}{l m:List J}(h:l.Perm m):∀ {xs:List α},m=xs.map f->∃q:List α,q.Perm xs/\l=q.map f:=by
 induction h with
 | nil=>
  simp_all
 | cons x _ L=>
  intro xs e
  cases xs with
  | nil=>cases e
  | cons y ys=>
   rw[aC] at e;injection e with O D;obtain⟨q,h1,h2⟩:=L D;exact⟨y::q,h1.cons y,by simp_all⟩
 | swap x y l=>
  intro xs e
  match xs,e with
  | [],e=>cases e
  | [_],e=>cases e
  | a::b::r,e=>
   rw[aC,aC] at e;injection e with O D;injection D with D Z;exact⟨b::a::r,.swap _ _ _,by grind⟩
 | trans _ _ F I=>
  intro xs e;obtain⟨q,h1,h2⟩:=I e;obtain⟨B,U,Y⟩:=F h2;exact⟨B,U.trans h1,Y⟩
def zhB (P:Program)(w:World)(a:Addr)(xs:List (List Key×Addr)):HO:=.ext λh=>uR P w h a xs
def yY (xs:List (List Int×Addr)):List (List Key×Addr):=xs.map λq=>(q.1.map Sum.inl,q.2)
def zgJ(S:uR P w h a xs):yp P w H h a (zhB P w a xs):=by
 refine⟨S,?_,λh1 h2 q k=>?_⟩
 ·obtain⟨o,_,_,_,B,_⟩:=S;exact⟨o,B⟩
 ·obtain⟨o,es,D,t,B,r⟩:=q;exact⟨o,es,D,t,k o B,r⟩
def zeM (P:Program)(w:World)(H:Hp)(a:Addr)(ks:List (List Int)):Prop:=∃xs:List (List Int×Addr),H a=some (zhB P w a (yY xs))/\(∀q∈xs,H q.2=some (.tup (q.1.map V.int)))/\ks=xs.map (·.1)/\ks.Nodup
def zeM.stay{ks:List (List Int)}(S:zeM P w H a ks)(h:zB H H'):zeM P w H' a ks:=by obtain⟨xs,h1,h2,B,D⟩:=S;exact⟨xs,h _ _ h1 (λ_ e=>by cases e),λq F=>h.tup (h2 q F),B,D⟩
def zcg:∀ns:List Int,(ns.map Sum.inl).map kV=ns.map V.int
 | []=>rfl
 | n::ns=>by rw[aC,aC,aC,zcg ns];rfl
section
variable {X:Cx}
def zck{pins:List (Addr×Obj)}{σ:St}{H:Hp}{s:Shared}(I:Inv X pins σ H s){ns:List Int}(h:H b=some (.tup (ns.map V.int))):(tk X.prog X.w).is s.heap (ns.map Sum.inl) b:=by
 obtain⟨its,B,⟨o,D,F,n,J⟩,_⟩:=I.tuple (.of h);refine⟨o,its.toArray,n,D,F,J,?_⟩
 have q:∀ {ns:List Int} {its:List Value},yb (ns.map V.int) its->ItemsAre (z6 X.prog X.w) (ns.map Sum.inl) its:=by
  intro ns
  induction ns with
  | nil=>intro its r;cases r;exact .nil
  | cons n ns L=>
   intro its r
   cases r with
   | cons O U=>
    obtain⟨t,rfl⟩:=O;exact .cons (zfa n t) (L U)
 exact q B
def znE (P:Program)(w:World):List V->Hp->VK->Prop:=λxs H Q=>∃ (a:Addr) (ks:List (List Int)) (m:Nat),xs=[.ref a]/\zeM P w H a ks/\ks.length<64/\1<=m/\(∀st∈ks,st.length=m)/\
 ∀ (ys:List V) (q:List (List Int)),IsL H (q.map stD) ys->q.Perm ks->(q.Pairwise λa b=>HT.lexLt a b=true)->New H (.lst ys) Q
def zha:∀ {xs:List (List Int×Addr)},(∀q∈xs,H q.2=some (.tup (q.1.map V.int)))->IsL H ((xs.map (·.1)).map stD) (xs.map λq=>V.ref q.2)
 | [],_=>rfl
 | q::xs,h=>⟨_,_,rfl,⟨q.2,_,rfl,h q ak,IsL.ints⟩,zha λr B=>h r (ao _ B)⟩
def zfM:∀ (xs:List (List Int×Addr)),yb (xs.map λq=>V.ref q.2) (xs.map λq=>Value.ref q.2)
 | []=>.nil
 | q::xs=>.cons rfl (zfM xs)
def zlv (hc:X.calm=true):CallQ X (.builtin "sorted") (znE X.prog X.w):=⟨by
 intro pins s σ H xs us Q I r h;obtain⟨a,ks,m,rfl,⟨xs,hH,a5,rfl,a7⟩,bb,bd,hm,q⟩:=h;obtain⟨u,rfl,ru⟩:=zay r;cases ru;obtain⟨⟨o,es,ep,t,ho,hx,hd,T,_⟩,_⟩:=(show yp X.prog X.w H s.heap a (zhB X.prog X.w a (yY xs)) from I.hok a _ hH);have S:SetIs X.prog X.w s.heap a es ep t (yY xs):=⟨⟨o,ho,hx,hd⟩,T⟩;obtain⟨m0,an,_⟩:=id I.loc;have hsz:es.size=xs.length:=by rw[T.size];unfold yY;rw[ab]
 rw[ab] at bb
 have bk:∀b,(⟨#[],{}⟩:Heap).get? b=none:=λb=>by
  cases e:(⟨#[],{}⟩:Heap).get? b with
  | none=>rfl
  | some o'=>
   have:=ax e;simp at this
 have ap:=zfv (w:=X.w) (es:=es) a ep;have bl:es.toList=xs.map λq=>((tk X.prog X.w).hash (q.1.map Sum.inl),Value.ref q.2):=by rw[T.eq];unfold yY;rw[au];rfl
 rw[bl] at ap;obtain⟨B,O,bn⟩:=zaa ap rfl;refine kdu_sorted (h₀:=(⟨#[],{}⟩:Heap)) (L:=X.env.locals) (m:=m0) (news:=zaX s.heap X.env.locals) (zp6 (t:=t) (xs:=yY xs) a ep) (I.ok.hd hc) ⟨an,λb o e=>(by simp_all),aN _⟩ (λp hp=>?_) S (by rw[hsz,bQ];lia) λD h' as vs F N bo hl hP=>?_
 ·obtain⟨b,o⟩:=p;have:=zW.mp hp
  simp_all
 ·have bs:vs=B.map λq=>Value.ref q.2:=by
   have ch:=O.length_eq;refine fH (by simp_all) λj h1 h2=>?_;obtain⟨e,he,hv⟩:=hP j vs[j] (ah h1);rw[za8,bn,am] at he;rw[ab] at h2;rw[ah h2] at he;rw[hv,da,<- bw he]
  have kp:∀b o,b≠X.env.locals->s.heap.get? b=some o->h'.get? b=some o:=λb o hb e=>(N (b,o) (ao _ (zW.mpr ⟨hb,e⟩))).1;have av:D≠X.env.locals:=(N (D,_) ak).2.1
  have bx:s.heap.get? D=none:=by
   cases e:s.heap.get? D with
   | none=>rfl
   | some o=>exact absurd (bo (D,o) (zW.mpr ⟨av,e⟩)) (cA _)
  have Y:H D=none:=by
   cases e:H D with
   | none=>rfl
   | some o=>
    obtain⟨o',a0⟩:=zaQ (I.hok D o e)
    grind
  have U:∀q∈B,H q.2=some (.tup (q.1.map V.int)):=λq Z=>a5 q ((O.mem_iff).mp Z)
  have a1:Paired (zeL h' X.env.locals D) vs (B.map (·.1)):=by
   rw[bs]
   have b0:∀ (l:List (List Int×Addr)),(∀q∈l,H q.2=some (.tup (q.1.map V.int)))->Paired (zeL h' X.env.locals D) (l.map λq=>Value.ref q.2) (l.map (·.1)):=by
    intro l
    induction l with
    | nil=>intro _;exact .nil
    | cons q l ih=>
     intro hl;have Z:=hl q ak;obtain⟨items,rv,⟨o',a0,b1⟩,_⟩:=I.tuple (.of Z);have a2:=zc Z I.free;exact .cons ⟨q.2,items,rfl,⟨o',kp _ _ a2 a0,b1⟩,rv,a2,zc Z Y⟩ (ih λr hr=>hl r (ao _ hr))
   exact b0 B U
  have ad:=O.map (·.1);refine zl2 (s:={ s with heap:=h',toks:=as }) F.ns av (N (D,_) ak).1 a1 (by simp_all) bd (λst b2=>hm st ((ad.mem_iff).mp b2)) (ad.nodup_iff.mpr a7) λcl c p hp a3 b3 ca a4=>?_;have cc:∀i∈p,i<B.length:=λi hi=>by have:=aW.mp ((hp.mem_iff).mp hi);rwa[ab] at this
  have J:(p.map λi=>(B.map (·.1)).getD i [])=(p.map λi=>B.getD i ([],0)).map (·.1):=by simp_all
  have ag:(p.map λi=>vs.getD i .none)=(p.map λi=>B.getD i ([],0)).map λq=>Value.ref q.2:=by simp_all
  have cd:∀q∈(p.map λi=>B.getD i ([],0)),H q.2=some (.tup (q.1.map V.int)):=λq Z=>by
   obtain⟨i,hi,rfl⟩:=az.mp Z;have h1:=cc i hi;have:B.getD i ([],0)=B[i]:=by simp[h1]
   rw[this];exact U _ (bO h1)
  rw[ag] at a4;rw[J] at a3;have al:p.length=xs.length:=by rw[hp.length_eq,aA,ab,O.length_eq]
  have I':=zdX I an (ys:=(p.map λi=>B.getD i ([],0)).map λq=>V.ref q.2) (λb o hb e=>b3 b o hb (by grind) (kp b o hb e)) ca bx Y a4 (zfM _) (by rw[ab,ab,al,bQ];lia) as;refine⟨.ref D,_,I',rfl,(q _ ((p.map λi=>B.getD i ([],0)).map (·.1)) (zha cd) ?_ a3).at Y⟩;refine List.Perm.trans ?_ ad;rw[<- J];have:=hp.map λi=>(B.map (·.1)).getD i [];rwa[zbj] at this⟩
end
open PySem PySem.Spec PyProof.Rows
def zeT (elt target iter:Expr)(ifs:List Expr)(scope:Scope)(pos:Pos)(it acc:Value)(env:Env) :
  compTurn (.SetComp elt [⟨target,iter,ifs,0⟩] scope pos) 0 it acc env=(do
   standAt iter.pos
   match <- pyNext it with
   | none=>pure (.done .next)
   | some v=>
    letOwnedTupleGo target it v
    assign target env v
    let mut ok:=true
    for c in ifs do
     if ok then ok <- isTrue c env (eval c env)
    if ok then
     (do let v <- eval elt env;standAt elt.pos;let _ <- call (.builtin "set.add") [acc,v])
    again (.compLoop (.SetComp elt [⟨target,iter,ifs,0⟩] scope pos) 0 it acc env)):=by rfl
section
variable {prog:Program}{w:World}{A:Around}{E:Value->Shared->Prop}{R:Result->Shared->Prop}{s:Shared}
def uV {elt target iter ifs zR scope pos it acc env}
  (h0:codeAny (model prog w) A (.compLoop (.SetComp elt (⟨target,iter,ifs,0⟩::zR) scope pos) 0 it acc env) R s)
  (h:wpAny (model prog w) A (pyIter it) (λit' s'=>codeAny (model prog w) A (.compLoop (.SetComp elt (⟨target,iter,ifs,0⟩::zR) scope pos) 0 it' acc env) R s')
   (notedBy (model prog w) A env λx s'=>R (.error x) s') s) :
  codeAny (model prog w) A (.compStart (.SetComp elt (⟨target,iter,ifs,0⟩::zR) scope pos) 0 it acc env) R s:=by
 refine dr ?_;show wpAny _ _ ((compStart (.SetComp elt (⟨target,iter,ifs,0⟩::zR) scope pos) 0 it acc env).onRaise (λx=>do noteFrame x env;standAt theWindowsPlace)) _ _ s;refine wpAny_notedAt ?_;unfold compStart;show wpAny _ _ (ask >>= _) _ _ s;refine aa (bm (wpAny_ite ?_));split
 ·first
   | exact aa (by grind)
   | exact ae (And.intro rfl h0)
 ·first
   | exact aa (by grind)
   | (refine aa (dG ?_);show wpAny _ _ (standAt iter.pos >>= _) _ _ s;exact aa (bM (aa (aU h (λit' s' h'=>ae (And.intro rfl h')) λ_ _ x=>x))))
def zbJ(I:Nat->Shared->Prop)(turn:∀n s,I n s->wpAny (model prog w) A (pyNext it) (λr s₁=>match r with
   | none=>R (.ok .next) s₁
   | some v=>wpAny (model prog w) A (letOwnedTupleGo target it v) (λ_ s₂=>wpAny (model prog w) A (assign target env v) (λ_ s₃=>
     wpAny (model prog w) A (forIn ifs true λc r=>if r=true then do let ok <- isTrue c env (eval c env);pure (ForInStep.yield ok) else pure (ForInStep.yield r)) (λok s₄=>
      if ok=true then wpAny (model prog w) A (eval elt env) (λx s₅=>
       wpAny (model prog w) A (call (.builtin "set.add") [acc,x]) (λ_ s₆=>∃m,m<n/\I m s₆) (λ_ _=>False) s₅) (λ_ _=>False) s₄
      else ∃m,m<n/\I m s₄) (λ_ _=>False) s₃) (λ_ _=>False) s₂) (λ_ _=>False) s₁) (λ_ _=>False) s)(n:Nat)(h:I n s) :
  codeAny (model prog w) A (.compLoop (.SetComp elt [⟨target,iter,ifs,0⟩] scope pos) 0 it acc env) R s:=by
 refine eQ rfl I (λn s hI=>?_) n h;show wpAny _ A ((compTurn (.SetComp elt [⟨target,iter,ifs,0⟩] scope pos) 0 it acc env).onRaise (λx=>do noteFrame x env;theTreesLotGoes x)) _ _ s;refine fj ?_;rw[zeT];refine aa (bM (aa (aU (turn n s hI) (λr s₁ h₁=>?_) λ_ _ h'=>h'.elim)))
 cases r with
 | none=>exact ae h₁
 | some v=>
  refine aa (aU h₁ (λ_ s₂ h₂=>?_) λ_ _ h'=>h'.elim);refine aa (aU h₂ (λ_ s₃ h₃=>aa (aU h₃ (λok s₄ h₄=>?_) λ_ _ h'=>h'.elim)) λ_ _ h'=>h'.elim)
  cases ok with
  | false=>exact ae ⟨rfl,h₄⟩
  | true=>
   exact aa (aa (aU h₄ (λx s₅ h₅=>aa (bM (aa (aU h₅ (λ_ s₆ h₆=>ae (ae ⟨rfl,h₆⟩)) λ_ _ h'=>h'.elim)))) λ_ _ h'=>h'.elim))
def zj5(h:Q (.ref s.heap.objs.size) { s with heap:=s.heap.push { cls:=.type "set",dict:=none,data:=.set #[] 0 (.fresh 0 0 (!w.params.followText "set-order")) } }):wpAny (model prog w) A (newSet (.type "set")) Q E s:=by unfold newSet setsByText;refine aa (aa (bm (ae ?_)));dsimp only;simp only[newObj];exact aa (wpAny_alloc (ae h))
def zfE (h:Heap):uR prog w (h.push { cls:=.type "set",dict:=none,data:=.set #[] 0 (.fresh 0 0 (!w.params.followText "set-order")) }) h.objs.size []:=by
 refine⟨_,#[],0,_,aq _ rfl,⟨rfl,rfl,rfl⟩,rfl,⟨rfl,eV,rfl,λi j _ B=>?_,λi j e=>?_,rfl,.inl rfl,aN _,rfl,rfl,λi q e=>?_⟩,by show 0 * 5<7 * 3;decide⟩
 ·exact absurd B (cu _)
 ·simp[SetTable.fresh] at e
 ·simp at e
end
def xU:∀ {ns q:List Int},ns.map (Sum.inl:Int->Key)=q.map Sum.inl->ns=q
 | [],[],_=>rfl
 | [],_::_,e=>by cases e
 | _::_,[],e=>by cases e
 | n::ns,m::q,e=>by rw[aC,aC] at e;injection e with B D;rw[Sum.inl.inj B,xU D]
section
variable {X:Cx}
def zik {pins:List (Addr×Obj)}{σ:St}{H:Hp}{s:Shared}{acc b:Addr}{ns:List Int}{ks:List (List Int)}{Q:Value->Shared->Prop}(hu:X.A.units+1<cLine)(I:Inv X pins σ H s)(S:zeM X.prog X.w H acc ks)(hb:H b=some (.tup (ns.map V.int)))(hn:ks.length<300)
  (h:∀o ks' s',zeM X.prog X.w (upd H acc o) acc ks'->(∀x,x∈ks'↔x=ns\/x∈ks)->ks'.length<=ks.length+1->Inv X pins σ (upd H acc o) s'->Q .none s') :
  wpAny (model X.prog X.w) X.A (call (.builtin "set.add") [.ref acc,.ref b]) Q X.xe s:=by
 obtain⟨xs,hH,hel,rfl,hnd⟩:=S;have hS:=(show yp X.prog X.w H s.heap acc (zhB X.prog X.w acc (yY xs)) from I.hok acc _ hH).1;obtain⟨o,es,ep,t,ho,hx,hd,T,hroom⟩:=id hS;refine aR F.slot_set_add ⟨o,ho,hx.1⟩ F.entry_set_add ?_ (F.args_set_add_2 _ _);unfold Builtin.«set.add»;refine aa (m:=Builtin.Frozenset.oneOther "add" ⟨[.ref acc,.ref b],[]⟩) (ae ?_);have hba:b≠acc:=zj4 hb hH (by intro z;cases z);have hea:∀q∈xs,q.2≠acc:=λq hq=>zj4 (hel q hq) hH (by intro z;cases z);rw[ab] at hn;refine aa (zm7 (A:=X.A.in1) (xs:=yY xs) (ns:=ns) (aP (ai _) hu) hS (zck I hb) (λq hq=>?_) (by unfold yY;rw[ab];exact hn) λr h' n xs' sb S' hin hout=>?_)
 ·unfold yY at hq;obtain⟨q',hq',rfl⟩:=az.mp hq;exact zck I (hel q' hq')
 ·
  have mem_key:∀ {l:List (List Int×Addr)},(ns.map Sum.inl)∈(yY l).map (·.1)↔ns∈l.map (·.1):=by
   intro l;unfold yY;rw[au,az,az];constructor
   ·rintro⟨q,hq,e⟩;refine⟨q,hq,?_⟩;have e':q.1.map (Sum.inl:Int->Key)=ns.map Sum.inl:=e;exact xU e'
   ·rintro⟨q,hq,rfl⟩;exact⟨q,hq,rfl⟩
  have fin:∀xs2:List (List Int×Addr),xs'=yY xs2->(∀q∈xs2,q∈xs\/q=(ns,b))->(∀x,x∈xs2.map (·.1)↔x=ns\/x∈xs.map (·.1))->(xs2.map (·.1)).Nodup->xs2.length<=xs.length+1->wpAny (model X.prog X.w) X.A.in1 (do ret .none) (λfin s'=>∃v,fin = .done (.ret v)/\Q v s') X.xe { s with heap:=h',toks:=n }:=by
   rintro xs2 rfl hsub hmem hnd2 hlen
   have hel2:∀q∈xs2,H q.2=some (.tup (q.1.map V.int)):=λq hq=>by
    rcases hsub q hq with z | z
    ·exact hel q z
    ·rw[z];exact hb
   have hea2:∀q∈xs2,q.2≠acc:=λq hq=>zj4 (hel2 q hq) hH (by intro z;cases z);refine ae ⟨.none,rfl,h (zhB X.prog X.w acc (yY xs2)) (xs2.map (·.1)) _ ⟨xs2,zk,λq hq=>by rw[zg (hea2 q hq)];exact hel2 q hq,rfl,hnd2⟩ hmem (by simp_all) ?_⟩;refine I.write (e:=acc) (by rw[hH];trivial) (.inl rfl) (λc u hc q=>sb.extBut c u hc q) ?_ (zgJ S');obtain⟨o',_,_,_,ho',_⟩:=S';exact⟨o',ho'⟩
  by_cases hm:ns∈xs.map (·.1)
  ·have:=hin (mem_key.mpr hm);refine fin xs this (λq hq=>.inl hq) (λx=>⟨.inr,λz=>z.elim (λe=>e ▸ hm) id⟩) hnd (db _)
  ·have hp:=hout λz=>hm (mem_key.mp z);have hk:((ns.map Sum.inl,b)::yY xs)=yY ((ns,b)::xs):=rfl;rw[hk] at hp;obtain⟨xs2,hp2,e2⟩:=zaa hp rfl;refine fin xs2 e2 (λq hq=>?_) (λx=>?_) ?_ ?_
   ·grind
   ·rw[(hp2.map (·.1)).mem_iff,aC,aG]
   ·rw[(hp2.map (·.1)).nodup_iff,aC,bT];exact⟨hm,hnd⟩
   ·rw[hp2.length_eq,aS];exact ai _
end
def ze1(elt gens scope pos):eval (.SetComp elt gens scope pos) env=comprehension (.SetComp elt gens scope pos) scope env (firstIterPos gens pos) (newSet (.type "set")) (firstAsync gens) (firstIter gens env):=rfl
def setT (P:Program)(w:World)(g:TG)(ti:TT)(te:TE)(acc:Addr)(N:St->Hp->Prop)(x:V)(σ:St)(H:Hp):Prop:=
 g x σ H λq H3=>ti q H3 λD H4=>if D=true then te q H4 λv H5=>∃b ns ks,v = .ref b/\H5 b=some (.tup (ns.map V.int))/\zeM P w H5 acc ks/\ks.length<300/\
  (∀o B,zeM P w (upd H5 acc o) acc B->(∀x,x∈B↔x=ns\/x∈ks)->B.length<=ks.length+1->N q (upd H5 acc o)) else N q H4
def setG (P:Program)(w:World)(J:It)(g:TG)(ti:TT)(te:TE)(acc:Addr)(Q:VK)(σ:St)(H:Hp):Prop:=∃W:Nat->Nat->St->Hp->Prop,(∃m,W 0 m σ H)/\
 ∀i m q H',W i m q H'->(J.stop i H'/\Q (.ref acc) H')\/(J.go i H'/\∃N:St->Hp->Prop,(∀ B H2,N B H2->∃D,D<m/\W (i+1) D B H2)/\∀x H2,J.yld i H' x H2->setT P w g ti te acc N x q H2)
def zqi (P:Program)(w:World)(wi:TI)(g:TG)(ti:TT)(te:TE)(cix:List (Option Nat)):TE:=λσ H Q=>wi σ H λJ H1=>∀acc,H1 acc=none->zeM P w (upd H1 acc (zhB P w acc [])) acc []->setG P w J g ti te acc Q (zaB σ cix) (upd H1 acc (zhB P w acc []))
section
variable {X:Cx}{Fam:Cx->Prop}{scope:Scope}{N:List Str}{cix:List (Option Nat)}{z:Str}{use:Option (Value->Sem Unit)}{Qp:Value->Shared->Prop}{elt ke ve tg iter tg2 iter2:Expr}{ifs ifs2:List Expr}{pos ipos spos px:Pos}{wi wi2:TI}{g g2:TG}{ti ti2:TT}{te tk tv:TE}{pins:List (Addr×Obj)}{σ:St}{H:Hp}{s:Shared}{Q:VK}{o0:HO}
def zmO (hu:X.A.units+1<cLine)(O:Opn X scope cix Fam)(hc:X.calm=true)(hi:PI X tg iter wi)(hg:∀X',Fam X'->PG X' tg g)(ht:∀X',Fam X'->PTs X' ifs ti)(he:∀X',Fam X'->PE X' elt te)(hs:∀x,foldedSetIterable iter X.env x=pure x)(I:Inv X pins σ H s)
  (h:zqi X.prog X.w wi g ti te cix σ H Q) (F:zt4 X pins σ use Qp Q) :
  wpAny (model X.prog X.w) X.A (comprehension (.SetComp elt [⟨tg,iter,ifs,0⟩] scope pos) scope X.env ipos (newSet (.type "set")) false (eval iter X.env) use) Qp X.xe s:=
 zaD (ob:={ cls:=.type "set",dict:=none,data:=.set #[] 0 (.fresh 0 0 (!X.w.params.followText "set-order")) }) (o0:=λa=>zhB X.prog X.w a []) (Fin:=λacc H=>Q (.ref acc) H) (B:=λX' acc P s=>wpAny (model X'.prog X'.w) X'.A (eval elt X'.env) (λx s5=>wpAny (model X'.prog X'.w) X'.A (call (.builtin "set.add") [.ref acc,x]) (λ_ s6=>P s6) (λ_ _=>False) s5) (λ_ _=>False) s) (tb:=λacc Nx σ H=>te σ H λv H5=>∃ (b:Addr) (ns:List Int) (ks:List (List Int)),v = .ref b/\H5 b=some (.tup (ns.map V.int))/\zeM X.prog X.w H5 acc ks/\ks.length<300/\(∀o D,zeM X.prog X.w (upd H5 acc o) acc D->(∀x,x∈D↔x=ns\/x∈ks)->D.length<=ks.length+1->Nx σ (upd H5 acc o))) O hc rfl hs (λ_ _ _ _ _ h0 h1=>uV h0 h1) (λ_ _ _ _ _ _ I L n h=>zbJ I L n h) (λs Q h=>zj5 h) (λ_ _=>zgJ (zfE _)) hi hg ht (λX' hF pX wX AX _ xX acc pl s σ H Nx P I q k=>by have e9:=he X' hF pl s σ H _ I q;rw[xX] at e9;refine thn e9 ?_;rintro u2 ad ⟨v,H10,I10,Y,b,ns,ks,rfl,hb,S,Z,nx⟩;cases Y;have U:=zik (X:=X') (Q:=λ_ s'=>P s') (by rw[AX];exact hu) I10 (by simp_all) hb Z λo D s' S' hm hl I'=>k _ _ _ I' (nx o D (by simp_all) hm hl);rw[xX] at U;exact U) I h (λJ H1 acc q Z=>q acc Z ⟨[],zk,λq hq=>by simp at hq,rfl,eV⟩) F
end
def zig(B:X.A.units+1<cLine)(D:X.calm=true)(c:CompOk X scope N cix)(hi:QI X tg iter wi)(F:∀C s H ex,QG (zw X scope N C s H ex) tg g)(J:∀C s H ex,QTs (zw X scope N C s H ex) ifs ti)(L:∀C s H ex,QE (zw X scope N C s H ex) elt te)(hs:∀x,foldedSetIterable iter X.env x=pure x:=by intro _;rfl):QE X (.SetComp elt [⟨tg,iter,ifs,0⟩] scope pos) (zqi X.prog X.w wi g ti te cix):=⟨λpins s σ H Q I h=>by
 rw[ze1];exact zmO B (ut c) D hi.run (zbT λC s H ex=>(F C s H ex).run) (zbT λC s H ex=>(J C s H ex).run) (zbT λC s H ex=>(L C s H ex).run) hs I h λ_ _ _ _ _ O U q=>zdU O U q⟩
section
variable {P:Program}{w:World}{K:PySem.W.Frag}{a acc:Addr}{xs:List V}{g:TG}{ti:TT}{te:TE}{σ:St}{H:Hp}{Q:VK}
end
open PySem
def zkI (H:Hp):xh H H:=λ_ _ z=>z
open PySem PySem.Spec PyProof.Rows
structure FunD (K:PySem.W.Frag)(x qual:Str)(st:Stmt)(f:Addr)(fd:FuncData):Prop where
 ex:∃ (oc:Value) (od:Option Addr) (dV kV doc pm:Value) (an:Option Addr) (cdv ct:Value) (osl:Array (Option Value)),
  fd=PySem.W.fnOf x qual (xc st) (zP st) (zf st) dV kV doc pm an cdv ct/\K.lookup f=some ⟨oc,od,.func fd,osl⟩/\PySem.W.codeIn K cdv qual=true
 kp:PySem.W.keepIn K (.ref f)=true
def FunD.okQ{P:Program}{w:World}{K:PySem.W.Frag}{mg:Str->Option Value}{base:Heap}{x D:Str}{st:Stmt}{f:Addr}{fd:FuncData}{N ps:List Str}{sp:Sp}(F:FunD K x D st f fd)(S:FnScope N ps (zf st))(L:∀vs H Q E,sp vs H Q E->vs.length=ps.length)(J:∀ (I:Value) (A:Around) (B:List Env) (s:Shared) (H:Hp) (vs:List V) (Q:VK) (E:XK),Room k (A.deeper (envOfC D (zf st) s.heap.objs.size f I))->sp vs H Q E->
   ∃t,QSs (zcX CX0 P w K mg base N D (zf st) f I A B s H E).nox (zP st) t/\t { nx:=λ_ H'=>Q .non H',rt:=Q } (xj N vs) H):FnOk P w K mg base CX0 (k+1) f fd ps sp:=by
 obtain⟨oc,od,dV,kV,Y,pm,an,I,ct,Z,rfl,lk,O⟩:=F.ex;refine zrf lk O S L λA B s H vs Q E hr U=>?_;obtain⟨t,h,q⟩:=J I A B s H vs Q E hr U;exact⟨t,h.run.nox,q⟩
structure DfnD (K:PySem.W.Frag)(mg:Str->Option Value)(x:Str)(st:Stmt)(ps:List Str)(ds:List Value)(f:Addr)(fd:FuncData):Prop where
 F:FunD K x x st f fd
 b:zdA K fd ps []
 bd:zdA K fd ps ds
 m:mg x=some (.ref f)
section
variable {X:Cx}
def zsy{x:Str}{st:Stmt}{ps:List Str}{ds:List Value}{dv:List V}{f:Addr}{fd:FuncData}{sp:Sp}{es:List Expr}{p pos:Pos}(D:DfnD X.K X.mg x st ps ds f fd)(J:yb dv ds)(G:FnOk X.prog X.w X.K X.mg X.base CX0 j f fd ps sp)(L:Room k X.A)(O:QA X (e::es) t)(q:j<=k:=by decide)(U:Gl X x:=by rfl)(B:(x==("__debug__" : Str))=false:=by decide)(Y:starEach (e::es) X.env=(false,eval e X.env)::starEach es X.env:=by rfl)(I:(backTo pos (starEach es X.env)).any (·.1)=false:=by rfl) :
  QE X (.Call (.Name x p) (e::es) [] pos) (zfJ sp dv E0 t):=
 ⟨zkj G (L.mono q) U D.m D.F.kp D.bd J zr4 O.run B Y I⟩
end
def zot{K:PySem.W.Frag}{x q:Str}{st:Stmt}{f:Addr}{U I:Option Addr}{F:Array (Option Value)}{J kV D L B ct:Value}(l:K.lookup f=some ⟨O,U,.func (PySem.W.fnOf x q (xc st) (zP st) (zf st) J kV D L I B ct),F⟩)(c:PySem.W.codeIn K B q=true)(k:PySem.W.keepIn K (.ref f)=true):FunD K x q st f (PySem.W.fnOf x q (xc st) (zP st) (zf st) J kV D L I B ct):=⟨⟨O,U,J,kV,D,L,I,B,ct,F,rfl,l,c⟩,k⟩
def zm9{K:PySem.W.Frag}{fd:FuncData}{f:Addr}(l:K.lookup f=some ⟨F,B,.func fd,D⟩){ps:List Str}{items:Array Value}{L:Array (Option Value)}(O:fd.defaults = .ref T)(U:K.lookup T=some ⟨I,J,.seq items n,L⟩)(h:∀q:List Value,(q++ds).length=ps.length->∃k:Option (Array Value)->Sem (List (Str×Value)),bindArgs fd ⟨q,[]⟩=seqItems? fd.defaults >>= k/\k (some items)=pure (ps.zip (q++ds))):zdA K fd ps ds:=λs q KX Y=>by
 obtain⟨k,h1,h2⟩:=h q Y;exact .of_defaults O (KX _ _ U) rfl h1 h2
open PySem PySem.Spec PyProof.Rows PySem.W PySem.Calls
section
variable {prog:Program}{w:World}{A:Around}{E:Value->Shared->Prop}{s:Shared}{es:Array DictEntry}
def uA (h:Heap)(d:Addr)(es:Array DictEntry)(q:Nat):Prop:=∃o,h.get? d=some o/\o.ExactDict/\o.data = .dict es q
def uA.keep(x:uA h d es q)(k:∀o,h.get? d=some o->h'.get? d=some o):uA h' d es q:=let ⟨o,ho,r⟩:=x;⟨o,k o ho,r⟩
def uA.typeIs(x:uA s.heap d es q):s.TypeIs (.ref d) "dict" := let ⟨o,ho,hc,_⟩:=x;⟨o,ho,hc.1⟩
def zaK(O:(d==sysModules)=false)(I:uA s.heap d es D)(L:Q (.ref s.heap.objs.size) { s with heap:=s.heap.push { cls:=.type "dict_keyiterator",data:=.fields #[.ref d,.int 0 0,.int es.size 0,.int D 0] } }) :
  wpAny (model prog w) A (pyIter (.ref d)) Q E s:=by
 obtain⟨o,J,U,q⟩:=id I;have B:=I.typeIs;refine e7 B PySem.F.slot_dict_iter (aR PySem.F.slot_dict_iter B PySem.F.entry_dict_iter ?_ (PySem.F.args_dict_iter_1 _));unfold Builtin.«dict.__iter__»;refine aa ?_;unfold Builtin.Dict.dictSlotNone;refine aa (wpAny_notOrdered_dict B ?_);show wpAny _ _ (pure (Value.ref d)) _ _ s;refine ae ?_;show wpAny _ _ (Builtin.Dict.showsAll d >>= _) _ _ s;unfold Builtin.Dict.showsAll;rw[if_neg (by simp_all)];refine aa (ae ?_);refine aa (e8 J q ?_);refine aa (wpAny_dictEpoch J q ?_);refine aa (bf (ae ⟨_,rfl,"dict_keyiterator",_,⟨_,aq _ rfl,rfl⟩,PySem.F.slot_dict_keyiterator_next.lookup,?_⟩));simpa [rawInt] using L
def zhh(q:s.heap.IsKeyIter B d i es.size L)(Y:uA s.heap d es L)(Z:es[i]?=some e)(hQ:∀h',h'.IsKeyIter B d (i+1) es.size L->Heap.SameBut B s.heap h'->Q (.done (.ret e.key)) { s with heap:=h' }):wpAny (model prog w) A (Builtin.«dict_keyiterator.__next__» { pos:=[Value.ref B] }) Q E s:=by
 obtain⟨o,U,hc,O⟩:=id q;obtain⟨od,F,ad,I⟩:=id Y;refine aa (ae ?_);refine aa ?_;refine aa ?_
 first | refine aa (ci q.typeIs (ae ?_)) | refine aa (by grind)
 refine aa (eX U O ?_);have J:Builtin.Dict_items.ownsTuple "dict_keyiterator" = false:=by decide
 simp only[J,aT,if_false];show wpAny _ _ (if (Value.ref d==Value.none)=true then _ else _) _ _ s;rw[if_neg (by grind)];refine aa (ae ?_);refine aa (e8 F I ?_);rw[if_neg (by simp)];refine aa (ae ?_);refine aa (wpAny_dictEpoch F I ?_);rw[if_neg (by simp)];refine ae ?_;simp only[show ¬ ((i:Int)<0) from by lia,if_false,aO,Z];refine aa ?_
 first | refine aa (ci q.typeIs (ae ?_)) | refine aa (by grind)
 refine aa (wpAny_isOneOf_keyiter q.typeIs ?_);show wpAny _ _ (setField (.ref B) 1 (rawInt ((i:Int)+1)) >>= _) _ _ s;refine aa (bD U O (by simp) ?_)
 have D:(s.heap.update B (Obj.mapFields (·.setIfInBounds 1 (rawInt ((i:Int)+1))))).IsKeyIter B d (i+1) es.size L:=
  ⟨_,bi _ U (cT (bU O _)),(dH ..).trans hc,by rw[bU O];simp[rawInt]⟩
 refine aa (be ?_);refine aa (wpAny_isOneOf_keyiter (s:={ s with heap:=s.heap.update B (Obj.mapFields (·.setIfInBounds 1 (rawInt ((i:Int)+1)))) }) D.typeIs ?_);show wpAny _ _ (pure e.key) _ _ _;exact ae (ae (hQ _ D (br ..)))
def zia(q:s.heap.IsKeyIter B d i es.size D)(F:uA s.heap d es D)(I:es[i]?=some e)(J:∀h',h'.IsKeyIter B d (i+1) es.size D->Heap.SameBut B s.heap h'->Q (some e.key) { s with heap:=h' }):wpAny (model prog w) A (pyNext (.ref B)) Q E s:=by
 unfold pyNext
 exact aa (cD (wpAny_callSpecial?_slot (name:=Str.ofString "__next__") q.typeIs aY
  (aR aY q.typeIs bR (zhh q F I λh' a b=>⟨_,rfl,ae (J h' a b)⟩) (bK _))))
def zjJ(U:A.handled=none)(q:s.heap.IsKeyIter I d es.size es.size J)(Y:uA s.heap d es J)(Z:∀h' x,Heap.ExtBut I s.heap h'->(∃o,h'.get? x=some o/\o.cls = .type "StopIteration")->E (.ref x) { s with heap:=h' }):wpAny (model prog w) A (Builtin.«dict_keyiterator.__next__» { pos:=[Value.ref I] }) Q E s:=by
 obtain⟨o,L,hc,O⟩:=id q;obtain⟨od,B,ad,D⟩:=id Y;refine aa (ae ?_);refine aa ?_;refine aa ?_
 first | refine aa (ci q.typeIs (ae ?_)) | refine aa (by grind)
 refine aa (eX L O ?_);have F:Builtin.Dict_items.ownsTuple "dict_keyiterator" = false:=by decide
 simp only[F,aT,if_false];show wpAny _ _ (if (Value.ref d==Value.none)=true then _ else _) _ _ s;rw[if_neg (by grind)];refine aa (ae ?_);refine aa (e8 B D ?_);rw[if_neg (by simp)];refine aa (ae ?_);refine aa (wpAny_dictEpoch B D ?_);rw[if_neg (by simp)];refine ae ?_;simp only[show ¬ ((es.size:Int)<0) from by lia,if_false,aO,Array.getElem?_eq_none (ai es.size)];refine aa ?_
 first | refine aa (ci q.typeIs (ae ?_)) | refine aa (by grind)
 show wpAny _ _ (setField (.ref I) 0 .none >>= _) _ _ s;refine aa (bD L O (by simp) ?_);show wpAny _ _ (newExc (.type "StopIteration") [] >>= _) _ _ _;refine aa ?_;simp only[newExc,newTuple];refine aa (bf ?_ (by size_fits));refine aa (m:=firstArgMember _ _) (fm (a:=Value.none) (by first | rfl | (simp only[firstArgMember];rfl)) ?_);refine bf ?_ (by size_fits);simp only[raiseNew];refine aa (fq ?_);rw[U];refine aa (ae (wpAny_throw ?_));exact Z _ _ (((br ..).extBut.push _).push _) ⟨_,aq _ rfl,rfl⟩
def zj6(F:A.handled=none)(q:s.heap.IsKeyIter B d es.size es.size D)(I:uA s.heap d es D)(J:∀h',Heap.ExtBut B s.heap h'->Q none { s with heap:=h' }):wpAny (model prog w) A (pyNext (.ref B)) Q E s:=by
 unfold pyNext
 refine aa (cD (wpAny_callSpecial?_slot (name:=Str.ofString "__next__") q.typeIs aY
  (aR aY q.typeIs bR (zjJ F q I λh' x a b=>?_) (bK _))))
 exact aa (cz (T := "StopIteration") (b:=true) b c7 (ae (J _ a)))
def zdg (I:A.handled=none)(q d:Addr)(B:d≠q)(D:Nat) :
  Draws prog w A q [q,d] es.size (λi v=>∃e,es[i]?=some e/\v=e.key) (λi h=>h.IsKeyIter q d i es.size D/\uA h d es D) where
 live:=λ_ _ st=>let ⟨o,ho,_⟩:=st.1;⟨o,ho⟩
 frame:=λ_ _ _ st F=>⟨let ⟨o,ho,r⟩:=st.1;⟨o,F q (by simp) o ho,r⟩,st.2.keep λo e=>F d (by simp) o e⟩
 item:=λi s Q E hi st J=>by
  unfold Builtin.SmallTypes.nextOf
  exact aa (wpAny_callSpecial?_slot (name:=Str.ofString "__next__") st.1.typeIs aY
   (aR aY st.1.typeIs bR (zhh st.1 st.2 (bI hi) λh' a b=>⟨_,rfl,ae (J _ h' s.toks ⟨_,bI hi,rfl⟩ ⟨a,st.2.keep λo e=>(b.2 d B).trans e⟩ b)⟩) (bK _)))
 done:=λs Q E st L=>by
  unfold Builtin.SmallTypes.nextOf
  exact aa (wpAny_callSpecial?_slot (name:=Str.ofString "__next__") st.1.typeIs aY
   (aR aY st.1.typeIs bR (zjJ I st.1 st.2 L) (bK _)))
end
section
variable {prog:Program}{w:World}{A:Around}{E:Value->Shared->Prop}{s:Shared}
end
section
variable {X:Cx}
end
def zhf (kvs:List (List Int×V)):List (List Key×V):=kvs.map λq=>(q.1.map Sum.inl,q.2)
def dtO (kvs:List (List Int×V)):HO:=.dT (zhf kvs)
def zhg (kvs:List (List Int×V))(st:List Int):za6 (zhf kvs) (st.map Sum.inl)=za6 kvs st:=by
 unfold zhf
 induction kvs with
 | nil=>rfl
 | cons q r B=>
  rw[aC];by_cases e:q.1=st
  ·rw[xt (p:=q) e,xt (p:=(q.1.map Sum.inl,q.2)) (by rw[e])]
  ·rw[xM (p:=q) e,xM (p:=(q.1.map Sum.inl,q.2)) (λz=>e (xU z)),B]
def zlW (kvs:List (List Int×V))(st:List Int)(v:V):zao (zhf kvs) (st.map Sum.inl) v=zhf (zao kvs st v):=by
 have B:∀q:List Int×V,decide ((q.1.map (Sum.inl:Int->Key))=st.map Sum.inl)=decide (q.1=st):=λq=>by rw[b9,decide_eq_true_eq,decide_eq_true_eq];exact⟨xU,λz=>by rw[z]⟩
 have D:((zhf kvs).any λkv=>decide (kv.1=st.map Sum.inl))=kvs.any λkv=>decide (kv.1=st):=by unfold zhf;rw[List.any_map];congr 1;funext q;exact B q
 unfold zao;rw[D];by_cases h:(kvs.any λkv=>decide (kv.1=st))=true
 ·rw[if_pos h,if_pos h];unfold zhf;rw[au,au];refine de λq _=>?_
  grind
 ·rw[if_neg h,if_neg h];unfold zhf
  simp_all
def zcQ.i{kvs:List (List Int×V)}{st:List Int}(e:H a=some (dtO kvs))(q:H b=some (.tup (st.map V.int))):zcQ H a (.ref b) (za6 kvs st):=by have:=zcQ.t (k:=st.map Sum.inl) e (by rw[zcg];exact q);rwa[zhg] at this
def zcT.i{kvs:List (List Int×V)}{st:List Int}(e:H a=some (dtO kvs))(q:H b=some (.tup (st.map V.int)))(B:kvs.length<sizeLine):zcT H a (.ref b) v (upd H a (dtO (zao kvs st v))):=by have:=zcT.t (k:=st.map Sum.inl) (v:=v) e (by rw[zcg];exact q) (by unfold zhf;rw[ab];exact B);rwa[zlW] at this
def zqg:TE:=λ_ H Q=>New H (dtO []) Q
section
variable {X:Cx}
def zmy:QE X (.Dict [] [] pos) zqg:=⟨λpins s σ H Q I h=>zmk pins s σ H Q I λp q=>h.at q⟩
def zly {pins:List (Addr×Obj)}{σ:St}{H:Hp}{s:Shared}(I:Inv X pins σ H s){a:Addr}{kvs:List (List Int×V)}(h:Rd H a (dtO kvs)) :
  (a==sysModules)=false/\∃ (es:Array DictEntry) (B:Nat) (ys:List (List Int×Addr)),uA s.heap a es B/\ys.map (·.1)=kvs.map (·.1)/\(∀q∈ys,H q.2=some (.tup (q.1.map V.int)))/\es.toList.map (·.key)=ys.map (λq=>Value.ref q.2)/\kvs.length<=sizeLine/\(kvs.map (·.1)).Nodup:=by
 obtain⟨z,lo,xs,r,o,es,B,h1,h2,h3,h4,O⟩:=(show yp X.prog X.w H s.heap a (.dT (zhf kvs)) from zpZ I.hok h)
 have D:∀ {kvs:List (List Int×V)} {xs:List (List Key×Addr×Value)},Paired (λ(p:List Key×V) (q:List Key×Addr×Value)=>p.1=q.1/\H q.2.1=some (.tup (p.1.map kV))/\yG p.2 q.2.2) (zhf kvs) xs->
   ∃ys:List (List Int×Addr),ys.map (·.1)=kvs.map (·.1)/\(∀q∈ys,H q.2=some (.tup (q.1.map V.int)))/\xs.map (λq=>Value.ref q.2.1)=ys.map (λq=>Value.ref q.2)/\xs.map (·.1)=kvs.map (λq=>q.1.map Sum.inl):=by
  intro kvs
  induction kvs with
  | nil=>intro xs r;cases r;exact⟨[],rfl,λ_ h=>by simp at h,rfl,rfl⟩
  | cons q kvs ih=>
   intro xs r
   cases r with
   | cons r1 r2=>
    rename_i x ad;obtain⟨ys,U,F,Y,Z⟩:=ih r2;refine⟨(q.1,x.2.1)::ys,by simp_all,λy J=>?_,by simp_all,by simp_all⟩;rcases aG.mp J with rfl | J
    ·have:=r1.2.1;rwa[show ((q.1.map Sum.inl,q.2):List Key×V).1=q.1.map Sum.inl from rfl,zcg] at this
    ·exact F y J
 obtain⟨ys,U,F,Y,Z⟩:=D r;refine⟨lo,es,B,ys,⟨o,h1,h2,h3⟩,U,F,?_,?_,?_⟩
 ·rw[h4,au,<- Y];rfl
 ·unfold zhf at z
  simp_all
 ·rw[Z] at O;have L:((kvs.map (·.1)).map λst:List Int=>st.map (Sum.inl:Int->Key)).Nodup:=by rw[au];exact O
  exact (bS.mp L).imp λh z=>h (by rw[z])
end
open PySem PySem.Spec PyProof.Rows
abbrev Up' (l:List (List Int)):Prop:=l.Pairwise λa b=>HT.lexLt a b=true
def zox (x:List Int):List (List Int)->List (List Int)
 | []=>[x]
 | y::r=>if HT.lexLt x y then x::y::r else if x=y then y::r else y::zox x r
def zgK (l:List (List Int)):List (List Int):=l.foldr zox []
def zdW {x z:List Int}:∀ {l:List (List Int)},z∈zox x l↔z=x\/z∈l
 | []=>by show z∈[x]↔_;simp
 | y::r=>by
  unfold zox;split
  ·simp
  ·split
   ·simp_all
   ·rw[aG,zdW,aG]
    grind
def zag {z:List Int}:∀ {l:List (List Int)},z∈zgK l↔z∈l
 | []=>Iff.rfl
 | x::l=>by show z∈zox x (zgK l)↔_;rw[zdW,zag,aG]
def zjr {x:List Int}{m:Nat}(D:x.length=m):∀ {l:List (List Int)},(∀y∈l,y.length=m)->Up' l->Up' (zox x l)
 | [],_,_=>dq _ _
 | y::r,F,B=>by
  have I:=F y ak;rw[Up',ce] at B;unfold zox;split
  ·rename_i h;refine ce.mpr ⟨λz q=>?_,ce.mpr B⟩;rcases aG.mp q with rfl | q
   ·exact h
   ·exact zaM (D.trans I.symm) (by grind) h (B.1 z q)
  ·rename_i h;split
   ·exact ce.mpr B
   ·rename_i J;refine ce.mpr ⟨λz q=>?_,zjr D (λz q=>F z (ao _ q)) B.2⟩;rcases zdW.mp q with rfl | q
    ·rcases u4 (a:=z) (b:=y) (D.trans I.symm) with e | e | e
     all_goals simp_all
    ·exact B.1 z q
def zkN{l:List (List Int)}(h:∀y∈l,y.length=m):∀y∈zgK l,y.length=m:=λy q=>h y (zag.mp q)
def zbY:∀ {l:List (List Int)},(∀y∈l,y.length=m)->Up' (zgK l)
 | [],_=>.nil
 | x::l,h=>zjr (h x ak) (zkN λy q=>h y (ao _ q)) (zbY λy q=>h y (ao _ q))
def zk6:∀ {l l':List (List Int)},(∀y∈l,y.length=m)->Up' l->Up' l'->(∀z,z∈l↔z∈l')->l=l'
 | [],[],_,_,_,_=>rfl
 | [],y::r,_,_,_,h=>absurd ((h y).mpr ak) (by simp)
 | x::l,[],_,_,_,h=>absurd ((h x).mp ak) (by simp)
 | x::l,y::r,D,F,q,h=>by
  rw[Up',ce] at F q;have B:∀z∈y::r,z.length=m:=λz I=>D z ((h z).mpr I)
  have e:x=y:=by
   rcases aG.mp ((h x).mp ak) with e | e
   ·exact e
   ·rcases aG.mp ((h y).mpr ak) with J | J
    ·exact J.symm
    ·have h1:=q.1 x e;have h2:=F.1 y J;have O:=zaM ((D x ak).trans (B y ak).symm) ((B y ak).trans (D x ak).symm) h2 h1;rw[y6] at O;cases O
  subst e
  have L:∀ {l:List (List Int)},(∀z∈l,HT.lexLt x z=true)->x∉l:=λU z=>by have:=U x z;rw[y6] at this;cases this
  congr 1;refine zk6 (λz I=>D z (ao _ I)) F.2 q.2 λz=>?_
  grind
def zhD{l l':List (List Int)}(q:∀y∈l,y.length=m)(B:Up' l')(h:∀z,z∈l'↔z∈l):l'=zgK l:=
 zk6 (λy D=>q y ((h y).mp D)) B (zbY q) λz=>(h z).trans zag.symm
def zmZ {l:List (List Int)}(h:Up' l):l.Nodup:=h.imp λ{a b} q e=>by subst e;rw[y6] at q;cases q
def zaF (bk:List Wi)(st hs:List Int):List (List Int):=(bk.filter λx=>zbc st x&&!hs.contains x.b).map λx=>chg st x.b x.r
def zaz (bk:List Wi)(st hs:List Int):List (List Int):=zgK (zaF bk st hs)
def zce{st hs z:List Int}:z∈zaF bk st hs↔∃x∈bk,zbc st x=true/\x.b∉hs/\z=chg st x.b x.r:=by
 unfold zaF
 grind
def uk{rm:List Int}{st hs:List Int}(q:∀x∈bk,WishOk rm x)(D:st.length=rm.length):∀z∈zaF bk st hs,z.length=rm.length:=λz F=>by obtain⟨x,B,_,_,rfl⟩:=zce.mp F;have h1:=(q x B).b1;rw[ziP (q x B).b0 (by lia)];exact D
def xf {α:Type}[BEq α][LawfulBEq α]:∀ {l l':List α},l.Nodup->(∀x∈l,x∈l')->l.length<=l'.length
 | [],_,_,_=>aN _
 | a::l,l',q,h=>by
  rw[bT] at q;have B:=h a ak
  have:=xf (l:=l) (l':=l'.erase a) q.2 λx D=>by grind
  grind
def zaG{rm:List Int}{st hs:List Int}{ks:List (List Int)}(q:∀x∈bk,WishOk rm x)(O:rm.length<=8)(B:∀r∈rm,2<=r/\r<=4)(D:ks.Nodup)(F:∀z∈ks,z∈zaF bk st hs):ks.length<=32:=by
 have:=xf (l':=(List.range 32).map λc=>chg st ((c / 4:Nat):Int) ((c % 4:Nat):Int)) D λz I=>by obtain⟨x,J,_,_,rfl⟩:=zce.mp (F z I);have o:=q x J;have h1:=o.b1;have h2:=o.b0;have L:=o.r0;have U:=o.r1;have Y:=(uw B h2 h1).2;refine az.mpr ⟨4 * x.b.toNat+x.r.toNat,aW.mpr (by lia),?_⟩;rw[show (4 * x.b.toNat+x.r.toNat) / 4=x.b.toNat by lia,show (4 * x.b.toNat+x.r.toNat) % 4=x.r.toNat by lia,eJ h2,eJ L]
 simp_all
def znY{rm:List Int}{st hs:List Int}(q:∀x∈bk,WishOk rm x)(B:rm.length<=8)(D:∀r∈rm,2<=r/\r<=4)(F:st.length=rm.length):(zaz bk st hs).length<=32:=
 zaG (hs:=hs) q B D (zmZ (zbY (uk q F))) λz I=>zag.mp I
open PySem
end L2
namespace L2
open PySem PySem.Spec PyProof.Rows PySem.SeqAt
def zal:∀ds:List Dt,Dt.toWs ds=ds.map Dt.toW
 | []=>rfl
 | d::ds=>by rw[Dt.toWs,aC,zal ds]
def zcl:∀ds:List PySem.W.Dat,PySem.W.kqdPs ds=ds.map PySem.W.kqdP
 | []=>by simp[PySem.W.kqdPs]
 | d::ds=>by rw[aC,<- zcl ds];simp[PySem.W.kqdPs]
def zvu (q:Bool):R2:=λx y H Q=>∃d ds,Is H d x/\(Is H (.lst ds) y\/Is H (.tup ds) y)/\d.eqOk/\(Dt.lst ds).eqOk/\∀b:Bool,(b=true↔d∈ds)->Q (.bl (if q then !b else b)) H
section
variable {X:Cx}
def zaJ(h:(Dt.lst ds).eqOk):∀d∈ds,PySem.W.kqdOk 7 d.toW=true:=λd q=>by
 have h':PySem.W.kqdOk 8 (Dt.lst ds).toW=true:=h;simp only[Dt.toW,PySem.W.kqdOk,cy,zal] at h'
 simp_all
def ziG(q:d.eqOk)(hs:(Dt.lst ds).eqOk):((PySem.W.kqdPs (Dt.toWs ds)).any λy=>PyData.eqv y (PySem.W.kqdP d.toW))=true↔d∈ds:=by
 rw[zcl,zal,au,List.any_map,fL];constructor
 ·rintro⟨e,B,h⟩;have:=(eE 7 e.toW d.toW 8 (zaJ hs e B) q).mp h;rw[<- zeB this];exact B
 ·intro h;exact⟨d,h,(eE 7 d.toW d.toW 8 (zaJ hs d h) q).mpr rfl⟩
def zlY(h:PySem.W.kqdOk 7 d=true):PySem.W.kqdOk 8 d=true:=by
 have q:∀ (n:Nat) (d:PySem.W.Dat),PySem.W.kqdOk n d=true->PySem.W.kqdOk (n+1) d=true:=by
  intro n
  induction n with
  | zero=>intro d h;cases d <;> simp_all [PySem.W.kqdOk]
  | succ n B=>
   intro d h;cases d <;> simp_all [PySem.W.kqdOk]
 exact q 7 d h
def znr {d:Dt}{ds:List Dt}{u:Nat}(F:d.eqOk)(hs:(Dt.lst ds).eqOk)(L:u+64<cLine):PyData.canLayAll0 (PySem.W.kqdPs (Dt.toWs ds))=true/\(PySem.W.kqdP d.toW).canLay0=true/\u+1+min (PyData.depthAll (PySem.W.kqdPs (Dt.toWs ds))) (PySem.W.kqdP d.toW).depth<cLine:=by
 have B:=PySem.W.kqd_lay 8 _ F
 have I:=PySem.W.kqd_layL (ds:=Dt.toWs ds) λe D=>by rw[zal] at D;obtain⟨J,q,rfl⟩:=az.mp D;exact zlY (zaJ hs J q)
 refine⟨I.1,B.1,?_⟩;have:min (PyData.depthAll (PySem.W.kqdPs (Dt.toWs ds))) (PySem.W.kqdP d.toW).depth<=8:=ay (Nat.min_le_right _ _) B.2;lia
def zfs (Z:X.A.units+64<cLine):OpQ X (compareOp .NotIn) (zvu true):=⟨by
 intro pins s σ H x y v u Q I rx J h;obtain⟨d,ds,hd,B,D,ks,q⟩:=h;obtain⟨as,L⟩:=uC I.hok 8 hd rx D;obtain⟨O,U,Y⟩:=znr D ks Z;rcases B with B | B
 ·obtain⟨bs,F⟩:=uC I.hok 8 B J ks;exact notIn_list_reads F L O U Y ⟨.bl _,H,I,rfl,q _ (ziG D ks)⟩
 ·obtain⟨bs,F⟩:=uC I.hok 8 B J (show (Dt.tup ds).eqOk from ks);exact notIn_tuple_reads F L O U Y ⟨.bl _,H,I,rfl,q _ (ziG D ks)⟩⟩
end
open PySem PySem.Spec PyProof.Rows
def zr3 (bk:List Wi)(q:Int)(st:List Int):List (List Int):=(bk.filter λx=>decide (x.b=q)&&uZ st x.g).map λx=>[x.w,x.r]
def lpF (bk:List Wi)(q:Int)(st:List Int):List (List Int):=zgK (zr3 bk q st)
def zmV (C:Nat->Nat->Bool)(w j:Nat):List (List Int):=((List.range j).filter (C w)).map λb:Nat=>[(w:Int),(b:Int)]
def zvJ (C:Nat->Nat->Bool)(n:Nat):Nat->List (List Int)
 | 0=>[]
 | i+1=>zvJ C n i++zmV C i n
def zkR {a b:List Int}(h:stD a=stD b):a=b:=by have:=congrArg (List.map Dt.val) (Dt.tup.inj h);rwa[uJ,uJ] at this
open PySem PySem.Spec PyProof.Rows PySem.W PySem.Calls
section
variable {prog:Program}{w:World}{A:Around}{E:Value->Shared->Prop}{s:Shared}{R:Result->Shared->Prop}
def zcq {ns:List Int}{l:List (List Int×Addr)}:(ns.map Sum.inl)∈(yY l).map (·.1)↔ns∈l.map (·.1):=by
 unfold yY;rw[au,az,az];constructor
 ·rintro⟨q,B,e⟩;refine⟨q,B,?_⟩;have D:q.1.map (Sum.inl:Int->Key)=ns.map Sum.inl:=e;exact xU D
 ·rintro⟨q,B,rfl⟩;exact⟨q,B,rfl⟩
def ziD{ns:List Int}{xs:List (List Int×Addr)}(hu:A.units<cLine)(S:uR prog w s.heap a (yY xs))(O:(tk prog w).is s.heap (ns.map Sum.inl) b)(U:∀q∈xs,(tk prog w).is s.heap (q.1.map Sum.inl) q.2)(F:(xs.map (·.1)).Nodup)(hn:xs.length<300)(h:∀r h' n B,Heap.SameBut a s.heap h'->uR prog w h' a (yY B)->(∀q∈B,q∈xs\/q=(ns,b))->(∀x,x∈B.map (·.1)↔x=ns\/x∈xs.map (·.1))->(B.map (·.1)).Nodup->B.length<=xs.length+1->Q r { s with heap:=h',toks:=n }) :
  wpAny (model prog w) A (setAdd a (.ref b)) Q E s:=by
 refine zm7 (xs:=yY xs) (ns:=ns) hu S O (λq I=>?_) (by unfold yY;rw[ab];exact hn) λr h' n ad sb S' Y J=>?_
 ·unfold yY at I;obtain⟨q',Z,rfl⟩:=az.mp I;exact U q' Z
 ·by_cases L:ns∈xs.map (·.1)
  ·obtain rfl:=Y (zcq.mpr L);exact h r h' n xs sb S' (λq I=>.inl I) (λx=>⟨.inr,λz=>z.elim (λe=>e ▸ L) id⟩) F (db _)
  ·have hp:=J λz=>L (zcq.mp z);have O:((ns.map Sum.inl,b)::yY xs)=yY ((ns,b)::xs):=rfl;rw[O] at hp;obtain⟨B,D,rfl⟩:=zaa hp rfl;refine h r h' n B sb S' (λq I=>?_) (λx=>?_) ?_ ?_
   ·grind
   ·rw[(D.map (·.1)).mem_iff,aC,aG]
   ·rw[(D.map (·.1)).nodup_iff,aC,bT];exact⟨L,F⟩
   ·rw[D.length_eq,aS];exact ai _
def uR.keep(S:uR prog w h a xs)(k:∀o,h.get? a=some o->h'.get? a=some o):uR prog w h' a xs:=by obtain⟨o,es,q,t,B,r⟩:=S;exact⟨o,es,q,t,k o B,r⟩
def zgL(x:(tk prog w).is h k b)(q:∀o,h.get? b=some o->h'.get? b=some o):(tk prog w).is h' k b:=by obtain⟨o,its,n,B,r⟩:=x;exact⟨o,its,n,q o B,r⟩
def zmR{ns:List (List Int×Addr)}(hh:A.in1.handled=none)(hu:A.in1.units<cLine)(ap:items.toList=ns.map λq=>Value.ref q.2)(Z:S≠I)(a5:l≠S)(a7:l≠I)(hq:∀q∈ns,q.2≠S/\q.2≠I)(hn:ns.length<300) :
  ∀ (k i:Nat) (s:Shared) (xs:List (List Int×Addr)),ns.length - i=k->i<=ns.length->s.heap.IsListIter I l i->s.heap.IsList l items->(∀q∈ns,(tk prog w).is s.heap (q.1.map Sum.inl) q.2)->uR prog w s.heap S (yY xs)->
   (∀q∈xs,q∈ns)->(∀st,st∈xs.map (·.1)↔st∈(ns.take i).map (·.1))->(xs.map (·.1)).Nodup->xs.length<=i->
   (∀h' ad B,uR prog w h' S (yY B)->(∀q∈B,q∈ns)->(∀st,st∈B.map (·.1)↔st∈ns.map (·.1))->(B.map (·.1)).Nodup->B.length<=ns.length->(∀b o,b≠S->b≠I->s.heap.get? b=some o->h'.get? b=some o)->R (.ok (.ret .none)) { s with heap:=h',toks:=ad })->
   codeAny (model prog w) A (.builtin "set.update.loop" ⟨[.ref S,.ref I],[]⟩) R s:=by
 intro k
 induction k with
 | zero=>
  intro i s xs hk hi hI hl as hS D F ag Y hR;have bb:i=ns.length:=by lia
  subst bb;refine cU c8 ?_;rw[cF cm _];show wpAny _ A.in1 (pyNext (.ref I) >>= _) _ _ s;refine aa (dO hh hI hl ?_ λh' hx=>?_)
  ·rw[za8,ap,am,List.getElem?_eq_none (ai _)];rfl
  show wpAny _ A.in1 (ret Value.none) _ _ _;refine ae (hR h' s.toks xs (hS.keep λo e=>hx S o Z e) D (λst=>?_) ag Y λb o _ hb e=>hx b o hb e);rw[F,aK]
 | succ k ih=>
  intro i s xs hk hi hI hl as hS D F ag Y hR;have L:i<ns.length:=by lia
  refine cU c8 ?_;rw[cF cm _];show wpAny _ A.in1 (pyNext (.ref I) >>= _) _ _ s;have hx:items[i]?=some (Value.ref ns[i].2):=by rw[za8,ap,am,ah L];rfl
  have av:ns[i]∈ns:=bO L;refine aa (dA hI hl hx λh1 bd bk=>?_);show wpAny _ A.in1 (holding [Value.ref ns[i].2] (setAdd S (.ref ns[i].2)) >>= _) _ _ _;have O:∀b o,b≠I->s.heap.get? b=some o->h1.get? b=some o:=λb o hb e=>by rw[bk.2 b hb];exact e
  have J:∀q∈ns,(tk prog w).is h1 (q.1.map Sum.inl) q.2:=λq z=>zgL (as q z) λo e=>O _ _ (hq q z).2 e;refine aa (be ?_);refine ziD (s:={ s with heap:=h1 }) (xs:=xs) (ns:=ns[i].1) hu (hS.keep λo e=>O _ _ Z e) (J _ av) (λq z=>J q (D q z)) ag (by lia) λr h2 n bl sb S2 al an a0 bn=>?_;have U:∀b o,b≠S->h1.get? b=some o->h2.get? b=some o:=λb o hb e=>by rw[sb.2 b hb];exact e
  refine ae ⟨fE cm _,ih (i+1) _ bl (by lia) L ?_ ?_ ?_ S2 ?_ ?_ a0 (by lia) ?_⟩
  ·obtain⟨o,ho,r⟩:=bd;exact⟨o,U _ _ Z.symm ho,r⟩
  ·obtain⟨o,ho,r⟩:=hl;exact⟨o,U _ _ a5 (O _ _ a7 ho),r⟩
  ·exact λq z=>zgL (J q z) λo e=>U _ _ (hq q z).1 e
  ·intro q z;rcases al q z with z | z
   ·exact D q z
   ·rw[z];exact av
  ·intro st;rw[an,F,List.take_succ,ah L,aE,aH];constructor
   ·rintro (z | z)
    all_goals simp_all
   ·rintro (z | z)
    ·exact .inr z
    ·exact .inl (aw.mp z)
  ·intro h' ad B S' a1 a2 a3 a4 kp;exact hR h' ad B S' a1 a2 a3 a4 λb o b1 b2 e=>kp b o b1 b2 (U b o b1 (O b o b2 e))
def zdP(a:Value)(h:Q₁ (.ref s.heap.objs.size) { s with heap:=s.heap.push { cls:=.type "set",dict:=none,data:=.set #[] 0 (.fresh 0 0 (!w.params.followText "set-order")) } }) :
  codeAny (model prog w) A (.call (.builtin "set.__new__") ⟨[.type "set",a],[]⟩) (wants Q₁ E) s:=by
 refine dr ?_;show wpAny _ A.in1 (do checkBuiltinCall "set.__new__" ⟨[.type "set",a],[]⟩;again (.builtin "set.__new__" ⟨[.type "set",a],[]⟩)) _ _ s;refine aa (fm (PySem.F.newCall_set_1 a) (ae ⟨fE PySem.F.plain_set_new _,cU PySem.F.entry_set_new ?_⟩));rw[cF PySem.F.plain_set_new _];unfold Builtin.«set.__new__» Builtin.Frozenset.newClass;have hsub:=sub_set_self;obtain⟨hp,g,d,tk,os⟩:=s;dsimp only
 wp_walk
 refine bm (ae ?_);dsimp only;simp only[newObj];refine aa (wpAny_alloc (ae ?_));exact ae h
def zdI{ns:List (List Int×Addr)}(hh:A.handled=none)(hu:A.units+10<cLine)(hl:s.heap.IsList l items)(a5:items.toList=ns.map λq=>Value.ref q.2)(Z:∀q∈ns,(tk prog w).is s.heap (q.1.map Sum.inl) q.2)(hn:ns.length<300)(h:∀ (h':Heap) (tk:Nat) (xs:List (List Int×Addr)),uR prog w h' s.heap.objs.size (yY xs)->(∀q∈xs,q∈ns)->(∀st,st∈xs.map (·.1)↔st∈ns.map (·.1))->(xs.map (·.1)).Nodup->xs.length<=ns.length->
   (∀b o,b<s.heap.objs.size->s.heap.get? b=some o->h'.get? b=some o)->Q (.ref s.heap.objs.size) { s with heap:=h',toks:=tk }) :
  wpAny (model prog w) A (call (.type "set") [.ref l]) Q E s:=by
 obtain⟨c,tl,bs⟩:=PySem.F.called_set.mro;have a7:=PySem.F.called_set.made;have bx:=PySem.F.called_set.sub;refine wpAny_call (dr ?_);show wpAny _ _ (callAny (.type "set") _) _ _ _;refine ae ⟨Code.quiet_builtin _ (by decide +kernel),cU PySem.F.entry_type_call ?_⟩;rw[Around.under_plain (weight_type_call_type "set" [.ref l] []) rfl];have h1:=PySem.F.called_set.notType;have h2:=PySem.F.called_set.canCreate;have b3:=PySem.F.typeCall_set_1 (.ref l)
 repeat (any_goals (first | assumption | wp_step))
 generalize I:(!w.params.followText "set-order")=led at *;refine dP (zdP (.ref l) (E:=E) (Q₁:=λad J=>ad = .ref s.heap.objs.size/\J={ s with heap:=s.heap.push { cls:=.type "set",dict:=none,data:=.set #[] 0 (.fresh 0 0 led) } }) ⟨rfl,by rw[I]⟩) λr J hr=>?_
 cases r with
 | error e=>exact hr
 | ok fl=>
  cases fl with
  | ret ad=>
   obtain⟨rfl,rfl⟩:=hr;have hS:(s.heap.push { cls:=.type "set",dict:=none,data:=.set #[] 0 (.fresh 0 0 led) }).get? s.heap.objs.size=some { cls:=.type "set",dict:=none,data:=.set #[] 0 (.fresh 0 0 led) }:=aq _ rfl;have hT:Shared.TypeIs { s with heap:=s.heap.push { cls:=.type "set",dict:=none,data:=.set #[] 0 (.fresh 0 0 led) } } (.ref s.heap.objs.size) "set" := ⟨_,hS,rfl⟩;have ca:=PySem.F.called_set.init.lookup;have cc:=PySem.F.called_set.init.bind (.ref s.heap.objs.size)
   repeat (any_goals (first | assumption | wp_step))
   refine dP (codeAny_call_builtin (R:=wants (λr L=>r = .none/\∃h' tk,L={ s with heap:=h',toks:=tk }/\
     ∃xs:List (List Int×Addr),uR prog w h' s.heap.objs.size (yY xs)/\(∀q∈xs,q∈ns)/\(∀st,st∈xs.map (·.1)↔st∈ns.map (·.1))/\(xs.map (·.1)).Nodup/\xs.length<=ns.length/\
     (∀b o,b<s.heap.objs.size->s.heap.get? b=some o->h'.get? b=some o)) E) PySem.F.called_set.init.plain PySem.F.entry_set_init (check_set_init_1 hT ?_)) λag L B=>?_
   ·obtain⟨ol,al,an,nl,ap⟩:=hl;obtain⟨b0,O,bb,D⟩:=ol;simp only at an ap;subst an;subst ap;have as:(s.heap.push { cls:=.type "set",dict:=none,data:=.set #[] 0 (.fresh 0 0 led) }).get? l=some { cls:=.type "list",dict:=O,data:=.seq items nl,slots:=D }:=af _ al;have b1:=PySem.F.sub_list_set;have b2:=PySem.F.sub_list_frozenset;have cd:(Value.type "list" == Value.type "dict")=false:=by decide
    have av:(s.heap.push { cls:=.type "set",dict:=none,data:=.set #[] 0 (.fresh 0 0 led) }).IsList l items:=⟨_,as,rfl,nl,rfl⟩;unfold Builtin.«set.__init__» noKeywords Builtin.Frozenset.updateFrom;generalize bd:pyIter=PI
    wp_walk
    subst bd;refine cV av ?_;refine aa (wpAny_runValue ?_);have a0:l<s.heap.objs.size:=ax al
    have bk:∀q∈ns,q.2<s.heap.objs.size:=λq U=>by obtain⟨o,_,_,ho,_⟩:=Z q U;exact ax ho
    refine zmR (items:=items) (ns:=ns) (l:=l) (by simp[hh]) (by simp;lia) a5 ?_ ?_ ?_ ?_ hn (ns.length - 0) 0 _ [] (by lia) (aN _) ⟨_,aq _ rfl,rfl,rfl⟩ (av.push _) ?_ ?_ ?_ ?_ ?_ ?_ ?_
    ·rw[bL];exact aJ (fJ _)
    ·exact aJ a0
    ·rw[bL];exact aJ (cW a0)
    ·intro q U;have:=bk q U;rw[bL];exact⟨aJ this,aJ (cW this)⟩
    ·exact λq U=>zgL (Z q U) λo e=>af _ (af _ e)
    ·refine uR.keep (h:=s.heap.push { cls:=.type "set",dict:=none,data:=.set #[] 0 (.fresh 0 0 led) }) ?_ λo e=>af _ e;rw[<- I];exact zfE _
    ·exact λq U=>by simp at U
    ·intro st;simp
    ·exact eV
    ·exact ai _
    ·intro h' bl bn S' a1 a2 a3 a4 kp;show wpAny _ _ _ _ _ _;refine ae ?_;show wpAny _ _ (ret Value.none) _ _ _;refine ae ⟨rfl,h',bl,rfl,bn,S',a1,a2,a3,a4,λb o hb e=>?_⟩;refine kp b o (aJ hb) (by rw[bL];exact aJ (cW hb)) (af _ (af _ e))
   ·cases ag with
    | error e=>exact B
    | ok Y=>
     cases Y with
     | ret r=>
      obtain⟨rfl,h',tk,rfl,xs,S',a1,a2,a3,a4,bo⟩:=B
      repeat (any_goals (first | assumption | wp_step))
      exact h _ _ xs S' a1 a2 a3 a4 bo
     | _=>exact B.elim
  | _=>exact hr.elim
end
section
variable {X:Cx}
def znD (P:Program)(w:World):List V->Hp->VK->Prop:=λxs H Q=>∃ (a:Addr) (ys:List V) (sts:List (List Int)),xs=[.ref a]/\H a=some (.lst ys)/\IsL H (sts.map stD) ys/\sts.length<300/\
 ∀ (l:Addr) (H':Hp) (ks:List (List Int)),H l=none->zeM P w H' l ks->(∀st,st∈ks↔st∈sts)->xh H H'->Q (.ref l) H'
def zn6 (hu:X.A.units+64<cLine)(hc:X.calm=true):CallQ X (.type "set") (znD X.prog X.w):=⟨by
 intro pins s σ H xs us Q I r h;obtain⟨a,ys,sts,rfl,ha,F,Y,q⟩:=h;obtain⟨u,rfl,ru⟩:=zay r;cases ru
 have J:∀ {sts:List (List Int)} {ys:List V},IsL H (sts.map stD) ys->∃ns:List (List Int×Addr),ys=ns.map (λq=>V.ref q.2)/\ns.map (·.1)=sts/\∀q∈ns,H q.2=some (.tup (q.1.map V.int)):=by
  intro sts
  induction sts with
  | nil=>intro ys h;cases h;exact⟨[],rfl,rfl,λ_ h=>by simp at h⟩
  | cons st sts L=>
   intro ys h
   ·obtain⟨y,ad,rfl,h1,h2⟩:=h;obtain⟨ns,rfl,e2,D⟩:=L h2;obtain⟨b,us,rfl,hb,O⟩:=h1;obtain rfl:=O.of_ints;refine⟨(st,b)::ns,rfl,by simp_all,λq B=>?_⟩;rcases aG.mp B with rfl | B
    ·exact hb
    ·exact D q B
 obtain⟨ns,rfl,rfl,D⟩:=J F;obtain⟨Z,its,n,hv,hg⟩:=(show yp X.prog X.w H s.heap a (.lst _) from I.hok a _ ha)
 have hits:its=ns.map λq=>Value.ref q.2:=by
  have g2:∀ {ns:List (List Int×Addr)} {its:List Value},yb (ns.map λq=>V.ref q.2) its->its=ns.map λq=>Value.ref q.2:=by
   intro ns
   induction ns with
   | nil=>intro its r;cases r;rfl
   | cons q ns L=>
    intro its r
    cases r with
    | cons r1 r2=>
     cases r1;rw[aC,<- L r2]
  exact g2 hv
 rw[ab] at Y;refine zdI (items:=its.toArray) (ns:=ns) (I.ok.hd hc) (by lia) ⟨_,hg,rfl,n,rfl⟩ (by simpa using hits) (λq B=>zck I (D q B)) Y λh' tk xs S' a1 a2 a3 a4 kp=>?_;have U:H s.heap.objs.size=none:=I.hok.fresh (ai _);refine⟨.ref s.heap.objs.size,_,I.laid (t':=tk) (o:=zhB X.prog X.w s.heap.objs.size (yY xs)) (λb o e=>kp b o (ax e) e) (ai _) (zgJ S'),rfl,?_⟩;refine q s.heap.objs.size _ (xs.map (·.1)) U ⟨xs,zk,λz Z=>?_,rfl,a3⟩ (λst=>a2 st) (λb o e=>by rw[zg (zc e U)];exact e);have:=D z (a1 z Z);rw[zg (zc this U)];exact this⟩
end
open PySem PySem.Spec PyProof.Rows
section
variable {X:Cx}{e st:Expr}{te tk:TE}{pos p2:Pos}
end
def znZ{rm:List Int}{q hs:List Int}(B:∀x∈bk,WishOk rm x)(D:q.length=rm.length):Up' (zaz bk q hs):=zbY (uk B D)
def unlike (q z hs:List Int):List Int:=hs.filter λb=>decide (yV q b≠yV z b)
section
variable {X:Cx}{pos:Pos}
end
end L2
namespace L2
open PySem PySem.Spec PyProof.Rows
end L2
namespace L2
open PySem PySem.Spec PyProof.Rows
section
variable {M:Model}{A:Around}{E:Value->Shared->Prop}{s:Shared}
end
section
variable {X:Cx}{pins:List (Addr×Obj)}{σ:St}{H:Hp}{s:Shared}{scope:Scope}{N:List Str}{z:Str}{cix:List (Option Nat)}
end
section
variable {X:Cx}{scope:Scope}{N:List Str}{cix:List (Option Nat)}{z:Str}
end
end L2
namespace L2
open PySem PySem.Spec PyProof.Rows
end L2
namespace L2
open PySem PySem.Spec PyProof.Rows
def xk:entryFor table "dict.update.loop" = some Builtin.«dict.update.loop»:=entryFor_of_tree (by kernel_rfl)
def z9:plainId "dict.update.loop" = true:=by decide +kernel
section
variable {prog:Program}{w:World}{A:Around}{E:Value->Shared->Prop}{s:Shared}{R:Result->Shared->Prop}{Kt:Type}[DecidableEq Kt]{knd:KeyKind prog w Kt}{κ:Int->Kt}
def zcP(B:s.heap.get? a=some o)(q:o.data = .seq xs n)(h:Q (some xs) s):wpAny (model prog w) A (seqItems? (.ref a)) Q E s:=by
 obtain⟨c,d,D,F⟩:=o;simp only at q;subst q;unfold seqItems?
 repeat (any_goals (first | assumption | wp_step))
end
end L2
namespace L2
open PySem PySem.Spec PyProof.Rows
def ub {X:Cx}{pins:List (Addr×Obj)}{σ:St}{H:Hp}{s:Shared}{a:Addr}{xs:List V}(I:Inv X pins σ H s)(h:SqL X.K H a xs):∃its:List Value,yb xs its/\s.heap.IsList a its.toArray/\xs.length<=sizeLine:=by obtain⟨its,r,⟨o,n,e,c,_,d⟩,z⟩:=I.list h;exact⟨its,r,⟨o,e,c,n,d⟩,z⟩
def Iel (K:PySem.W.Frag)(a:Addr):It:=
 ⟨λi H=>∃xs x,SqL K H a xs/\xs[i]?=some x,λi H v H'=>∃T x,v = .ref T/\H T=none/\H'=upd H T (.tup [.int i,x])/\∀xs,SqL K H a xs->xs[i]?=some x,λi H=>∃xs,SqL K H a xs/\xs.length<=i⟩
def zeZ {X:Cx}{pins:List (Addr×Obj)}{σ:St}{H:Hp}{s:Shared}{e J:Addr}{i n:Nat}{U:Value}{fp:List Addr}{P:Nat->Value->Prop}{St:Nat->Heap->Prop}{x:V}{elts:List Expr}{x1}{tpos:Pos}{E:Value->Shared->Prop}(I:Inv X pins σ H s)(hf:∀b∈[e,J],zeF X pins H b)(av:e≠J)(he:IsEnum s.heap e J i U)
  (D:Draws X.prog X.w X.A.in1 J fp n P St) (Y:St i s.heap) (hi:i<n) (Z:e∉fp) (hx:∀y,P i y->yG x y) :
  wpAny (model X.prog X.w) X.A (pyNext (.ref e)) (λr s1=>∃u,r=some u/\wpAny (model X.prog X.w) X.A (letOwnedTupleGo (.Tuple elts x1 tpos) (.ref e) u) (λ_ s2=>∃T,Inv X pins σ (upd H T (.tup [.int i,x])) s2/\u = .ref T/\H T=none/\(∃U,IsEnum s2.heap e J ((i+1:Nat):Int) U)/\St (i+1) s2.heap/\∀b∈[e,J],upd H T (.tup [.int i,x]) b=none) E s1) E s:=by
 obtain⟨f0,f1,f2,f3,f4,f5⟩:=hf e (by simp);obtain⟨g0,g1,g2,g3,g4,g5⟩:=hf J (by simp);obtain⟨o0,a0⟩:=D.live _ _ Y;refine wpAny_pyNext_enum_itemD D he Y hi av Z λy h' tk hy ho ad hT a3 hk=>⟨_,rfl,wpAny_letOwnedTupleGo_enum ho λO ag L=>?_⟩;have ru:=hx y hy;have al:s.heap.objs.size≠e:=dh (ax he);have a1:s.heap.objs.size≠J:=dh (ax a0);have B:=I.hok.fresh (ai s.heap.objs.size);have kp:∀b o,b≠e->b≠J->s.heap.get? b=some o->O.get? b=some o:=λb o h1 h2 F=>(L.2 b h1).trans (hk b o h1 h2 F);have an:O.get? s.heap.objs.size=some { cls:=.type "tuple",data:=.seq #[.int i tk,y] }:=(L.2 _ al).trans hT;have a4:∀b u',H b=some u'->b≠e/\b≠J:=λb u' F=>⟨zc F f0,zc F g0⟩
 have ap:HOk X.prog X.w (upd H s.heap.objs.size (.tup [.int i,x])) O:=by
  intro b u' F;by_cases as:b=s.heap.objs.size
  ·subst as;rw[zk] at F;cases F;exact⟨by show 2<=sizeLine;decide,[.int i tk,y],.cons ⟨tk,rfl⟩ (.cons ru .nil),_,an,rfl,⟨0,rfl⟩,rfl⟩
  ·rw[zg as] at F;refine (I.hok b u' F).stay (λc v a5 q=>?_) (λc q=>?_) (λc ys q=>?_)
   ·grind
   ·rw[zg (zc q B)];exact q
   ·rw[zg (zc q B)];exact q
 have I1:Inv X pins σ (upd H s.heap.objs.size (.tup [.int i,x])) { s with heap:=O,toks:=tk+1 }:=by
  refine Inv.step (ch:=[e,J]) (g':=s.gens) (d':=s.drawn) (t':=tk+1) I (λb F=>?_) (λb o h1 h2 h3 h4 h5=>?_) (λb o h1 h2 h3 h4 h5=>?_) (λb o h3 h4 h5=>?_) (λb o h3 h4=>?_) (λb ys q=>?_) (λb o u' q=>?_) (λb ps q=>?_) (λm hm=>?_) ap I.bare
  ·rcases aG.mp F with rfl | F
   ·exact⟨f3,f1,f4,f5⟩
   ·rw[aw.mp F];exact⟨g3,g1,g4,g5⟩
  ·simp_all
  ·exact⟨o.slots,kp b o (λz=>h3 (by simp[z])) (λz=>h3 (by simp[z])) h4⟩
  ·rw[zg (aJ (ax h4))];exact h5
  ·simp_all
  ·rw[zg (zc q B)];exact q
  ·rw[zg (zc q B)];exact q
  ·exact⟨#[],by rw[zg (zc q B),du];exact q⟩
  ·obtain⟨o,es,ep,a2,r1⟩:=hm;exact⟨o,es,ep,kp _ o (Ne.symm f1) (Ne.symm g1) a2,r1⟩
 refine⟨s.heap.objs.size,I1,rfl,B,⟨y,by have:=ag;push_cast;exact this⟩,D.frame _ _ _ ad λb F o z=>(L.2 b λq=>Z (q ▸ F)).trans z,λb F=>?_⟩;rcases aG.mp F with rfl | F
 ·rw[zg (Ne.symm al)];exact f0
 ·rw[aw.mp F,zg (Ne.symm a1)];exact g0
def zg3{i:Int}(D:∃B,IsEnum h e q i B)(hi:∃o,h.get? q=some o/\∀v,o.data≠.cell v):∀b∈[e,q],∃o,h.get? b=some o/\∀v,o.data≠.cell v:=by grind
def zin{P:Program}{w:World}{K:PySem.W.Frag}{elts:List Expr}{x1}(a D e:Addr)(L:e≠D) :
  Turn P w K (.Tuple elts x1 tpos) (Iel K a) [e,D] e (λi h=>(∃q,IsEnum h e D i q)/\h.IsListIter D a i) where
 mem:=by simp
 obj:=λi h st=>zg3 st.1 (by obtain⟨_,o,e,c,d⟩:=st;exact⟨o,e,by grind⟩)
 keep:=λi h h' st k=>by obtain⟨⟨q,J⟩,o,O,r⟩:=st;exact⟨⟨q,k e (by simp) _ J⟩,o,k D (by simp) _ O,r⟩
 item:=by
  intro X Y Z hK hc i pins s σ H E I hf st hg;subst Y Z hK;obtain⟨xs,x,U,hx⟩:=hg;obtain⟨its,rv,p,hz⟩:=ub I U;obtain⟨u,hu,ru⟩:=rv.get hx;obtain⟨⟨q,J⟩,B⟩:=st
  have ad:a≠D:=by
   intro z;obtain⟨o,O,ag,_⟩:=p;obtain⟨o',a1,a0,_⟩:=B
   grind
  have al:e≠a:=by
   intro z;obtain⟨o,O,ag,_⟩:=p
   grind
  refine thn (zeZ (x:=x) (elts:=elts) (x1:=x1) (tpos:=tpos) I hf L J (Draws.list (A:=X.A.in1) (I.ok.hd hc) D a ad its.toArray) ⟨B,p⟩ (by simpa using (ac.mp hu).1) (by simp[L,al]) λy hy=>?_) ?_
  ·simp_all
  ·rintro r s1 ⟨u2,rfl,h2⟩;refine⟨_,rfl,thn h2 ?_⟩;rintro _ s2 ⟨T,h3,rfl,h4,h5,h6,h7⟩;exact⟨.ref T,_,h3,rfl,⟨T,x,rfl,h4,rfl,λys an=>by rw[I.list_inj an U];exact hx⟩,⟨h5,h6.1⟩,h7⟩
 done:=by
  intro X Y Z hK hc i pins s σ H E I hf st hg;subst Y Z hK;obtain⟨xs,U,hx⟩:=hg;obtain⟨its,rv,p,hz⟩:=ub I U;obtain⟨f0,f1,f2,f3,f4,f5⟩:=hf D (by simp);obtain⟨⟨q,J⟩,B⟩:=st;have hl:=rv.length;have hT:s.TypeIs (.ref e) "enumerate" := ⟨_,J,rfl⟩;unfold pyNext
  refine aa (cD (wpAny_callSpecial?_slot (name:=Str.ofString "__next__") hT F.slot_enumerate_next
   (aR F.slot_enumerate_next hT F.entry_enumerate_next ?_ (F.args_enumerate_next_1 _))))
  show wpAny _ _ (field (.ref e) 2 >>= _) _ _ _;refine aa (bA J rfl (x:=.ref D) rfl ?_);refine aa (wpAny_nextOf_list_end (A:=X.A.in1) (I.ok.hd hc) B p (by simp;lia) λh' x ap as=>?_);obtain⟨o,O,av⟩:=as;refine aa (cz (T := "StopIteration") (b:=true) ⟨o,O,av⟩ c7 ?_);exact ae ⟨rfl,I.turned (t':=s.toks) (λb o hb e=>ap b o hb e) f0 f1 f3 f4 f5⟩
 self:=λA i s Q E st h=>by obtain⟨⟨q,J⟩,B⟩:=st;exact dL J h
def znl (K:PySem.W.Frag)(ta:TA):TI:=λσ H R=>ta σ H λvs H1=>∃a,vs=[.ref a]/\(∃xs,SqL K H1 a xs)/\R (Iel K a) H1
def zmq{x1}(L:Gl X "enumerate")(O:X.mg "enumerate" = none)(U:PA X [a] ta)(hs:starEach [a] X.env=[(false,eval a X.env)]:=by rfl) :
  PI X (.Tuple elts x1 tpos) (.Call (.Name "enumerate" p) [a] [] pos) (znl X.K ta):=by
 intro pins s σ H R I h;refine Call_ (zbq I L O boot_enumerate (bC (thn (U pos pins s σ H _ I h) λus B ⟨vs,H1,I1,Y,Z⟩=>?_) hs rfl));obtain⟨b,rfl,⟨xs,hq⟩,q⟩:=Z;obtain⟨u,rfl,ru⟩:=zay Y;cases ru;obtain⟨its,rv,pt,hz⟩:=ub I1 hq;refine call_enumerate_list (show B.heap.IsList b its.toArray from pt) λh' J D hsz hk=>?_;have I2:Inv X pins σ H1 { B with heap:=h',toks:=B.toks }:=I1.kept (t':=B.toks) hk;refine dL J ?_;refine⟨B.heap.objs.size+1,[B.heap.objs.size+1,B.heap.objs.size],_,_,H1,rfl,I2,zin b B.heap.objs.size (B.heap.objs.size+1) (Nat.succ_ne_self _),⟨⟨_,J⟩,D⟩,λc F=>?_,q⟩;rcases aG.mp F with rfl | F
 ·exact I1.fpOk (db _) (I1.hok.fresh (db _))
 ·rw[aw.mp F];exact I1.fpOk (ai _) (I1.hok.fresh (ai _))
def zmD{x1}(q:Gl X "enumerate")(B:X.mg "enumerate" = none)(D:QA X [a] ta)(hs:starEach [a] X.env=[(false,eval a X.env)]:=by rfl) :
  QI X (.Tuple elts x1 tpos) (.Call (.Name "enumerate" p) [a] [] pos) (znl X.K ta):=⟨zmq q B D.run hs⟩
def Izl (K:PySem.W.Frag)(a b:Addr):It:=
 ⟨λi H=>∃xs ys x y,SqL K H a xs/\SqL K H b ys/\xs[i]?=some x/\ys[i]?=some y,λi H v H'=>∃T x y,v = .ref T/\H T=none/\H'=upd H T (.tup [x,y])/\(∀xs,SqL K H a xs->xs[i]?=some x)/\∀ys,SqL K H b ys->ys[i]?=some y,λi H=>∃xs ys,SqL K H a xs/\SqL K H b ys/\(xs.length<=i\/ys.length<=i)⟩
def zk0{P:Program}{w:World}{K:PySem.W.Frag}{elts:List Expr}{x1}(z TI TO O U a b:Addr)(D:ZipApart z TI TO O U a b) :
  Turn P w K (.Tuple elts x1 tpos) (Izl K a b) [z,TI,TO,O,U] z (λi h=>IsZip h z TI TO .none/\IsPair h TI (.ref O) (.ref U)/\(∃c d,IsPair h TO c d)/\h.IsListIter O a i/\h.IsListIter U b i) where
 mem:=by simp
 obj:=λi h st c J=>by
  obtain⟨hz,Y,⟨u,v,ad⟩,⟨o1,e1,c1,d1⟩,⟨o2,e2,c2,d2⟩⟩:=st
  grind
 keep:=λi h h' st k=>by obtain⟨hz,Y,⟨u,v,ad⟩,⟨o1,e1,r1⟩,⟨o2,e2,r2⟩⟩:=st;exact⟨k z (by simp) _ hz,k TI (by simp) _ Y,⟨u,v,k TO (by simp) _ ad⟩,⟨o1,k O (by simp) _ e1,r1⟩,⟨o2,k U (by simp) _ e2,r2⟩⟩
 item:=by
  intro X hP hw hK J i pins s σ H E I hf st hg;subst hP hw hK;obtain⟨xs,ys,x,y,an,ap,hx,hy⟩:=hg;obtain⟨a4,a0,p1,cp⟩:=ub I an;obtain⟨a5,a1,p2,cs⟩:=ub I ap;obtain⟨u1,bs,bx⟩:=a0.get hx;obtain⟨u2,b0,b1⟩:=a1.get hy;have fz:=hf z (by simp);have B:=hf TO (by simp);have f1:=hf O (by simp);have f2:=hf U (by simp);obtain⟨hz,Y,⟨c0,d0,ad⟩,as,av⟩:=st;have hT:s.TypeIs (.ref z) "zip" := ⟨_,hz,rfl⟩;unfold pyNext
  refine aa (cD (wpAny_callSpecial?_slot (name:=Str.ofString "__next__") hT cv
   (aR cv hT dY (zip_next_item (A:=X.A.in1) D hz Y ad as av p1 p2 (x:=u1) (y:=u2) (by simpa using bs) (by simpa using b0) λh' gz b2 b3 ca gT c3 hk=>?_) (dM _))))
  refine ae ⟨_,rfl,?_⟩;refine wpAny_letOwnedTupleGo_zip (s:={ s with heap:=h' }) gz λal a7 Z=>?_;have nz:∀b' o',s.heap.get? b'=some o'->s.heap.objs.size≠b':=λb' o' e=>dh (ax e);have bb:s.heap.objs.size≠z:=nz z _ hz;have bd:s.heap.objs.size≠TO:=nz TO _ ad;have cc:s.heap.objs.size≠O:=by obtain⟨o,ho,_⟩:=as;exact nz O _ ho
  have cd:s.heap.objs.size≠U:=by obtain⟨o,ho,_⟩:=av;exact nz U _ ho
  have bk:s.heap.objs.size≠TI:=nz TI _ Y;have F:=I.hok.fresh (ai s.heap.objs.size);have kp:∀c o,c≠z->c≠TO->c≠O->c≠U->s.heap.get? c=some o->al.get? c=some o:=λc o h1 h2 h3 h4 hb=>(Z.2 c h1).trans (hk c o h1 h2 h3 h4 hb);have bl:al.get? s.heap.objs.size=some { cls:=.type "tuple",data:=.seq #[u1,u2] }:=(Z.2 _ bb).trans gT;have cn:∀b' u',H b'=some u'->b'≠z/\b'≠TO/\b'≠O/\b'≠U:=λb' u' hb=>⟨zc hb fz.1,zc hb B.1,zc hb f1.1,zc hb f2.1⟩
  have bn:HOk X.prog X.w (upd H s.heap.objs.size (.tup [x,y])) al:=by
   intro b' u' hb;by_cases bo:b'=s.heap.objs.size
   ·subst bo;rw[zk] at hb;cases hb;exact⟨by show 2<=sizeLine;decide,[u1,u2],.cons bx (.cons b1 .nil),_,bl,rfl,⟨0,rfl⟩,rfl⟩
   ·rw[zg bo] at hb;refine (I.hok b' u' hb).stay (λc v L q=>?_) (λc q=>?_) (λc ys q=>?_)
    ·have:c≠z/\c≠TO/\c≠O/\c≠U:=by
      rcases L with rfl | L
      all_goals simp_all
     simp_all
    ·rw[zg (zc q F)];exact q
    ·rw[zg (zc q F)];exact q
  have ag:∀c o,c∉[z,TO,O,U]->s.heap.get? c=some o->al.get? c=some o:=λc o J e=>kp c o (λq=>J (by simp[q])) (λq=>J (by simp[q])) (λq=>J (by simp[q])) (λq=>J (by simp[q])) e
  have I1:Inv X pins σ (upd H s.heap.objs.size (.tup [x,y])) { s with heap:=al,toks:=s.toks }:=by
   refine Inv.step (ch:=[z,TO,O,U]) (g':=s.gens) (d':=s.drawn) (t':=s.toks) I (λc J=>?_) (λc o h1 h2 h3 h4 h5=>?_) (λc o h1 h2 h3 h4 h5=>?_) (λc o h3 h4 h5=>?_) (λc o h3 h4=>?_) (λc ys q=>?_) (λc o u' q=>?_) (λc ps q=>?_) (λm hm=>?_) bn I.bare
   ·simp only[aG,bP,or_false] at J;rcases J with rfl | rfl | rfl | rfl
    ·exact⟨fz.2.2.2.1,fz.2.1,fz.2.2.2.2.1,fz.2.2.2.2.2⟩
    ·exact⟨B.2.2.2.1,B.2.1,B.2.2.2.2.1,B.2.2.2.2.2⟩
    ·exact⟨f1.2.2.2.1,f1.2.1,f1.2.2.2.2.1,f1.2.2.2.2.2⟩
    ·exact⟨f2.2.2.2.1,f2.2.1,f2.2.2.2.2.1,f2.2.2.2.2.2⟩
   ·exact ag c o h3 h4
   ·exact⟨o.slots,ag c o h3 h4⟩
   ·rw[zg (aJ (ax h4))];exact h5
   ·exact⟨o,ag c o h3 h4⟩
   ·rw[zg (zc q F)];exact q
   ·rw[zg (zc q F)];exact q
   ·exact⟨#[],by rw[zg (zc q F),du];exact q⟩
   ·obtain⟨o,es,ep,a2,r1⟩:=hm;exact⟨o,es,ep,kp _ o (Ne.symm fz.2.1) (Ne.symm B.2.1) (Ne.symm f1.2.1) (Ne.symm f2.2.1) a2,r1⟩
  refine⟨.ref s.heap.objs.size,_,I1,rfl,⟨s.heap.objs.size,x,y,rfl,F,rfl,λzs a3=>by rw[I.list_inj a3 an];exact hx,λzs a3=>by rw[I.list_inj a3 ap];exact hy⟩,⟨a7,?_,⟨_,_,(Z.2 TO D.TOz).trans b2⟩,?_,?_⟩,λc J=>?_⟩
  ·exact kp TI _ D.TIz D.TITO D.TIi1 D.TIi2 Y
  ·obtain⟨o,ho,r⟩:=b3;exact⟨o,(Z.2 O D.i1z).trans ho,r⟩
  ·obtain⟨o,ho,r⟩:=ca;exact⟨o,(Z.2 U D.i2z).trans ho,r⟩
  ·simp only[aG,bP,or_false] at J;rcases J with rfl | rfl | rfl | rfl | rfl
   ·rw[zg (Ne.symm bb)];exact fz.1
   ·rw[zg (Ne.symm bk)];exact (hf _ (by simp)).1
   ·rw[zg (Ne.symm bd)];exact B.1
   ·rw[zg (Ne.symm cc)];exact f1.1
   ·rw[zg (Ne.symm cd)];exact f2.1
 done:=by
  intro X hP hw hK J i pins s σ H E I hf st hg;subst hP hw hK;obtain⟨xs,ys,an,ap,hx⟩:=hg;obtain⟨a4,a0,p1,c4⟩:=ub I an;obtain⟨a5,a1,p2,co⟩:=ub I ap;have fz:=hf z (by simp);have B:=hf TO (by simp);have f1:=hf O (by simp);have f2:=hf U (by simp);obtain⟨hz,Y,⟨c0,d0,ad⟩,as,av⟩:=st;have dd:=a0.length;have df:=a1.length;have hT:s.TypeIs (.ref z) "zip" := ⟨_,hz,rfl⟩;unfold pyNext
  refine aa (cD (wpAny_callSpecial?_slot (name:=Str.ofString "__next__") hT cv
   (aR cv hT dY (zip_next_end (A:=X.A.in1) (I.ok.hd J) D hz Y ad as av p1 p2 (hx.elim (λz=>.inl (by simp;lia)) λz=>.inr (by simp;lia)) λh' e ko he=>?_) (dM _))))
  obtain⟨o,ho,cl⟩:=he;refine aa (cz (T := "StopIteration") (b:=true) ⟨o,ho,cl⟩ c7 ?_);refine ae ⟨rfl,?_⟩;have ag:∀c o,c∉[z,TO,O,U]->s.heap.get? c=some o->h'.get? c=some o:=λc o J e=>ko c o (λq=>J (by simp[q])) (λq=>J (by simp[q])) (λq=>J (by simp[q])) (λq=>J (by simp[q])) e;refine Inv.step (ch:=[z,TO,O,U]) (g':=s.gens) (d':=s.drawn) (t':=s.toks) I (λc J=>?_) (λc o h1 h2 h3 h4 h5=>ag c o h3 h4) (λc o h1 h2 h3 h4 h5=>⟨o.slots,ag c o h3 h4⟩) (λc o h3 h4 h5=>h5) (λc o h3 h4=>⟨o,ag c o h3 h4⟩) (λc ys q=>q) (λc o u' q=>q) (λc ps q=>⟨#[],by simp_all⟩) (λm hm=>?_) (λb' u' hb=>?_) I.bare
  ·simp only[aG,bP,or_false] at J;rcases J with rfl | rfl | rfl | rfl
   ·exact⟨fz.2.2.2.1,fz.2.1,fz.2.2.2.2.1,fz.2.2.2.2.2⟩
   ·exact⟨B.2.2.2.1,B.2.1,B.2.2.2.2.1,B.2.2.2.2.2⟩
   ·exact⟨f1.2.2.2.1,f1.2.1,f1.2.2.2.2.1,f1.2.2.2.2.2⟩
   ·exact⟨f2.2.2.2.1,f2.2.1,f2.2.2.2.2.1,f2.2.2.2.2.2⟩
  ·obtain⟨o,es,ep,a2,r1⟩:=hm;exact⟨o,es,ep,ko _ o (Ne.symm fz.2.1) (Ne.symm B.2.1) (Ne.symm f1.2.1) (Ne.symm f2.2.1) a2,r1⟩
  ·refine (I.hok b' u' hb).stay (λc v L q=>?_) (λc q=>q) (λc ys q=>q)
   have:c≠z/\c≠TO/\c≠O/\c≠U:=by
    rcases L with rfl | L
    ·exact⟨zc hb fz.1,zc hb B.1,zc hb f1.1,zc hb f2.1⟩
    ·exact⟨zc L fz.1,zc L B.1,zc L f1.1,zc L f2.1⟩
   exact ko c v this.1 this.2.1 this.2.2.1 this.2.2.2 q
 self:=λA i s Q E st h=>by obtain⟨hz,_⟩:=st;exact dZ hz h
def zrl (K:PySem.W.Frag)(ta:TA):TI:=λσ H R=>ta σ H λvs H1=>∃a b,vs=[.ref a,.ref b]/\(∃xs,SqL K H1 a xs)/\(∃ys,SqL K H1 b ys)/\R (Izl K a b) H1
def zpq {X:Cx}{elts:List Expr}{x1}{tpos:Pos}{a b:Expr}{ta:TA}{p pos:Pos}(hg:Gl X "zip")(hm:X.mg "zip" = none)(ha:PA X [a,b] ta)(hs:starEach [a,b] X.env=[(false,eval a X.env),(false,eval b X.env)]:=by rfl)(D:starEach [b] X.env=[(false,eval b X.env)]:=by rfl) :
  PI X (.Tuple elts x1 tpos) (.Call (.Name "zip" p) [a,b] [] pos) (zrl X.K ta):=by
 intro pins s σ H R I h;refine Call_ (zbq I hg hm boot_zip (bC (thn (ha pos pins s σ H _ I h) λus B ⟨vs,H1,I1,r1,q1⟩=>?_) (by rw[hs,D]) (by rw[D];rfl)));obtain⟨c,d,e,⟨xs,L⟩,⟨ys,O⟩,q⟩:=q1;subst e
 cases r1 with
 | cons r U=>
  cases U with
  | cons r' U=>
   cases U;cases r;cases r';obtain⟨F,as,p1,av⟩:=ub I1 L;obtain⟨J,a0,p2,a1⟩:=ub I1 O;have Y:c<B.heap.objs.size:=by obtain⟨o,Z,_⟩:=id p1;exact ax Z
   have ad:d<B.heap.objs.size:=by obtain⟨o,Z,_⟩:=id p2;exact ax Z
   refine call_zip_2 (show B.heap.IsList c F.toArray from p1) (show B.heap.IsList d J.toArray from p2) λh' gz ag al an ap hsz hk=>?_;have I2:Inv X pins σ H1 { B with heap:=h',toks:=B.toks }:=I1.kept (t':=B.toks) hk;refine dZ gz ?_;refine⟨B.heap.objs.size+4,[B.heap.objs.size+4,B.heap.objs.size+2,B.heap.objs.size+3,B.heap.objs.size,B.heap.objs.size+1],_,_,H1,rfl,I2,zk0 _ _ _ _ _ c d (zipApart_new Y ad),⟨gz,ag,⟨_,_,al⟩,an,ap⟩,λe he=>?_,q⟩;simp only[aG,bP,or_false] at he;rcases he with rfl | rfl | rfl | rfl | rfl
   ·exact I1.fpOk (by lia) (I1.hok.fresh (by lia))
   ·exact I1.fpOk (by lia) (I1.hok.fresh (by lia))
   ·exact I1.fpOk (by lia) (I1.hok.fresh (by lia))
   ·exact I1.fpOk (ai _) (I1.hok.fresh (ai _))
   ·exact I1.fpOk (by lia) (I1.hok.fresh (by lia))
def zpQ {X:Cx}{elts:List Expr}{x1}{tpos:Pos}{a b:Expr}{ta:TA}{p pos:Pos}(B:Gl X "zip")(D:X.mg "zip" = none)(F:QA X [a,b] ta)(hs:starEach [a,b] X.env=[(false,eval a X.env),(false,eval b X.env)]:=by rfl)(q:starEach [b] X.env=[(false,eval b X.env)]:=by rfl) :
  QI X (.Tuple elts x1 tpos) (.Call (.Name "zip" p) [a,b] [] pos) (zrl X.K ta):=⟨zpq B D F.run hs q⟩
abbrev nmS (b:Bool):String:=match b with | true => "tuple" | false => "list"
abbrev nmI (b:Bool):String:=match b with | true => "tuple_iterator" | false => "list_iterator"
def SqH (b:Bool)(h:Heap)(l:Addr)(xs:Array Value):Prop:=∃o,h.get? l=some o/\o.cls = .type (nmS b)/\∃n,o.data = .seq xs n
def ItH (b:Bool)(h:Heap)(i l:Addr)(k:Nat):Prop:=∃o,h.get? i=some o/\o.cls = .type (nmI b)/\o.data = .fields #[.ref l,.int k 0]
abbrev SqV (b:Bool) (K:PySem.W.Frag) (H:Hp) (a:Addr) (xs:List V):Prop:=match b with | true=>SqT K H a xs | false=>SqL K H a xs
def zgA{X:Cx}{pins:List (Addr×Obj)}{σ:St}{H:Hp}{s:Shared}{a:Addr}{xs:List V}(I:Inv X pins σ H s)(h:SqV b X.K H a xs):∃its:List Value,yb xs its/\SqH b s.heap a its.toArray:=by
 cases b
 ·obtain⟨its,r,p,_⟩:=ub I h;exact⟨its,r,p⟩
 ·obtain⟨its,r,p,_⟩:=I.tuple h;exact⟨its,r,p⟩
def zuF{X:Cx}{pins:List (Addr×Obj)}{σ:St}{H:Hp}{a:Addr}(I:Inv X pins σ H s)(h:SqV b X.K H a xs)(h':SqV b X.K H a ys):xs=ys:=by
 cases b
 ·exact I.list_inj h h'
 ·exact I.tuple_inj h h'
section
variable {prog:Program}{w:World}{A:Around}{E:Value->Shared->Prop}{s:Shared}
def zib(q:ItH k s.heap B t i)(D:SqH k s.heap t items)(F:items[i]?=some x)(I:∀h',ItH k h' B t (i+1)->Heap.SameBut B s.heap h'->Q x { s with heap:=h' }):wpAny (model prog w) A (Builtin.SmallTypes.nextOf (.ref B)) Q E s:=by
 cases k
 ·exact wpAny_nextOf_list_item q D F I
 ·exact uq q D F I
def zj7(D:A.handled=none)(q:ItH k s.heap B t i)(F:SqH k s.heap t items)(I:items[i]?=none)(J:∀h' e,Heap.ExtBut B s.heap h'->(∃o,h'.get? e=some o/\o.cls = .type "StopIteration")->E (.ref e) { s with heap:=h' }):wpAny (model prog w) A (Builtin.SmallTypes.nextOf (.ref B)) Q E s:=by
 cases k
 ·exact wpAny_nextOf_list_end D q F I J
 ·exact zbL D q F I J
def zuG(h:SqH k s.heap l items)(q:Q (.ref s.heap.objs.size) { s with heap:=s.heap.push { cls:=.type (nmI k),data:=.fields #[.ref l,.int 0 0] } }):wpAny (model prog w) A (pyIter (.ref l)) Q E s:=by
 cases k
 ·exact cV h q
 ·exact eK h q
def zdb{z TI TO Y F t1 t2:Addr}{xs ys:Array Value}{x y a b:Value}{Q:Value->Shared->Prop}(D:ZipApart z TI TO Y F t1 t2)(hz:IsZip s.heap z TI TO .none)(b3:IsPair s.heap TI (.ref Y) (.ref F))(ca:IsPair s.heap TO a b)(h1:ItH kb s.heap Y t1 k1)(h2:s.heap.IsTupleIter F t2 k2)(hx:SqH kb s.heap t1 xs)(hy:s.heap.IsTuple t2 ys)(ex:xs[k1]?=some x)(ey:ys[k2]?=some y)(hQ:∀h',IsZip h' z TI TO (rawInt s.heap.objs.size)->IsPair h' TO x y->ItH kb h' Y t1 (k1+1)->h'.IsTupleIter F t2 (k2+1)->IsPair h' s.heap.objs.size x y->h'.objs.size=s.heap.objs.size+1->
   (∀c o,c≠z->c≠TO->c≠Y->c≠F->s.heap.get? c=some o->h'.get? c=some o)->Q (.ref s.heap.objs.size) { s with heap:=h' }) :
  wpAny (model prog w) A (Builtin.«zip.__next__» ⟨[.ref z],[]⟩) (λfin s'=>∃v,fin = .done (.ret v)/\Q v s') E s:=by
 show wpAny _ _ (field (.ref z) 2 >>= _) _ _ s;refine aa (bA hz rfl (x:=.bool false) rfl ?_);show wpAny _ _ (field (.ref z) 3 >>= _) _ _ s;refine aa (bA hz rfl (x:=.ref TI) rfl ?_);show wpAny _ _ (seqItems? (.ref TI) >>= _) _ _ s;refine aa (ck b3 rfl ?_);show wpAny _ _ (Builtin.SmallTypes.ownedTupleIsFree (.ref z) >>= _) _ _ s;refine aa ?_;show wpAny _ _ (field (.ref z) 0 >>= _) _ _ s;refine aa (bA hz rfl (x:=.none) rfl ?_);refine ae ?_;show wpAny _ _ (rule "zip.__next__.owned-tuple-again" >>= _) _ _ s;refine aa (dG ?_);show wpAny _ _ (field (.ref z) 4 >>= _) _ _ s;refine aa (bA hz rfl (x:=.ref TO) rfl ?_);show wpAny _ _ (setField (.ref z) 0 .ellipsis >>= _) _ _ s;refine aa (bD hz rfl (by simp) ?_);have a2:(s.heap.update z (Obj.mapFields λx=>x.setIfInBounds 0 Value.ellipsis)).get? z=some { cls:=.type "zip",data:=.fields #[.ellipsis,.bool false,.bool false,.ref TI,.ref TO] }:=bi _ hz rfl;have B:∀c,c≠z->(s.heap.update z (Obj.mapFields λx=>x.setIfInBounds 0 Value.ellipsis)).get? c=s.heap.get? c:=λc q=>bB _ _ (Ne.symm q);have a3:(s.heap.update z (Obj.mapFields λx=>x.setIfInBounds 0 Value.ellipsis)).objs.size=s.heap.objs.size:=by simp[Heap.update]
 generalize s.heap.update z (Obj.mapFields λx=>x.setIfInBounds 0 Value.ellipsis)=H1 at a2 B a3;show wpAny _ _ (forIn ([(Value.ref Y,0),(Value.ref F,1)]:List (Value×Nat)) ((none,()):Option PySem.Fin×Unit) _ >>= _) _ _ _;rw[eC];refine aa (aa ?_);refine aa (fw ?_);show wpAny _ _ (if (Value.bool false==Value.bool true)=true then _ else (Builtin.SmallTypes.nextOf (.ref Y) >>= λx=>pure (some x))) _ _ _;rw[if_neg (by decide)];have cc:ItH kb H1 Y t1 k1:=by obtain⟨o,I,r⟩:=h1;exact⟨o,(B _ D.i1z).trans I,r⟩
 have cd:SqH kb H1 t1 xs:=by obtain⟨o,I,r⟩:=hx;exact⟨o,(B _ D.l1z).trans I,r⟩
 refine aa (zib (s:={ s with heap:=H1 }) cc cd ex λH2 a4 a5=>?_);refine ae ?_;have J:∀c,c≠Y->H2.get? c=H1.get? c:=λc q=>a5.2 c q;have ag:IsPair H2 TO a b:=(J _ D.TOi1).trans ((B _ D.TOz).trans ca);show wpAny _ _ (seqItems? (.ref TO) >>= _) _ _ _;refine aa (ck (s:={ s with heap:=H2 }) ag rfl ?_);refine aa (wpAny_updateSeq_pair (s:={ s with heap:=H2 }) ag λH3 a7 bb=>?_);refine aa (wpAny_letGo ?_);refine ae ?_;have ap:IsPair H3 TO x b:=a7;have L:∀c,c≠TO->H3.get? c=H2.get? c:=λc q=>bb.2 c q;show wpAny _ _ (forIn ([(Value.ref F,1)]:List (Value×Nat)) ((none,()):Option PySem.Fin×Unit) _) _ _ _;rw[eC];refine aa ?_;refine aa (fw ?_);show wpAny _ _ (if (Value.bool false==Value.bool true)=true then _ else (Builtin.SmallTypes.nextOf (.ref F) >>= λx=>pure (some x))) _ _ _;rw[if_neg (by decide)];have ch:H3.IsTupleIter F t2 k2:=by obtain⟨o,I,r⟩:=h2;exact⟨o,(L _ (Ne.symm D.TOi2)).trans ((J _ (Ne.symm D.i12)).trans ((B _ D.i2z).trans I)),r⟩
 have cl:H3.IsTuple t2 ys:=by obtain⟨o,I,r⟩:=hy;exact⟨o,(L _ D.l2TO).trans ((J _ D.l2i1).trans ((B _ D.l2z).trans I)),r⟩
 refine aa (uq (s:={ s with heap:=H3 }) ch cl ey λH4 bd bk=>?_);refine ae ?_;have Z:∀c,c≠F->H4.get? c=H3.get? c:=λc q=>bk.2 c q;have al:IsPair H4 TO x b:=(Z _ D.TOi2).trans ap;show wpAny _ _ (seqItems? (.ref TO) >>= _) _ _ _;refine aa (ck (s:={ s with heap:=H4 }) al rfl ?_);refine aa (wpAny_updateSeq_pair (s:={ s with heap:=H4 }) al λH5 bl bn=>?_);refine aa (wpAny_letGo ?_);refine ae ?_;have O:IsPair H5 TO x y:=bl;have ad:∀c,c≠TO->H5.get? c=H4.get? c:=λc q=>bn.2 c q;show wpAny _ _ (forIn ([]:List (Value×Nat)) ((none,()):Option PySem.Fin×Unit) _) _ _ _;rw[List.forIn_nil];refine ae ?_;show wpAny _ _ (seqItems? (.ref TO) >>= _) _ _ _;refine aa (ck (s:={ s with heap:=H5 }) O rfl ?_);refine aa (wpAny_newTuple ?_ (by show 2<=sizeLine;decide));have bo:H5.objs.size=s.heap.objs.size:=bn.1.trans (bk.1.trans (bb.1.trans (a5.1.trans a3)));have ko:∀c o,c≠z->c≠TO->c≠Y->c≠F->s.heap.get? c=some o->H5.get? c=some o:=λc o c1 c2 c3 c4 e=>(ad _ c2).trans ((Z _ c4).trans ((L _ c2).trans ((J _ c3).trans ((B _ c1).trans e))));have cn:H5.get? z=some { cls:=.type "zip",data:=.fields #[.ellipsis,.bool false,.bool false,.ref TI,.ref TO] }:=(ad _ (Ne.symm D.TOz)).trans ((Z _ (Ne.symm D.i2z)).trans ((L _ (Ne.symm D.TOz)).trans ((J _ (Ne.symm D.i1z)).trans a2)));have U:=aq H5 (o:={ cls:=.type "tuple",data:=.seq #[x,y] }) rfl;show wpAny _ _ (Builtin.SmallTypes.ownedTupleHandOut (.ref z) (.ref H5.objs.size) >>= _) _ _ { s with heap:=H5.push { cls:=.type "tuple",data:=.seq #[x,y] } };have as:∀c o,H5.get? c=some o->(H5.push { cls:=.type "tuple",data:=.seq #[x,y] }).get? c=some o:=λc o e=>af _ e;have bs:(H5.push { cls:=.type "tuple",data:=.seq #[x,y] }).objs.size=s.heap.objs.size+1:=by rw[bL,bo]
 rw[bo] at U ⊢;generalize H5.push { cls:=.type "tuple",data:=.seq #[x,y] }=H6 at U as bs;have bx:=as _ _ cn;refine aa ?_;show wpAny _ _ (setField (.ref z) 0 (rawInt s.heap.objs.size) >>= _) _ _ { s with heap:=H6 };refine aa (bD bx rfl (by simp) ?_);have av:(H6.update z (Obj.mapFields λx=>x.setIfInBounds 0 (rawInt s.heap.objs.size))).get? z=some { cls:=.type "zip",data:=.fields #[rawInt s.heap.objs.size,.bool false,.bool false,.ref TI,.ref TO] }:=bi _ bx rfl;have a0:∀c,c≠z->(H6.update z (Obj.mapFields λx=>x.setIfInBounds 0 (rawInt s.heap.objs.size))).get? c=H6.get? c:=λc q=>bB _ _ (Ne.symm q);have b0:(H6.update z (Obj.mapFields λx=>x.setIfInBounds 0 (rawInt s.heap.objs.size))).objs.size=H6.objs.size:=by simp[Heap.update]
 generalize H6.update z (Obj.mapFields λx=>x.setIfInBounds 0 (rawInt s.heap.objs.size))=H7 at av a0 b0;refine bD (s:={ s with heap:=H7 }) av rfl (by simp) ?_;have b1:(H7.update z (Obj.mapFields λx=>x.setIfInBounds 1 (Value.bool false))).get? z=some { cls:=.type "zip",data:=.fields #[rawInt s.heap.objs.size,.bool false,.bool false,.ref TI,.ref TO] }:=bi _ av rfl;have a1:∀c,c≠z->(H7.update z (Obj.mapFields λx=>x.setIfInBounds 1 (Value.bool false))).get? c=H7.get? c:=λc q=>bB _ _ (Ne.symm q);have b2:(H7.update z (Obj.mapFields λx=>x.setIfInBounds 1 (Value.bool false))).objs.size=H7.objs.size:=by simp[Heap.update]
 generalize H7.update z (Obj.mapFields λx=>x.setIfInBounds 1 (Value.bool false))=H8 at b1 a1 b2;have kk:∀c o,c≠z->H5.get? c=some o->H8.get? c=some o:=λc o q e=>(a1 _ q).trans ((a0 _ q).trans (as _ _ e));have an:=ax hz;refine ae ⟨_,rfl,hQ H8 b1 (kk _ _ D.TOz O) ?_ ?_ ?_ (by rw[b2,b0,bs]) λc o c1 c2 c3 c4 e=>kk _ _ c1 (ko c o c1 c2 c3 c4 e)⟩
 ·obtain⟨o,I,r⟩:=a4;exact⟨o,kk _ _ D.i1z ((ad _ (Ne.symm D.TOi1)).trans ((Z _ D.i12).trans ((L _ (Ne.symm D.TOi1)).trans I))),r⟩
 ·obtain⟨o,I,r⟩:=bd;exact⟨o,kk _ _ D.i2z ((ad _ (Ne.symm D.TOi2)).trans I),r⟩
 ·exact (a1 _ (dh an)).trans ((a0 _ (dh an)).trans U)
def zeE{z TI TO B O I t2:Addr}{xs:Array Value}{Q:PySem.Fin->Shared->Prop}(D:ZipApart z TI TO B O I t2)(hh:A.handled=none)(F:IsZip s.heap z TI TO .none)(Y:IsPair s.heap TI (.ref B) (.ref O))(h1:ItH kb s.heap B I U)(hx:SqH kb s.heap I xs)(ex:xs[U]?=none)(hE:∀h' e,(∀c o,c≠z->c≠B->s.heap.get? c=some o->h'.get? c=some o)->(∃o,h'.get? e=some o/\o.cls = .type "StopIteration")->E (.ref e) { s with heap:=h' }) :
  wpAny (model prog w) A (Builtin.«zip.__next__» ⟨[.ref z],[]⟩) Q E s:=by
 show wpAny _ _ (field (.ref z) 2 >>= _) _ _ s;refine aa (bA F rfl (x:=.bool false) rfl ?_);show wpAny _ _ (field (.ref z) 3 >>= _) _ _ s;refine aa (bA F rfl (x:=.ref TI) rfl ?_);show wpAny _ _ (seqItems? (.ref TI) >>= _) _ _ s;refine aa (ck Y rfl ?_);show wpAny _ _ (Builtin.SmallTypes.ownedTupleIsFree (.ref z) >>= _) _ _ s;refine aa ?_;show wpAny _ _ (field (.ref z) 0 >>= _) _ _ s;refine aa (bA F rfl (x:=.none) rfl ?_);refine ae ?_;show wpAny _ _ (rule "zip.__next__.owned-tuple-again" >>= _) _ _ s;refine aa (dG ?_);show wpAny _ _ (field (.ref z) 4 >>= _) _ _ s;refine aa (bA F rfl (x:=.ref TO) rfl ?_);show wpAny _ _ (setField (.ref z) 0 .ellipsis >>= _) _ _ s;refine aa (bD F rfl (by simp) ?_);have J:(s.heap.update z (Obj.mapFields λx=>x.setIfInBounds 0 Value.ellipsis)).get? z=some { cls:=.type "zip",data:=.fields #[.ellipsis,.bool false,.bool false,.ref TI,.ref TO] }:=bi _ F rfl;have q:∀c,c≠z->(s.heap.update z (Obj.mapFields λx=>x.setIfInBounds 0 Value.ellipsis)).get? c=s.heap.get? c:=λc Z=>bB _ _ (Ne.symm Z);generalize s.heap.update z (Obj.mapFields λx=>x.setIfInBounds 0 Value.ellipsis)=H1 at J q;show wpAny _ _ (forIn ([(Value.ref B,0),(Value.ref O,1)]:List (Value×Nat)) ((none,()):Option PySem.Fin×Unit) _ >>= _) _ _ _;rw[eC];refine aa (aa ?_);refine aa (fw ?_);show wpAny _ _ (if (Value.bool false==Value.bool true)=true then _ else (Builtin.SmallTypes.nextOf (.ref B) >>= λx=>pure (some x))) _ _ _;rw[if_neg (by decide)];have ad:ItH kb H1 B I U:=by obtain⟨o,L,r⟩:=h1;exact⟨o,(q _ D.i1z).trans L,r⟩
 have ag:SqH kb H1 I xs:=by obtain⟨o,L,r⟩:=hx;exact⟨o,(q _ D.l1z).trans L,r⟩
 refine aa (zj7 (s:={ s with heap:=H1 }) hh ad ag ex λH2 e eb he=>?_);have al:=eb z _ (Ne.symm D.i1z) J;refine bD (s:={ s with heap:=H2 }) al rfl (by simp) ?_
 have an:e≠z:=by grind
 refine hE _ e (λc o c1 c2 e1=>?_) ?_
 ·exact (bB _ _ (Ne.symm c1)).trans (eb c o c2 ((q _ c1).trans e1))
 ·obtain⟨o,L,Z⟩:=he;exact⟨o,(bB _ _ (Ne.symm an)).trans L,Z⟩
def zhM (kb:Bool)(h:Heap)(q B:Addr):Heap:=
 ((((h.push { cls:=.type (nmI kb),data:=.fields #[.ref q,.int 0 0] }).push { cls:=.type "tuple_iterator",data:=.fields #[.ref B,.int 0 0] }).push { cls:=.type "tuple",data:=.seq #[.ref h.objs.size,.ref (h.objs.size+1)] }).push { cls:=.type "tuple",data:=.seq #[.none,.none] }).push
  { cls:=.type "zip",data:=.fields #[.none,.bool false,.bool false,.ref (h.objs.size+2),.ref (h.objs.size+3)] }
def zc2 (kb:Bool)(q B:Addr)(xs ys:Array Value) :
  Meets (Builtin.«zip.__new__» ⟨[.type "zip",.ref q,.ref B],[]⟩) (λ_ R s=>SqH kb s.heap q xs/\s.heap.IsTuple B ys/\R (.ok (.ret (.ref (s.heap.objs.size+4)))) { s with heap:=zhM kb s.heap q B }):=
 .of_wp λprog w A R s h=>by
  obtain⟨I,g,d,tk,J⟩:=s;obtain⟨h1,h2,h⟩:=h;have F:=sub_zip
  have D:Heap.IsTuple (Shared.heap ⟨I.push { cls:=.type (nmI kb),data:=.fields #[.ref q,.int 0 0] },g,d,tk,J⟩) B ys:=by obtain⟨o,L,r⟩:=h2;exact⟨o,af _ L,r⟩
  wp_walk using zuG h1,eK D
  refine⟨_,rfl,?_⟩;unfold zhM at h;simpa [bL,Builtin.SmallTypes.ownedTupleFields] using h
def ziO(h1:SqH kb s.heap q xs)(h2:s.heap.IsTuple D ys)(h:∀h',IsZip h' (s.heap.objs.size+4) (s.heap.objs.size+2) (s.heap.objs.size+3) .none->IsPair h' (s.heap.objs.size+2) (.ref s.heap.objs.size) (.ref (s.heap.objs.size+1))->IsPair h' (s.heap.objs.size+3) .none .none->
   ItH kb h' s.heap.objs.size q 0->h'.IsTupleIter (s.heap.objs.size+1) D 0->h'.objs.size=s.heap.objs.size+5->(∀b o,s.heap.get? b=some o->h'.get? b=some o)->Q (.ref (s.heap.objs.size+4)) { s with heap:=h' }) :
  wpAny (model prog w) A (call (.type "zip") [.ref q,.ref D]) Q E s:=by
 refine callType_new F.called_zip (by decide) (F.typeCall_zip_2 _ _) (F.newCall_zip_2 _ _) (λI=>F.args_object_init_3 I _ _) F.entry_zip_new (zc2 kb q D xs ys) ⟨h1,h2,?_⟩;generalize ad:({ cls:=.type (nmI kb),data:=.fields #[.ref q,.int 0 0] }:Obj)=o0;have Y:∀o,(s.heap.push o).objs.size=s.heap.objs.size+1:=λo=>bL ..;have Z:∀o o',((s.heap.push o).push o').objs.size=s.heap.objs.size+2:=λo o'=>by rw[bL,Y]
 have z3:∀o o' B,(((s.heap.push o).push o').push B).objs.size=s.heap.objs.size+3:=λo o' B=>by rw[bL,Z]
 have z4:∀o o' B p,((((s.heap.push o).push o').push B).push p).objs.size=s.heap.objs.size+4:=λo o' B p=>by rw[bL,z3]
 have gz:(zhM kb s.heap q D).get? (s.heap.objs.size+4)=some { cls:=.type "zip",data:=.fields #[.none,.bool false,.bool false,.ref (s.heap.objs.size+2),.ref (s.heap.objs.size+3)] }:=by unfold zhM;rw[<- z4];exact aq _ rfl
 have J:(zhM kb s.heap q D).get? (s.heap.objs.size+3)=some { cls:=.type "tuple",data:=.seq #[.none,.none] }:=by unfold zhM;refine af _ ?_;rw[<- z3];exact aq _ rfl
 have L:(zhM kb s.heap q D).get? (s.heap.objs.size+2)=some { cls:=.type "tuple",data:=.seq #[.ref s.heap.objs.size,.ref (s.heap.objs.size+1)] }:=by unfold zhM;refine af _ (af _ ?_);rw[<- Z];exact aq _ rfl
 have O:(zhM kb s.heap q D).get? (s.heap.objs.size+1)=some { cls:=.type "tuple_iterator",data:=.fields #[.ref D,.int 0 0] }:=by unfold zhM;refine af _ (af _ (af _ ?_));rw[<- Y];exact aq _ rfl
 have U:(zhM kb s.heap q D).get? s.heap.objs.size=some { cls:=.type (nmI kb),data:=.fields #[.ref q,.int 0 0] }:=by unfold zhM;exact af _ (af _ (af _ (af _ (aq _ rfl))))
 refine⟨⟨_,gz,rfl⟩,h _ gz L J ⟨_,U,rfl,rfl⟩ ⟨_,O,rfl,rfl⟩ ?_ λb o x=>?_⟩
 ·unfold zhM;rw[bL,z4]
 ·unfold zhM;exact af _ (af _ (af _ (af _ (af _ x))))
end
def Izg (kb:Bool)(K:PySem.W.Frag)(a b:Addr):It:=
 ⟨λi H=>∃xs ys x y,SqV kb K H a xs/\SqT K H b ys/\xs[i]?=some x/\ys[i]?=some y,λi H v H'=>∃T x y,v = .ref T/\H T=none/\H'=upd H T (.tup [x,y])/\(∀xs,SqV kb K H a xs->xs[i]?=some x)/\∀ys,SqT K H b ys->ys[i]?=some y,λi H=>∃xs,SqV kb K H a xs/\xs.length<=i⟩
def zkZ{P:Program}{w:World}{K:PySem.W.Frag}{elts:List Expr}{x1}(z TI TO J i2 a b:Addr)(D:ZipApart z TI TO J i2 a b) :
  Turn P w K (.Tuple elts x1 tpos) (Izg kb K a b) [z,TI,TO,J,i2] z (λi h=>IsZip h z TI TO .none/\IsPair h TI (.ref J) (.ref i2)/\(∃c d,IsPair h TO c d)/\ItH kb h J a i/\h.IsTupleIter i2 b i) where
 mem:=by simp
 obj:=λi h st c F=>by
  obtain⟨hz,L,⟨u,v,al⟩,⟨o1,e1,c1,d1⟩,⟨o2,e2,c2,d2⟩⟩:=st
  grind
 keep:=λi h h' st k=>by obtain⟨hz,L,⟨u,v,al⟩,⟨o1,e1,r1⟩,⟨o2,e2,r2⟩⟩:=st;exact⟨k z (by simp) _ hz,k TI (by simp) _ L,⟨u,v,k TO (by simp) _ al⟩,⟨o1,k J (by simp) _ e1,r1⟩,⟨o2,k i2 (by simp) _ e2,r2⟩⟩
 item:=by
  intro X hP hw hK F i pins s σ H E I hf st hg;subst hP hw hK;obtain⟨xs,ys,x,y,a1,a2,hx,hy⟩:=hg;obtain⟨cl,bl,p1⟩:=zgA I a1;obtain⟨cn,bn,p2,cp⟩:=I.tuple a2;obtain⟨u1,bo,bs⟩:=bl.get hx;obtain⟨u2,bx,b0⟩:=bn.get hy;have Y:=hf z (by simp);have Z:=hf TO (by simp);have f1:=hf J (by simp);have f2:=hf i2 (by simp);obtain⟨hz,L,⟨c0,d0,al⟩,ap,as⟩:=st;have hT:s.TypeIs (.ref z) "zip" := ⟨_,hz,rfl⟩;unfold pyNext
  refine aa (cD (wpAny_callSpecial?_slot (name:=Str.ofString "__next__") hT cv
   (aR cv hT dY (zdb (A:=X.A.in1) D hz L al ap as p1 p2 (x:=u1) (y:=u2) (by simpa using bo) (by simpa using bx) λh' gz b1 b2 b3 gT cs hk=>?_) (dM _))))
  refine ae ⟨_,rfl,?_⟩;refine wpAny_letOwnedTupleGo_zip (s:={ s with heap:=h' }) gz λan a3 O=>?_;have nz:∀b' o',s.heap.get? b'=some o'->s.heap.objs.size≠b':=λb' o' e=>dh (ax e);have a4:s.heap.objs.size≠z:=nz z _ hz;have a5:s.heap.objs.size≠TO:=nz TO _ al;have ca:s.heap.objs.size≠J:=by obtain⟨o,ho,_⟩:=ap;exact nz J _ ho
  have cc:s.heap.objs.size≠i2:=by obtain⟨o,ho,_⟩:=as;exact nz i2 _ ho
  have a7:s.heap.objs.size≠TI:=nz TI _ L;have B:=I.hok.fresh (ai s.heap.objs.size);have kp:∀c o,c≠z->c≠TO->c≠J->c≠i2->s.heap.get? c=some o->an.get? c=some o:=λc o h1 h2 h3 U hb=>(O.2 c h1).trans (hk c o h1 h2 h3 U hb);have bb:an.get? s.heap.objs.size=some { cls:=.type "tuple",data:=.seq #[u1,u2] }:=(O.2 _ a4).trans gT;have co:∀b' u',H b'=some u'->b'≠z/\b'≠TO/\b'≠J/\b'≠i2:=λb' u' hb=>⟨zc hb Y.1,zc hb Z.1,zc hb f1.1,zc hb f2.1⟩
  have bd:HOk X.prog X.w (upd H s.heap.objs.size (.tup [x,y])) an:=by
   intro b' u' hb;by_cases bk:b'=s.heap.objs.size
   ·subst bk;rw[zk] at hb;cases hb;exact⟨by show 2<=sizeLine;decide,[u1,u2],.cons bs (.cons b0 .nil),_,bb,rfl,⟨0,rfl⟩,rfl⟩
   ·rw[zg bk] at hb;refine (I.hok b' u' hb).stay (λc v ad q=>?_) (λc q=>?_) (λc ys q=>?_)
    ·have:c≠z/\c≠TO/\c≠J/\c≠i2:=by
      rcases ad with rfl | ad
      all_goals simp_all
     simp_all
    ·rw[zg (zc q B)];exact q
    ·rw[zg (zc q B)];exact q
  have ag:∀c o,c∉[z,TO,J,i2]->s.heap.get? c=some o->an.get? c=some o:=λc o F e=>kp c o (λq=>F (by simp[q])) (λq=>F (by simp[q])) (λq=>F (by simp[q])) (λq=>F (by simp[q])) e
  have I1:Inv X pins σ (upd H s.heap.objs.size (.tup [x,y])) { s with heap:=an,toks:=s.toks }:=by
   refine Inv.step (ch:=[z,TO,J,i2]) (g':=s.gens) (d':=s.drawn) (t':=s.toks) I (λc F=>?_) (λc o h1 h2 h3 U h5=>?_) (λc o h1 h2 h3 U h5=>?_) (λc o h3 U h5=>?_) (λc o h3 U=>?_) (λc ys q=>?_) (λc o u' q=>?_) (λc ps q=>?_) (λm hm=>?_) bd I.bare
   ·simp only[aG,bP,or_false] at F;rcases F with rfl | rfl | rfl | rfl
    ·exact⟨Y.2.2.2.1,Y.2.1,Y.2.2.2.2.1,Y.2.2.2.2.2⟩
    ·exact⟨Z.2.2.2.1,Z.2.1,Z.2.2.2.2.1,Z.2.2.2.2.2⟩
    ·exact⟨f1.2.2.2.1,f1.2.1,f1.2.2.2.2.1,f1.2.2.2.2.2⟩
    ·exact⟨f2.2.2.2.1,f2.2.1,f2.2.2.2.2.1,f2.2.2.2.2.2⟩
   ·exact ag c o h3 U
   ·exact⟨o.slots,ag c o h3 U⟩
   ·rw[zg (aJ (ax U))];exact h5
   ·exact⟨o,ag c o h3 U⟩
   ·rw[zg (zc q B)];exact q
   ·rw[zg (zc q B)];exact q
   ·exact⟨#[],by rw[zg (zc q B),du];exact q⟩
   ·obtain⟨o,es,ep,av,r1⟩:=hm;exact⟨o,es,ep,kp _ o (Ne.symm Y.2.1) (Ne.symm Z.2.1) (Ne.symm f1.2.1) (Ne.symm f2.2.1) av,r1⟩
  refine⟨.ref s.heap.objs.size,_,I1,rfl,⟨s.heap.objs.size,x,y,rfl,B,rfl,λzs a0=>by rw[zuF I a0 a1];exact hx,λzs a0=>by rw[I.tuple_inj a0 a2];exact hy⟩,⟨a3,?_,⟨_,_,(O.2 TO D.TOz).trans b1⟩,?_,?_⟩,λc F=>?_⟩
  ·exact kp TI _ D.TIz D.TITO D.TIi1 D.TIi2 L
  ·obtain⟨o,ho,r⟩:=b2;exact⟨o,(O.2 J D.i1z).trans ho,r⟩
  ·obtain⟨o,ho,r⟩:=b3;exact⟨o,(O.2 i2 D.i2z).trans ho,r⟩
  ·simp only[aG,bP,or_false] at F;rcases F with rfl | rfl | rfl | rfl | rfl
   ·rw[zg (Ne.symm a4)];exact Y.1
   ·rw[zg (Ne.symm a7)];exact (hf _ (by simp)).1
   ·rw[zg (Ne.symm a5)];exact Z.1
   ·rw[zg (Ne.symm ca)];exact f1.1
   ·rw[zg (Ne.symm cc)];exact f2.1
 done:=by
  intro X hP hw hK F i pins s σ H E I hf st hg;subst hP hw hK;obtain⟨xs,hq,hx⟩:=hg;obtain⟨its,rv,p⟩:=zgA I hq;have Y:=hf z (by simp);have f1:=hf J (by simp);obtain⟨hz,L,⟨c0,d0,al⟩,ap,as⟩:=st;have hl:=rv.length;have hT:s.TypeIs (.ref z) "zip" := ⟨_,hz,rfl⟩;unfold pyNext
  refine aa (cD (wpAny_callSpecial?_slot (name:=Str.ofString "__next__") hT cv
   (aR cv hT dY (zeE (A:=X.A.in1) D (I.ok.hd F) hz L ap p (by simp;lia) λh' e ko he=>?_) (dM _))))
  obtain⟨o,ho,cd⟩:=he;refine aa (cz (T := "StopIteration") (b:=true) ⟨o,ho,cd⟩ c7 ?_);refine ae ⟨rfl,?_⟩;have ag:∀c o,c∉[z,J]->s.heap.get? c=some o->h'.get? c=some o:=λc o F e=>ko c o (λq=>F (by simp[q])) (λq=>F (by simp[q])) e;refine Inv.step (ch:=[z,J]) (g':=s.gens) (d':=s.drawn) (t':=s.toks) I (λc F=>?_) (λc o h1 h2 h3 U h5=>ag c o h3 U) (λc o h1 h2 h3 U h5=>⟨o.slots,ag c o h3 U⟩) (λc o h3 U h5=>h5) (λc o h3 U=>⟨o,ag c o h3 U⟩) (λc ys q=>q) (λc o u' q=>q) (λc ps q=>⟨#[],by simp_all⟩) (λm hm=>?_) (λb' u' hb=>?_) I.bare
  ·simp only[aG,bP,or_false] at F;rcases F with rfl | rfl
   ·exact⟨Y.2.2.2.1,Y.2.1,Y.2.2.2.2.1,Y.2.2.2.2.2⟩
   ·exact⟨f1.2.2.2.1,f1.2.1,f1.2.2.2.2.1,f1.2.2.2.2.2⟩
  ·obtain⟨o,es,ep,av,r1⟩:=hm;exact⟨o,es,ep,ko _ o (Ne.symm Y.2.1) (Ne.symm f1.2.1) av,r1⟩
  ·refine (I.hok b' u' hb).stay (λc v ad q=>?_) (λc q=>q) (λc ys q=>q)
   have:c≠z/\c≠J:=by
    rcases ad with rfl | ad
    ·exact⟨zc hb Y.1,zc hb f1.1⟩
    ·exact⟨zc ad Y.1,zc ad f1.1⟩
   exact ko c v this.1 this.2 q
 self:=λA i s Q E st h=>by obtain⟨hz,_⟩:=st;exact dZ hz h
def zrk (kb:Bool)(K:PySem.W.Frag)(ta:TA):TI:=λσ H R=>ta σ H λvs H1=>∃a b,vs=[.ref a,.ref b]/\(∃xs,SqV kb K H1 a xs)/\(∃ys,SqT K H1 b ys)/\R (Izg kb K a b) H1
def zpp (kb:Bool){X:Cx}{elts:List Expr}{x1}{tpos:Pos}{a b:Expr}{ta:TA}{p pos:Pos}(hg:Gl X "zip")(hm:X.mg "zip" = none)(ha:PA X [a,b] ta)(hs:starEach [a,b] X.env=[(false,eval a X.env),(false,eval b X.env)]:=by rfl)(D:starEach [b] X.env=[(false,eval b X.env)]:=by rfl) :
  PI X (.Tuple elts x1 tpos) (.Call (.Name "zip" p) [a,b] [] pos) (zrk kb X.K ta):=by
 intro pins s σ H R I h;refine Call_ (zbq I hg hm boot_zip (bC (thn (ha pos pins s σ H _ I h) λus B ⟨vs,H1,I1,r1,q1⟩=>?_) (by rw[hs,D]) (by rw[D];rfl)));obtain⟨c,d,e,⟨xs,J⟩,⟨ys,L⟩,q⟩:=q1;subst e
 cases r1 with
 | cons r O=>
  cases O with
  | cons r' O=>
   cases O;cases r;cases r';obtain⟨ap,as,p1⟩:=zgA I1 J;obtain⟨F,av,p2,a0⟩:=I1.tuple L;have U:c<B.heap.objs.size:=by obtain⟨o,Y,_⟩:=id p1;exact ax Y
   have Z:d<B.heap.objs.size:=by obtain⟨o,Y,_⟩:=id p2;exact ax Y
   refine ziO p1 (show B.heap.IsTuple d F.toArray from p2) λh' gz ad ag al an hsz hk=>?_;have I2:Inv X pins σ H1 { B with heap:=h',toks:=B.toks }:=I1.kept (t':=B.toks) hk;refine dZ gz ?_;refine⟨B.heap.objs.size+4,[B.heap.objs.size+4,B.heap.objs.size+2,B.heap.objs.size+3,B.heap.objs.size,B.heap.objs.size+1],_,_,H1,rfl,I2,zkZ _ _ _ _ _ c d (zipApart_new U Z),⟨gz,ad,⟨_,_,ag⟩,al,an⟩,λe he=>?_,q⟩;simp only[aG,bP,or_false] at he;rcases he with rfl | rfl | rfl | rfl | rfl
   ·exact I1.fpOk (by lia) (I1.hok.fresh (by lia))
   ·exact I1.fpOk (by lia) (I1.hok.fresh (by lia))
   ·exact I1.fpOk (by lia) (I1.hok.fresh (by lia))
   ·exact I1.fpOk (ai _) (I1.hok.fresh (ai _))
   ·exact I1.fpOk (by lia) (I1.hok.fresh (by lia))
def zkr (kb:Bool){X:Cx}{elts:List Expr}{x1}{tpos:Pos}{a b:Expr}{ta:TA}{p pos:Pos}(B:Gl X "zip")(D:X.mg "zip" = none)(F:QA X [a,b] ta)(hs:starEach [a,b] X.env=[(false,eval a X.env),(false,eval b X.env)]:=by rfl)(q:starEach [b] X.env=[(false,eval b X.env)]:=by rfl) :
  QI X (.Tuple elts x1 tpos) (.Call (.Name "zip" p) [a,b] [] pos) (zrk kb X.K ta):=⟨zpp kb B D F.run hs q⟩
section
variable {X:Cx}
def zpX:V->List V->Hp->VK->Prop:=λx vs H Q=>∃l xs k y,x = .ref l/\vs=[.int k,y]/\H l=some (.lst xs)/\0<=k/\k<=xs.length/\xs.length<sizeLine/\Q .non (upd H l (.lst (xs.take k.toNat++y::xs.drop k.toNat)))
def zj2:MtM X "list.insert" zpX:=by
 intro pins s σ H x vs v us Q I D J h;obtain⟨l,xs,k,y,rfl,rfl,B,h0,h1,L,q⟩:=h;cases D
 cases J with
 | cons O U=>
  cases U with
  | cons Y Z=>
   cases Z;obtain⟨t,rfl⟩:=O;obtain⟨z,its,n,r,hl,e⟩:=I.lstM B
   have hk:k<2 ^ 63:=by
    have:(xs.length:Int)<=2 ^ 40:=by have h2:xs.length<=2 ^ 40:=ay (cj L) (by decide);lia
    lia
   refine dF PySem.F.slot_list_insert ⟨_,e,rfl⟩ PySem.F.entry_list_insert (PySem.F.args_list_insert_3 _ _ _)
    (AutoSeq1.list_insert_list_int_val_1 l its.toArray n k t _ (by rw[fitsIndex_both (by lia) hk];decide) (by grind)) ⟨e,?_⟩
   refine⟨.non,_,I.lset (its':=its.take k.toNat++_::its.drop k.toNat) B e ?_ ((r.take _).append (.cons Y (r.drop _))) ?_,rfl,q⟩
   ·show (its.toArray.extract 0 (if k<0 then (k+(its.toArray.size:Int)).toNat else min k.toNat its.toArray.size)).push _++its.toArray.extract (if k<0 then (k+(its.toArray.size:Int)).toNat else min k.toNat its.toArray.size)=_;rw[if_neg (by lia),aV,Nat.min_eq_left (by lia)];apply Array.toList_inj.mp;simp;rw[bY (by simp)]
   ·grind
def zfz{T:String}{name:Str}{id:String}{r:V->List V->Hp->VK->Prop}{es:List Expr}{to:TE}{t:TA}{apos cpos:Pos}(L:PlainAttrs T)(F:Slot T name id)(J:typeOf (.builtin id)=pure (.type "method_descriptor"))(O:MtR X id r)(U:QE X o to)(Y:QA X (e::es) t)(B:attributeBase o name X.env (eval o X.env)=eval o X.env:=by rfl)(I:((backTo cpos (starEach (e::es) X.env)).all (λx=>!x.1)&&(backToKw cpos (keywordEach [] X.env)).all (λx=>x.1.isSome)
   && decide ((e::es).length+([]:List Keyword).length+(if ([]:List Keyword).isEmpty then 0 else 1)<30))=true:=by rfl)(D:(apos.endLine==cpos.line)=true:=by rfl)(hs:starEach (e::es) X.env=(false,eval e X.env)::starEach es X.env:=by rfl)(q:(backTo cpos (starEach es X.env)).any (·.1)=false:=by rfl) :
  QE X (.Call (.Attribute o name apos) (e::es) [] cpos) (tBM X.K T r to t):=⟨zr7 L F J O U.run Y.run B I D hs q⟩
def zkx:List V->Hp->VK->Prop:=λxs H Q=>∃ (l:Addr) (ns:List Int),xs=[.ref l]/\H l=some (.lst (ns.map V.int))/\ns.length<64/\∀q:List Int,q.Perm ns->q.Pairwise (·<=·)->New H (.lst (q.map V.int)) Q
def zg8:∀ {ns:List Int} {its:List Value},yb (ns.map V.int) its->IntsAre its ns
 | [],_,h=>by cases h;exact .nil
 | n::ns,_,h=>by
  cases h with
  | cons q B=>
   obtain⟨t,rfl⟩:=q;exact .cons _ _ (zg8 B)
def zll{ns:List Int}(h:IntsAre its ns):yb (ns.map V.int) its:=by
 induction h with
 | nil=>exact .nil
 | cons _ _ _ q=>exact .cons ⟨_,rfl⟩ q
def zlu:CallQ X (.builtin "sorted") zkx:=⟨by
 intro pins s σ H xs us Q I r h;obtain⟨l,ns,rfl,hl,Z,q⟩:=h;obtain⟨u,rfl,ru⟩:=zay r;cases ru;obtain⟨its,rv,pl,hz⟩:=I.list (.of hl);obtain⟨m0,B,_⟩:=id I.loc;refine PySem.W.kso_sorted (h₀:=(⟨#[],{}⟩:Heap)) (L:=X.env.locals) (m:=m0) (news:=zaX s.heap X.env.locals) ⟨B,λb o e=>?_,aN _⟩ (λp hp=>?_) pl.isList (zg8 rv) Z λD ap J c h' F N O hi an hp hs _=>?_
 ·have:=ax e;simp at this
 ·obtain⟨b,o⟩:=p;have:=zW.mp hp;refine⟨this.2,this.1,?_⟩
  cases e:(⟨#[],{}⟩:Heap).get? b with
  | none=>rfl
  | some o'=>
   have:=ax e;simp at this
 ·have ad:∀b o,b≠X.env.locals->s.heap.get? b=some o->h'.get? b=some o:=λb o hb e=>(N (b,o) (ao _ (zW.mpr ⟨hb,e⟩))).1;have ag:D≠X.env.locals:=(N (D,_) ak).2.1
  have al:s.heap.get? D=none:=by
   cases e:s.heap.get? D with
   | none=>rfl
   | some o=>exact absurd (O (D,o) (zW.mpr ⟨ag,e⟩)) (cA _)
  have U:H D=none:=by
   cases e:H D with
   | none=>rfl
   | some o=>
    obtain⟨o',as⟩:=zaQ (I.hok D o e)
    grind
  have Y:=(N (D,_) ak).1;have I':=zdX I B (ys:=J.map V.int) ad F.ns al U Y (zll hi) (by grind) s.toks;exact⟨.ref D,_,I',rfl,(q J hp hs).at U⟩⟩
end
end L2
namespace L3
open PySem L2
abbrev zr:=Addr×Addr×List Int
inductive W where
 | d (x:Dt) | pen (p:Addr) | dk (kvs:List (Key×Dt)) | dt (kvs:List (List Int×Dt)) | ss (P:Program) (w:World) (ks:List (List Int)) | df (kvs:List (List Int×Dt)) | kf (kvs:List (Key×Dt))
abbrev Mo (α:Type):=Nat->(α->Nat->Prop)->Prop
abbrev Ev:=List (Option W)
def NP (o:HO):Prop:=∀kvs,o = .dK kvs->za6 kvs (Sum.inr "at" : Key)=none
def NP.lst:NP (.lst xs):=λ_ e=>by cases e
open Classical in
noncomputable def z8 (A:Addr->Prop)(H:Hp):Hp:=λb=>if A b then none else H b
section
variable {A A0:Addr->Prop}{H H' G G' T T':Hp}{a b:Addr}{o:HO}
def yJ:z8 A H b=some o↔¬ A b/\H b=some o:=by
 unfold z8
 grind
def zG (h:¬ A b)(e:H b=some o):z8 A H b=some o:=yJ.mpr ⟨h,e⟩
def zp:xh (z8 A H) H:=λb o e=>(yJ.mp e).2
def zQ (s:zB H H'):zB (z8 A H) (z8 A H'):=λb o e n=>zG (yJ.mp e).1 (s b o (yJ.mp e).2 n)
def ul (s:xh H H'):xh (z8 A H) (z8 A H'):=λb o e=>zG (yJ.mp e).1 (s b o (yJ.mp e).2)
def xx (h:∀b,A0 b->A b):xh (z8 A H) (z8 A0 H):=λb o e=>zG (λz=>(yJ.mp e).1 (h b z)) (yJ.mp e).2
def yq (h:A a):z8 A (upd H a o)=z8 A H:=by
 funext b;unfold z8;by_cases q:A b
 ·simp[q]
 ·have:b≠a:=λe=>q (e ▸ h);simp[q,zg this]
end
def DAt (T G:Hp):Dt->V->Prop
 | .lst l,v=>∃a xs,v = .ref a/\T a=some (.lst xs)/\IsL G l xs
 | .dct,v=>∃a kvs,v = .ref a/\T a=some (.dK kvs)/\za6 kvs (Sum.inr "at" : Key)=none
 | .non,v=>Is G .non v
 | .bl b,v=>Is G (.bl b) v
 | .int i,v=>Is G (.int i) v
 | .str x,v=>Is G (.str x) v
 | .tup l,v=>Is G (.tup l) v
def DAt.is(h:DAt G G x v):Is G x v:=by cases x <;> exact h
def DAt.of(h:Is G x v):DAt G G x v:=by cases x <;> exact h
def DAt.up(t:zB T T')(g:zB G G')(h:DAt T G x v):DAt T' G' x v:=by
 cases x with
 | lst l=>obtain⟨a,xs,e,h1,h2⟩:=h;exact⟨a,xs,e,t.lst h1,h2.stay g⟩
 | dct=>obtain⟨a,kvs,e,h1,h2⟩:=h;exact⟨a,kvs,e,t _ _ h1 λk q=>by cases q;exact h2,h2⟩
 | _=>exact Is.stay g h
def DAt.full(t:xh T H)(g:xh G H)(h:DAt T G x v):Is H x v:=(DAt.up (zB.same t) (zB.same g) h).is
def uK {κ:Type}(G:Hp):List (κ×Dt)->List (κ×V)->Prop
 | [],ks=>ks=[]
 | q::r,ks=>∃v s,ks=(q.1,v)::s/\Is G q.2 v/\uK G r s
def uK.stay {κ:Type}{G G':Hp}(s:zB G G'):∀ {kvs:List (κ×Dt)} {ks:List (κ×V)},uK G kvs ks->uK G' kvs ks
 | [],_,h=>h
 | q::r,ks,⟨v,t,e,h1,h2⟩=>⟨v,t,e,h1.stay s,uK.stay s h2⟩
def SIs (G:Hp)(ks:List (List Int))(xs:List (List Int×Addr)):Prop:=ks=xs.map (·.1)/\(∀q∈xs,G q.2=some (.tup (q.1.map V.int)))/\ks.Nodup
def SIs.stay{ks:List (List Int)}{xs:List (List Int×Addr)}(h:SIs G ks xs)(s:zB G G'):SIs G' ks xs:=⟨h.1,λq B=>s _ _ (h.2.1 q B) (λ_ e=>by cases e),h.2.2⟩
def WAt (T G:Hp):W->V->Prop
 | .d x,v=>DAt T G x v
 | .pen p,v=>v = .ref p
 | .dk kvs,v=>∃a ks,v = .ref a/\T a=some (.dK ks)/\uK G kvs ks/\za6 ks (Sum.inr "at" : Key)=none
 | .dt kvs,v=>∃a ks,v = .ref a/\T a=some (dtO ks)/\uK G kvs ks
 | .ss P w ks,v=>∃a xs,v = .ref a/\T a=some (zhB P w a (yY xs))/\SIs G ks xs
 | .df kvs,v=>∃a ob ks,v = .ref a/\T a=some (.frz ob (dtO ks))/\uK G kvs ks
 | .kf kvs,v=>∃a ob ks,v = .ref a/\T a=some (.frz ob (.dK ks))/\uK G kvs ks
def WAt.up(t:zB T T')(g:zB G G')(h:WAt T G w v):WAt T' G' w v:=by
 cases w with
 | d x=>exact DAt.up t g h
 | pen p=>exact h
 | dk kvs=>
  obtain⟨a,ks,e,h1,h2,B⟩:=h;exact⟨a,ks,e,t _ _ h1 λk q=>by cases q;exact B,h2.stay g,B⟩
 | dt kvs=>
  obtain⟨a,ks,e,h1,h2⟩:=h;exact⟨a,ks,e,t _ _ h1 (λk q=>by cases q),h2.stay g⟩
 | ss P w kvs=>
  obtain⟨a,ks,e,h1,h2⟩:=h;exact⟨a,ks,e,t _ _ h1 (λk q=>by cases q),h2.stay g⟩
 | df kvs=>
  obtain⟨a,ob,ks,e,h1,h2⟩:=h;exact⟨a,ob,ks,e,t _ _ h1 (λk q=>by cases q),h2.stay g⟩
 | kf kvs=>
  obtain⟨a,ob,ks,e,h1,h2⟩:=h;exact⟨a,ob,ks,e,t _ _ h1 (λk q=>by cases q),h2.stay g⟩
abbrev W.mut:W->Bool
 | .d (.lst _)=>true
 | .d .dct=>true
 | .dk _=>true
 | .dt _=>true
 | .ss _ _ _=>true
 | _=>false
abbrev Val (A:Addr->Prop)(H:Hp)(w:W)(v:V):Prop:=WAt (z8 A H) (z8 A H) w v
abbrev Bor (A:Addr->Prop)(H:Hp)(w:W)(v:V):Prop:=WAt H (z8 A H) w v
def Val.bor(h:Val A H w v):Bor A H w v:=WAt.up (zB.same zp) (zB.refl _) h
def Val.stay(h:Val A H w v)(s:zB H H'):Val A H' w v:=WAt.up (zQ s) (zQ s) h
def Bor.stay(h:Bor A H w v)(s:zB H H'):Bor A H' w v:=WAt.up s (zQ s) h
def Bor.is(h:Bor A H (.d x) v):Is H x v:=DAt.full (zkI _) zp h
def Val.is(h:Val A H (.d x) v):Is (z8 A H) x v:=DAt.is h
def Val.of(h:Is (z8 A H) x v):Val A H (.d x) v:=DAt.of h
mutual
def zrp {A:Addr->Prop}{H:Hp}(hA:∀a xs,A a->H a≠some (.tup xs)):∀ {x:Dt} {v:V},x.noL=true->Is H x v->Is (z8 A H) x v
 | .non,_,_,h=>h
 | .bl _,_,_,h=>h
 | .int _,_,_,h=>h
 | .str _,_,_,h=>h
 | .tup l,_,n,h=>by obtain⟨p,xs,e,hp,hl⟩:=h;exact⟨p,xs,e,zG (λz=>hA p xs z hp) hp,zaw hA (by simpa [Dt.noL] using n) hl⟩
 | .lst l,_,n,_=>by simp[Dt.noL] at n
 | .dct,_,n,_=>by simp[Dt.noL] at n
def zaw {A:Addr->Prop}{H:Hp}(hA:∀a xs,A a->H a≠some (.tup xs)):∀ {ds:List Dt} {xs:List V},Dt.noLs ds=true->IsL H ds xs->IsL (z8 A H) ds xs
 | [],_,_,h=>h
 | d::ds,xs,n,h=>by
  obtain⟨x,r,e,h1,h2⟩:=h;have n':(d.noL&&Dt.noLs ds)=true:=by simpa [Dt.noLs] using n
  rw[bN] at n';exact⟨x,r,e,zrp hA n'.1 h1,zaw hA n'.2 h2⟩
end
def xu (Pn:Option zr)(A:Addr->Prop)(n:Nat)(H:Hp):Prop:=
 match Pn with
 | none=>True
 | some (p,c,ns)=>Pen H p c ns n/\¬ A c/\¬ A p
def Own (A:Addr->Prop)(H:Hp)(w:W)(v:V):Prop:=∃a,v = .ref a/\A a/\Bor A H w v/\w.mut=true
def Al (A:Addr->Prop)(H:Hp):Prop:=∀a,A a->∃o,H a=some o/\NP o/\∀xs,o≠.tup xs
structure EnvR (A:Addr->Prop)(M:List Nat)(σ:St)(H:Hp)(ρ:Ev):Prop where
 len:σ.length=ρ.length
 val:∀i w,ρ[i]?=some (some w)->∃v,σ[i]?=some (some v)/\(i∉M->Val A H w v)/\(i∈M->Own A H w v)
 dis:∀i j w u a,i∈M->j∈M->i≠j->ρ[i]?=some (some w)->ρ[j]?=some (some u)->σ[i]?=some (some (.ref a))->σ[j]?≠some (some (.ref a))
 al:Al A H
def EnvR.stay(E:EnvR A M σ H ρ)(s:zB H H'):EnvR A M σ H' ρ where
 len:=E.len
 val:=λi w e=>by obtain⟨v,h1,h2,q⟩:=E.val i w e;refine⟨v,h1,λz=>(h2 z).stay s,λz=>?_⟩;obtain⟨a,e,B,D,F⟩:=q z;exact⟨a,e,B,D.stay s,F⟩
 dis:=E.dis
 al:=λa h=>by obtain⟨o,h1,h2,q⟩:=E.al a h;exact⟨o,s _ _ h1 h2,h2,q⟩
def EnvR.alT(E:EnvR A M σ H ρ):∀a xs,A a->H a≠some (.tup xs):=λa xs h e=>by
 obtain⟨o,h1,_,q⟩:=E.al a h
 grind
def EnvR.new(E:EnvR A M σ H ρ)(h:H p=none):¬ A p:=λz=>by
 obtain⟨o,h1,_⟩:=E.al p z
 grind
def Fr (H:Hp)(a:Addr):Prop:=∀o,H a=some o->¬ NP o
def Fr.of(h:H a=none):Fr H a:=λo e=>by rw[h] at e;cases e
def Fr.back(h:Fr H1 a)(s:zB H H1):Fr H a:=λo e n=>h o (s _ _ e n) n
def FrV (A:Addr->Prop)(H H':Hp)(w:W)(v:V):Prop:=∃a,v = .ref a/\Fr H a/\WAt H' (z8 (λb=>A b\/b=a) H') w v
def FrV.back(h:FrV A H1 H' w v)(s:zB H H1):FrV A H H' w v:=let ⟨a,e,f,g⟩:=h;⟨a,e,f.back s,g⟩
def FrV.less(h:FrV A H H' w v)(s:∀a,A0 a->A a):FrV A0 H H' w v:=let ⟨a,e,f,g⟩:=h;⟨a,e,f,WAt.up (zB.refl _) (zB.same (xx λb z=>z.elim (λz=>.inl (s b z)) .inr)) g⟩
def EnvR.newF(E:EnvR A M σ H ρ)(h:Fr H p):¬ A p:=λz=>by obtain⟨o,h1,h2,_⟩:=E.al p z;exact h o h1 h2
def yI(s:zB H H')(n:Fr H p):zB (z8 A H) (z8 (λb=>A b\/b=p) H'):=λb o e q=>by obtain⟨h1,h2⟩:=yJ.mp e;exact zG (λz=>z.elim h1 λz=>by subst z;exact n o h2 q) (s b o h2 q)
structure Go (Pn:Option zr)(A:Addr->Prop)(H:Hp)(n:Nat)(H':Hp):Prop where
 st:zB H H'
 pn:xu Pn A n H'
def Go.trans(a:Go Pn A H n H1)(b:Go Pn A H1 m H2):Go Pn A H m H2:=⟨a.st.trans b.st,b.pn⟩
structure RE (Pn:Option zr)(M:List Nat)(fr:Bool)(te:TE)(f:Ev->Mo W):Prop where
 run:∀A σ H ρ n Q R,EnvR A M σ H ρ->xu Pn A n H->f ρ n R->(∀w m v H',R w m->Val A H' w v->Go Pn A H m H'->(fr=true->FrV A H H' w v)->Q v H')->te σ H Q
structure RB (Pn:Option zr)(M:List Nat)(te:TE)(f:Ev->Mo W):Prop where
 run:∀A σ H ρ n Q R,EnvR A M σ H ρ->xu Pn A n H->f ρ n R->(∀w m v H',R w m->Bor A H' w v->Go Pn A H m H'->Q v H')->te σ H Q
structure RT (Pn:Option zr)(M:List Nat)(te:TT)(f:Ev->Mo Bool):Prop where
 run:∀A σ H ρ n Q R,EnvR A M σ H ρ->xu Pn A n H->f ρ n R->(∀b m H',R b m->Go Pn A H m H'->Q b H')->te σ H Q
def zqw (A:Addr->Prop)(H:Hp):List W->List V->Prop
 | [],vs=>vs=[]
 | w::q,vs=>∃v r,vs=v::r/\Bor A H w v/\zqw A H q r
def zbQ (A:Addr->Prop)(H:Hp):List W->List V->Prop
 | [],vs=>vs=[]
 | w::q,vs=>∃v r,vs=v::r/\Val A H w v/\zbQ A H q r
def zbQ.bor:∀ {q:List W} {vs:List V},zbQ A H q vs->zqw A H q vs
 | [],_,h=>h
 | _::_,_,⟨v,r,e,h1,h2⟩=>⟨v,r,e,h1.bor,zbQ.bor h2⟩
structure RA (Pn:Option zr)(M:List Nat)(ta:TA)(f:Ev->Mo (List W)):Prop where
 run:∀A σ H ρ n Q R,EnvR A M σ H ρ->xu Pn A n H->f ρ n R->(∀ws m vs H',R ws m->zbQ A H' ws vs->Go Pn A H m H'->Q vs H')->ta σ H Q
structure RAB (Pn:Option zr)(M:List Nat)(ta:TA)(f:Ev->Mo (List W)):Prop where
 run:∀A σ H ρ n Q R,EnvR A M σ H ρ->xu Pn A n H->f ρ n R->(∀ws m vs H',R ws m->zqw A H' ws vs->Go Pn A H m H'->Q vs H')->ta σ H Q
structure Kt where
 nx:Ev->Nat->Prop
 rt:W->Nat->Prop
 bk:Ev->Nat->Prop:=λ_ _=>False
 ct:Ev->Nat->Prop:=λ_ _=>False
abbrev Ms:=Ev->Nat->Kt->Prop
def StX (q:Addr->Prop)(H0 H:Hp):Prop:=∀b o,H0 b=some o->NP o->¬ q b->H b=some o
def StX.of(s:zB H0 H):StX q H0 H:=λb o e n _=>s b o e n
def StX.stay(s:StX (λ_=>False) H0 H):zB H0 H:=λb o e n=>s b o e n λz=>z
structure Frm (A0:Addr->Prop)(H0:Hp)(ca:Addr->Prop)(A:Addr->Prop)(H:Hp):Prop where
 sub:∀a,A0 a->A a
 new:∀a,A a->A0 a\/Fr H0 a\/ca a
 st:StX ca H0 H
 al:Al A0 H0
 cn:∀a,ca a->¬ A0 a
 cs:∀a,ca a->∃o,H a=some o/\NP o
def Frm.back(f:Frm A0 H0 B A H)(h:Fr H a)(n:¬ A a):Fr H0 a:=λo e q=>h o (f.st a o e q λz=>let ⟨o2,e2,n2⟩:=f.cs a z;h o2 e2 n2) q
structure Bs where
 ca:Addr->Prop:=λ_=>False
 A0:Addr->Prop
 H0:Hp
 G0:Hp
 σ0:St
structure At3 (Pn:Option zr)(B:Bs)(S M:List Nat)(A:Addr->Prop)(σ:St)(H:Hp)(ρ:Ev)(n:Nat):Prop where
 env:EnvR A M σ H ρ
 frm:Frm B.A0 B.H0 B.ca A H
 pn:xu Pn A n H
 prot:zB B.G0 (z8 A H)
 fix:∀i∈S,σ[i]?=B.σ0[i]?
 mine:∀i w a,i∈M->ρ[i]?=some (some w)->σ[i]?=some (some (.ref a))->Fr B.H0 a\/B.ca a
structure KOk (Pn:Option zr)(B:Bs)(S M:List Nat)(fr:Bool)(k:Kt)(D:Ends):Prop where
 nx:∀A σ H ρ n,At3 Pn B S M A σ H ρ n->k.nx ρ n->D.nx σ H
 bk:∀A σ H ρ n,At3 Pn B S M A σ H ρ n->k.bk ρ n->D.bk σ H
 ct:∀A σ H ρ n,At3 Pn B S M A σ H ρ n->k.ct ρ n->D.ct σ H
 fc:∀a,¬ B.ca a
 rt:∀w n v H,Val B.A0 H w v->StX B.ca B.H0 H->xu Pn B.A0 n H->(fr=true->FrV B.A0 B.H0 H w v)->k.rt w n->D.rt v H
structure RS (Pn:Option zr)(S M:List Nat)(fr:Bool)(ts:TS)(fs:Ms):Prop where
 run:∀B A σ H ρ n k D,At3 Pn B S M A σ H ρ n->KOk Pn B S M fr k D->fs ρ n k->ts D σ H
structure RG (S M:List Nat)(g:TG)(mg:W->Ev->(Ev->Prop)->Prop):Prop where
 run:∀A σ H ρ v w Q R,EnvR A M σ H ρ->Val A H w v->mg w ρ R->(∀ σ' ρ',R ρ'->EnvR A M σ' H ρ'->(∀i∈S,σ'[i]?=σ[i]?/\ρ'[i]?=ρ[i]?)->Q σ' H)->g v σ H Q
structure RGs (S M:List Nat)(g:TGs)(mg:List Dt->Ev->(Ev->Prop)->Prop):Prop where
 run:∀A σ H ρ vs ds Q R,EnvR A M σ H ρ->IsL (z8 A H) ds vs->mg ds ρ R->(∀ σ' ρ',R ρ'->EnvR A M σ' H ρ'->(∀i∈S,σ'[i]?=σ[i]?/\ρ'[i]?=ρ[i]?)->Q σ' H)->g vs σ H Q
structure ItV (ow:Bool)(A:Addr->Prop)(H:Hp)(J:It)(l:List W):Prop where
 one:∀i w A2 H2,l[i]?=some w->zB (z8 A H) (z8 A2 H2)->(ow=true->zB H H2)->(∀p,H2 p=none->¬ A2 p)->J.go i H2/\∀x H3,J.yld i H2 x H3->xh H2 H3/\Val A2 H3 w x
 stop:∀A2 H2,zB (z8 A H) (z8 A2 H2)->(ow=true->zB H H2)->J.stop l.length H2
structure RI (Pn:Option zr)(M:List Nat)(ow:Bool)(wi:TI)(f:Ev->Mo (List W)):Prop where
 run:∀A σ H ρ n Q R,EnvR A M σ H ρ->xu Pn A n H->f ρ n R->(∀l m J H',R l m->ItV ow A H' J l->Go Pn A H m H'->Q J H')->wi σ H Q
def RE.rb(h:RE Pn M fr te f):RB Pn M te f:=
 ⟨λA σ H ρ n Q R E P q k=>h.run A σ H ρ n Q R E P q λw m v H' r a g _=>k w m v H' r a.bor g⟩
def RA.rab(h:RA Pn M te f):RAB Pn M te f:=
 ⟨λA σ H ρ n Q R E P q k=>h.run A σ H ρ n Q R E P q λw m v H' r a g=>k w m v H' r a.bor g⟩
def xu.same(h:xu Pn A n H)(s:xh H H'):xu Pn A n H':=by
 unfold xu at h ⊢;split at h
 ·trivial
 ·exact⟨h.1.same s,h.2⟩
def Go.same(h:xu Pn A n H)(s:xh H H'):Go Pn A H n H':=⟨zB.same s,h.same s⟩
def Go.refl(h:xu Pn A n H):Go Pn A H n H:=⟨zB.refl _,h⟩
open PySem L2
structure JE (X:Cx)(Pn:Option zr)(M:List Nat)(fr:Bool)(e:Expr)(f:Ev->Mo W):Prop where
 ex:∃te,QE X e te/\RE Pn M fr te f
structure JB (X:Cx)(Pn:Option zr)(M:List Nat)(e:Expr)(f:Ev->Mo W):Prop where
 ex:∃te,QE X e te/\RB Pn M te f
structure JT (X:Cx)(Pn:Option zr)(M:List Nat)(e:Expr)(f:Ev->Mo Bool):Prop where
 ex:∃te,QT X e te/\RT Pn M te f
structure JW (X:Cx)(Pn:Option zr)(M:List Nat)(e:Expr)(f:Ev->Mo Bool):Prop where
 ex:∃te,QW X e te/\RT Pn M te f
structure JA (X:Cx)(Pn:Option zr)(M:List Nat)(es:List Expr)(f:Ev->Mo (List W)):Prop where
 ex:∃te,QA X es te/\RA Pn M te f
structure JAB (X:Cx)(Pn:Option zr)(M:List Nat)(es:List Expr)(f:Ev->Mo (List W)):Prop where
 ex:∃te,QA X es te/\RAB Pn M te f
structure JO (X:Cx)(Pn:Option zr)(M:List Nat)(e:Option Expr)(f:Ev->Mo (Option Int)):Prop where
 ex:∃t,QO X e t/\∀A σ H ρ n Q R,EnvR A M σ H ρ->xu Pn A n H->f ρ n R->(∀o m H',R o m->Go Pn A H m H'->Q o H')->t σ H Q
section
variable {X:Cx}{Pn:Option zr}{M:List Nat}{fr:Bool}{e a b c:Expr}{es:List Expr}{f fa fb fc:Ev->Mo W}{pos p:Pos}
def zrM (i:Nat):Ev->Mo W:=λρ n Q=>∃w,ρ[i]?=some (some w)/\Q w n
abbrev mC (w:W):Ev->Mo W:=λ_ n Q=>Q w n
abbrev zl4 (F:W->W->Mo W) (fa fb:Ev->Mo W):Ev->Mo W:=λρ n Q=>fa ρ n λx q=>fb ρ q λy B=>F x y B Q
abbrev mUn (F:W->Mo W) (fa:Ev->Mo W):Ev->Mo W:=λρ n Q=>fa ρ n λx q=>F x q Q
def zo4 (fa:Ev->Mo W):Ev->Mo Bool:=λρ n Q=>fa ρ n λx q=>∃c,x = .d (.bl c)/\Q c q
def ztS (t u:Ev->Mo Bool):Ev->Mo Bool:=λρ n Q=>t ρ n λc q=>if c=true then u ρ q Q else Q false q
def mOr (t u:Ev->Mo Bool):Ev->Mo Bool:=λρ n Q=>t ρ n λc q=>if c=true then Q true q else u ρ q Q
def zu2 (t:Ev->Mo Bool):Ev->Mo Bool:=λρ n Q=>t ρ n λc q=>Q (!c) q
def zoM (fa fb:Ev->Mo W):Ev->Mo W:=λρ n Q=>fa ρ n λx q=>∃c,x = .d (.bl c)/\if c=true then fb ρ q Q else Q (.d (.bl false)) q
def mIf (t:Ev->Mo Bool)(fa fb:Ev->Mo W):Ev->Mo W:=λρ n Q=>t ρ n λc q=>if c=true then fa ρ q Q else fb ρ q Q
abbrev zrJ:Ev->Mo (List W):=λ_ n Q=>Q [] n
abbrev zfh (fa:Ev->Mo W) (fr:Ev->Mo (List W)):Ev->Mo (List W):=λρ n Q=>fa ρ n λx q=>fr ρ q λxs B=>Q (x::xs) B
abbrev zuS (F:List W->Mo W) (fa:Ev->Mo (List W)):Ev->Mo W:=λρ n Q=>fa ρ n λxs q=>F xs q Q
def JE.bo (h:JE X Pn M fr e f):JB X Pn M e f:=let ⟨te,h1,h2⟩:=h.ex;⟨te,h1,h2.rb⟩
def JA.bo {f:Ev->Mo (List W)}(h:JA X Pn M es f):JAB X Pn M es f:=let ⟨te,h1,h2⟩:=h.ex;⟨te,h1,h2.rab⟩
def zsO(hi:i∉M):RE Pn M false (zmU i) (zrM i):=⟨λA σ H ρ n Q R E P q k=>by obtain⟨w,e,r⟩:=q;obtain⟨v,h1,h2,_⟩:=E.val i w e;exact⟨v,h1,k w n v H r (h2 hi) (Go.refl P) λz=>by cases z⟩⟩
def zsL:RB Pn M (zmU i) (zrM i):=⟨λA σ H ρ n Q R E P q k=>by
 obtain⟨w,e,r⟩:=q;obtain⟨v,h1,h2,B⟩:=E.val i w e;refine⟨v,h1,k w n v H r ?_ (Go.refl P)⟩;by_cases hi:i∈M
 ·obtain⟨a,_,_,h,_⟩:=B hi;exact h
 ·exact (h2 hi).bor⟩
def zuN (i:Nat){x:Str}(hi:i∉M:=by decide)(B:X.N[i]?=some x:=by rfl)(D:Vis X.env.scope x:=by walk_at "v")(F:(x==("__debug__" : Str))=false:=by decide)
  (q:(x==("__classdict__" : Str))=false:=by decide):JE X Pn M false (.Name x pos) (zrM i):=⟨_,qv i B D F q,zsO hi⟩
def zuI(i:Nat)(B:X.N[i]?=some x:=by rfl)(D:Vis X.env.scope x:=by walk_at "v")(F:(x==("__debug__" : Str))=false:=by decide)(q:(x==("__classdict__" : Str))=false:=by decide):JB X Pn M (.Name x pos) (zrM i):=⟨_,qv i B D F q,zsL⟩
def zt1(h:∀G,Is G x v):RE Pn M false (tC v) (mC (.d x)):=⟨λA σ H ρ n Q R E P q k=>k _ n v H q (Val.of (h _)) (Go.refl P) λz=>by cases z⟩
def zm{i:Int}:JE X Pn M false (.Constant (.int i) j pos) (mC (.d (.int i))):=⟨_,yD,zt1 λ_=>rfl⟩
def zeH:JE X Pn M false (.Constant (.bool k) j pos) (mC (.d (.bl k))):=⟨_,zvq,zt1 λ_=>rfl⟩
def zrv:JE X Pn M false (.Constant .none j pos) (mC (.d .non)):=⟨_,zsB,zt1 λ_=>rfl⟩
def zjD:JE X Pn M false (.Constant (.str x) j pos) (mC (.d (.str x))):=⟨_,xV,zt1 λ_=>rfl⟩
def Al.new {A:Addr->Prop}{H:Hp}(h:Al A H){p:Addr}(e:H p=none):¬ A p:=λz=>by
 obtain⟨o,h1,_⟩:=h p z
 grind
def Al.stay(h:Al A H)(s:zB H H'):Al A H':=λa z=>by obtain⟨o,h1,h2,q⟩:=h a z;exact⟨o,s _ _ h1 h2,h2,q⟩
def Al.noT(h:Al A H):∀a xs,A a->H a≠some (.tup xs):=λa xs z e=>by
 obtain⟨o,h1,_,q⟩:=h a z
 grind
def Al.noT' {A:Addr->Prop}{H H':Hp}(h:Al A H)(s:zB H H'){p:Addr}{xs:List V}(e:H' p=some (.tup xs)):¬ A p:=λz=>(h.stay s).noT p xs z e
structure F2 (Pn:Option zr)(fr:Bool)(r:R2)(F:W->W->Mo W):Prop where
 run:∀A H x y wx wy n Q R,Al A H->Bor A H wx x->Bor A H wy y->xu Pn A n H->F wx wy n R->(∀w m v H',R w m->Val A H' w v->Go Pn A H m H'->(fr=true->FrV A H H' w v)->Q v H')->r x y H Q
structure F1 (Pn:Option zr)(fr:Bool)(r:V->Hp->VK->Prop)(F:W->Mo W):Prop where
 run:∀A H x wx n Q R,Al A H->Bor A H wx x->xu Pn A n H->F wx n R->(∀w m v H',R w m->Val A H' w v->Go Pn A H m H'->(fr=true->FrV A H H' w v)->Q v H')->r x H Q
structure FL (Pn:Option zr)(fr:Bool)(r:List V->Hp->VK->Prop)(F:List W->Mo W):Prop where
 run:∀A H xs ws n Q R,Al A H->zqw A H ws xs->xu Pn A n H->F ws n R->(∀w m v H',R w m->Val A H' w v->Go Pn A H m H'->(fr=true->FrV A H H' w v)->Q v H')->r xs H Q
def zmJ(B:F2 Pn fr r F)(D:RB Pn M ta fa)(I:RB Pn M tb fb):RE Pn M fr (tOp r ta tb) (zl4 F fa fb):=⟨λA σ H ρ n Q R E P J k=>by refine D.run A σ H ρ n _ _ E P J λx L O H1 U Y q=>?_;refine I.run A σ H1 ρ L _ _ (E.stay q.st) q.pn U λy Z v2 H2 r2 b2 g2=>?_;have g:=q.trans g2;exact B.run A H2 O v2 x y Z _ _ (E.stay g.st).al (Y.stay g2.st) b2 g2.pn r2 λw m v H' h1 h2 h3 h4=>k w m v H' h1 h2 (g.trans h3) λz=>(h4 z).back g.st⟩
def zvy(B:F1 Pn fr r F)(D:RB Pn M ta fa):RE Pn M fr (tUn r ta) (mUn F fa):=⟨λA σ H ρ n Q R E P I k=>by refine D.run A σ H ρ n _ _ E P I λx J L H1 O U q=>?_;exact B.run A H1 L x J _ _ (E.stay q.st).al U q.pn O λw m v H' h1 h2 Y Z=>k w m v H' h1 h2 (q.trans Y) λz=>(Z z).back q.st⟩
def zsM {r:List V->Hp->VK->Prop}{F:List W->Mo W}{ta:TA}{fa:Ev->Mo (List W)}(B:FL Pn fr r F)(D:RAB Pn M ta fa):RE Pn M fr (tCB r ta) (zuS F fa):=⟨λA σ H ρ n Q R E P I k=>by refine D.run A σ H ρ n _ _ E P I λx J L H1 O U q=>?_;exact B.run A H1 L x J _ _ (E.stay q.st).al U q.pn O λw m v H' h1 h2 Y Z=>k w m v H' h1 h2 (q.trans Y) λz=>(Z z).back q.st⟩
def y9(B:OpQ X (binaryOp q) r)(D:F2 Pn fr r F)(I:JB X Pn M a fa)(J:JB X Pn M b fb):JE X Pn M fr (.BinOp a q b pos) (zl4 F fa fb):=by obtain⟨ta,L,O⟩:=I.ex;obtain⟨tb,U,Y⟩:=J.ex;exact⟨_,xa B L U,zmJ D O Y⟩
def ztQ(B:UnQ X (unaryOp q) r)(D:F1 Pn fr r F)(I:JB X Pn M a fa):JE X Pn M fr (.UnaryOp q a pos) (mUn F fa):=by obtain⟨ta,J,L⟩:=I.ex;exact⟨_,zvr B J,zvy D L⟩
def zrt(B:OpQ X (compareOp q) r)(D:F2 Pn fr r F)(I:JB X Pn M a fa)(J:JB X Pn M b fb)(L:behindInMarks q b=false):JE X Pn M fr (.Compare a [q] [b] pos) (zl4 F fa fb):=by obtain⟨ta,O,U⟩:=I.ex;obtain⟨tb,Y,Z⟩:=J.ex;exact⟨_,zpF B O Y L,zmJ D U Z⟩
def znG(h:RB Pn M ta fa):RT Pn M (zqj ta) (zo4 fa):=⟨λA σ H ρ n Q R E P B k=>by refine h.run A σ H ρ n _ _ E P B  ?_;rintro x D F H1 ⟨c,e,r⟩ I J;subst e;have q:F = .bl c:=I;exact⟨c,q,k c D H1 r J⟩⟩
def zA(B:OpQ X (compareOp q) r)(D:F2 Pn fr r F)(I:JB X Pn M a fa)(J:JB X Pn M b fb)(L:behindInMarks q b=false):JT X Pn M (.Compare a [q] [b] pos) (zo4 (zl4 F fa fb)):=by obtain⟨ta,O,U⟩:=I.ex;obtain⟨tb,Y,Z⟩:=J.ex;exact⟨_,zcy B O Y L,znG (zmJ D U Z).rb⟩
def zdk (h:JB X Pn M e f)(he:∀whole,isTrue e X.env whole=(do let v <- whole;standAt e.pos;holding [v] (truthy v)):=by intro _;rfl):JT X Pn M e (zo4 f):=by obtain⟨ta,qa,ra⟩:=h.ex;exact⟨_,zsI qa he,znG ra⟩
def zhe(h:JT X Pn M a t):JT X Pn M (.UnaryOp .Not a pos) (zu2 t):=by obtain⟨ta,q,B⟩:=h.ex;exact⟨_,zsH q,⟨λA σ H ρ n Q R E P D k=>B.run A σ H ρ n _ _ E P D λb m H' r g=>k _ m H' r g⟩⟩
def uY(B:q = .And\/q = .Or)(h:JT X Pn M a t):JW X Pn M (.BoolOp q [a] pos) t:=by
 obtain⟨ta,D,F⟩:=h.ex;rcases B with rfl | rfl
 ·exact⟨_,zku D,F⟩
 ·exact⟨_,zsJ D,F⟩
def zsY(h:RT Pn M t q)(h':RT Pn M u B):RT Pn M (zvE t u) (ztS q B):=⟨λA σ H ρ n Q R E P D k=>by
 refine h.run A σ H ρ n _ _ E P D λc m H1 r g=>?_
 cases c with
 | true=>exact h'.run A σ H1 ρ m _ _ (E.stay g.st) g.pn (by simpa using r) λb F H' I g'=>k b F H' I (g.trans g')
 | false=>exact k false m H1 (by simpa using r) g⟩
def zvA(h:RT Pn M t q)(h':RT Pn M u B):RT Pn M (tOr t u) (mOr q B):=⟨λA σ H ρ n Q R E P D k=>by
 refine h.run A σ H ρ n _ _ E P D λc m H1 r g=>?_
 cases c with
 | false=>exact h'.run A σ H1 ρ m _ _ (E.stay g.st) g.pn (by simpa using r) λb F H' I g'=>k b F H' I (g.trans g')
 | true=>exact k true m H1 (by simpa using r) g⟩
def zbp {zR:List Expr}{t u:Ev->Mo Bool}(h:JT X Pn M a t)(h':JW X Pn M (.BoolOp .And (b::zR) pos) u):JW X Pn M (.BoolOp .And (a::b::zR) pos) (ztS t u):=by obtain⟨ta,q,B⟩:=h.ex;obtain⟨tb,D,F⟩:=h'.ex;exact⟨_,znA q D,zsY B F⟩
def zlV {zR:List Expr}{t u:Ev->Mo Bool}(h:JT X Pn M a t)(h':JW X Pn M (.BoolOp .Or (b::zR) pos) u):JW X Pn M (.BoolOp .Or (a::b::zR) pos) (mOr t u):=by obtain⟨ta,q,B⟩:=h.ex;obtain⟨tb,D,F⟩:=h'.ex;exact⟨_,zvs q D,zvA B F⟩
def JW.t {t:Ev->Mo Bool}(h:JW X Pn M e t):JT X Pn M e t:=let ⟨te,h1,h2⟩:=h.ex;⟨te,h1.pt,h2⟩
def zuM(h:JE X Pn M false a fa):JE X Pn M false (.BoolOp q [a] pos) fa:=let ⟨te,h1,h2⟩:=h.ex;⟨te,zsD h1,h2⟩
def zuH {zR:List Expr}(h:JB X Pn M a fa)(h':JE X Pn M false (.BoolOp .And (b::zR) pos) fb):JE X Pn M false (.BoolOp .And (a::b::zR) pos) (zoM fa fb):=by
 obtain⟨ta,B,D⟩:=h.ex;obtain⟨tb,F,I⟩:=h'.ex;refine⟨_,zsw B F,⟨λA σ H ρ n Q R E P J k=>?_⟩⟩;refine D.run A σ H ρ n _ _ E P J  ?_;rintro x m v H1 ⟨c,L,r⟩ O g;subst L;have q:v = .bl c:=O;refine⟨c,q,?_⟩
 cases c with
 | true=>
  rw[if_pos rfl] at r ⊢;exact I.run A σ H1 ρ m _ _ (E.stay g.st) g.pn r λw U Y H' Z a' g' _=>k w U Y H' Z a' (g.trans g') λz=>by cases z
 | false=>
  rw[if_neg (by decide)] at r ⊢;exact k _ m _ H1 r (Val.of rfl) g λz=>by cases z
def zoX (fa:Ev->Mo W):Ev->Mo W:=λρ n Q=>fa ρ n λx q=>∃c,x = .d (.bl c)/\Q (.d (.bl (!c))) q
def zuL (h:JB X Pn M a fa):JE X Pn M false (.UnaryOp .Not a pos) (zoX fa):=by obtain⟨ta,B,D⟩:=h.ex;refine⟨_,zsC B,⟨λA σ H ρ n Q R E P F k=>?_⟩⟩;refine D.run A σ H ρ n _ _ E P F  ?_;rintro x m v H1 ⟨c,I,r⟩ J g;subst I;have q:v = .bl c:=J;exact⟨c,q,k _ m _ H1 r (Val.of rfl) g λz=>by cases z⟩
def j_if(J:JT X Pn M c t)(L:JE X Pn M fr a fa)(O:JE X Pn M fr b fb):JE X Pn M fr (.IfExp c a b pos) (mIf t fa fb):=by
 obtain⟨tc,U,Y⟩:=J.ex;obtain⟨ta,Z,ra⟩:=L.ex;obtain⟨tb,qb,rb⟩:=O.ex;refine⟨_,zmA U Z qb,⟨λA σ H ρ n Q R E P hf k=>?_⟩⟩;refine Y.run A σ H ρ n _ _ E P hf λc m H1 r g=>?_
 cases c with
 | true=>
  rw[if_pos rfl] at r ⊢;exact ra.run A σ H1 ρ m _ _ (E.stay g.st) g.pn r λw q B H' D F g' I=>k w q B H' D F (g.trans g') λz=>(I z).back g.st
 | false=>
  rw[if_neg (by decide)] at r ⊢;exact rb.run A σ H1 ρ m _ _ (E.stay g.st) g.pn r λw q B H' D F g' I=>k w q B H' D F (g.trans g') λz=>(I z).back g.st
abbrev isNon:W->Bool
 | .d .non=>true
 | _=>false
def Bor.isNon(h:Bor A H w v):decide (v = .non)=isNon w:=by
 cases w with
 | d x=>
  cases x with
  | non=>have:v = .non:=h;subst this;rfl
  | bl c=>have:v = .bl c:=h;subst this;rfl
  | int c=>have:v = .int c:=h;subst this;rfl
  | str c=>have:v = .str c:=h;subst this;rfl
  | tup l=>obtain⟨a,_,rfl,_⟩:=h;rfl
  | lst l=>obtain⟨a,_,rfl,_⟩:=h;rfl
  | dct=>obtain⟨a,_,rfl,_⟩:=h;rfl
 | pen p=>have:v = .ref p:=h;subst this;rfl
 | dk k=>obtain⟨a,_,rfl,_⟩:=h;rfl
 | dt k=>obtain⟨a,_,rfl,_⟩:=h;rfl
 | ss P w k=>obtain⟨a,_,rfl,_⟩:=h;rfl
 | df k=>obtain⟨a,_,_,rfl,_⟩:=h;rfl
 | kf k=>obtain⟨a,_,_,rfl,_⟩:=h;rfl
abbrev mIsN (fa:Ev->Mo W):Ev->Mo W:=λρ n Q=>fa ρ n λx q=>Q (.d (.bl (isNon x))) q
abbrev mNotN (fa:Ev->Mo W):Ev->Mo W:=λρ n Q=>fa ρ n λx q=>Q (.d (.bl (!isNon x))) q
def zsN(h:RB Pn M ta fa):RE Pn M false (zvH ta) (mIsN fa):=⟨λA σ H ρ n Q R E P q k=>by refine h.run A σ H ρ n _ _ E P q λx m v H1 r B g=>?_;exact k _ m _ H1 r (Val.of (by rw[B.isNon];rfl)) g λz=>by cases z⟩
def zvB(h:RB Pn M ta fa):RT Pn M (tB ta) (zo4 fa):=⟨λA σ H ρ n Q R E P B k=>by refine h.run A σ H ρ n _ _ E P B  ?_;rintro x D F H1 ⟨c,e,r⟩ I J;subst e;have q:F = .bl c:=I;exact⟨c,q,k c D H1 r J⟩⟩
def zrB(h:JB X Pn M a fa):JT X Pn M (.Compare a [.Is] [.Constant .none j pos'] pos) (zo4 (mIsN fa)):=by obtain⟨ta,q,B⟩:=h.ex;exact⟨_,zsG (zsv q),zvB (zsN B).rb⟩
def zd:JA X Pn M [] zrJ:=⟨_,yC,⟨λA σ H ρ n Q R E P q k=>k [] n [] H q rfl (Go.refl P)⟩⟩
def za(B:JE X Pn M fr e f)(D:JA X Pn M es fs)(hs:starEach (e::es) X.env=(false,eval e X.env)::starEach es X.env:=by rfl):JA X Pn M (e::es) (zfh f fs):=by obtain⟨ta,F,I⟩:=B.ex;obtain⟨tb,J,L⟩:=D.ex;refine⟨_,zO F J hs,⟨λA σ H ρ n Q R E P O k=>?_⟩⟩;refine I.run A σ H ρ n _ _ E P O λx U Y H1 Z b1 q _=>?_;exact L.run A σ H1 ρ U _ _ (E.stay q.st) q.pn Z λxs n2 vs H2 r2 b2 g2=>k _ n2 _ H2 r2 ⟨Y,vs,rfl,b1.stay g2.st,b2⟩ (q.trans g2)
def zt:JAB X Pn M [] zrJ:=zd.bo
def zn(B:JB X Pn M e f)(D:JAB X Pn M es fs)(hs:starEach (e::es) X.env=(false,eval e X.env)::starEach es X.env:=by rfl):JAB X Pn M (e::es) (zfh f fs):=by obtain⟨ta,F,I⟩:=B.ex;obtain⟨tb,J,L⟩:=D.ex;refine⟨_,zO F J hs,⟨λA σ H ρ n Q R E P O k=>?_⟩⟩;refine I.run A σ H ρ n _ _ E P O λx U Y H1 Z b1 q=>?_;exact L.run A σ H1 ρ U _ _ (E.stay q.st) q.pn Z λxs n2 vs H2 r2 b2 g2=>k _ n2 _ H2 r2 ⟨Y,vs,rfl,b1.stay g2.st,b2⟩ (q.trans g2)
def lim:Nat:=500000
def zdn(h:n<=lim):n<=sizeLine:=ay h (by decide)
def zdo(h:n<=lim):n<sizeLine:=aP h (by decide)
def dts:List W->Option (List Dt)
 | []=>some []
 | .d x::r=>(dts r).map (x::·)
 | _::_=>none
def zbQ.dts:∀ {q:List W} {vs:List V} {l:List Dt},zbQ A H q vs->dts q=some l->IsL (z8 A H) l vs
 | [],vs,l,h,e=>by cases e;exact h
 | .d x::q,vs,l,⟨v,r,B,h1,h2⟩,e=>by obtain⟨l',D,rfl⟩:=aB.mp e;exact⟨v,r,B,h1.is,zbQ.dts h2 D⟩
 | .pen _::_,_,_,_,e=>by cases e
 | .dk _::_,_,_,_,e=>by cases e
 | .dt _::_,_,_,_,e=>by cases e
 | .ss _ _ _::_,_,_,_,e=>by cases e
 | .df _::_,_,_,_,e=>by cases e
 | .kf _::_,_,_,_,e=>by cases e
def zbQ.len:∀ {q:List W} {vs:List V},zbQ A H q vs->vs.length=q.length
 | [],_,h=>by cases h;rfl
 | _::q,vs,⟨v,r,e,_,h2⟩=>by rw[e,aS,aS,zbQ.len h2]
def zcO {A:Addr->Prop}{H H':Hp}{p:Addr}{xs:List V}{l:List Dt}(q:IsL (z8 A H) l xs)(s:zB H H')(n:¬ A p)(g:H' p=some (.tup xs)):Val A H' (.d (.tup l)) (.ref p):=
 Val.of ⟨p,xs,rfl,zG n g,q.stay (zQ s)⟩
def ue {A:Addr->Prop}{H H':Hp}{p:Addr}{xs:List V}{l:List Dt}(q:IsL (z8 A H) l xs)(s:zB H H')(n:¬ A p)(g:H' p=some (.lst xs)):Val A H' (.d (.lst l)) (.ref p):=
 Val.of ⟨p,xs,rfl,zG n g,q.stay (zQ s)⟩
def uB {A:Addr->Prop}{H H':Hp}{p:Addr}{xs:List V}{l:List Dt}(q:IsL (z8 A H) l xs)(s:xh H H')(n:H p=none)(g:H' p=some (.lst xs)):FrV A H H' (.d (.lst l)) (.ref p):=
 ⟨p,rfl,.of n,p,xs,rfl,g,q.stay (yI (zB.same s) (.of n))⟩
abbrev ztV:Nat->List W->(List Dt->Prop)->Prop
 | _,[],P=>P []
 | k+1,.d x::r,P=>ztV k r λl=>P (x::l)
 | _,_,_=>False
def zeg:∀ {k:Nat} {l:List W} {P:List Dt->Prop},ztV k l P->∃ds,dts l=some ds/\P ds/\l.length<=k
 | 0,[],P,h=>⟨[],rfl,h,aN _⟩
 | k+1,[],P,h=>⟨[],rfl,h,aN _⟩
 | 0,.d x::r,P,h=>h.elim
 | k+1,.d x::r,P,h=>by obtain⟨ds,e,h2,q⟩:=zeg (k:=k) (l:=r) (P:=λl=>P (x::l)) h;exact⟨x::ds,by simp[dts,e],h2,Nat.succ_le_succ q⟩
 | 0,.pen _::r,P,h=>h.elim
 | k+1,.pen _::r,P,h=>h.elim
 | 0,.dk _::r,P,h=>h.elim
 | k+1,.dk _::r,P,h=>h.elim
 | 0,.dt _::r,P,h=>h.elim
 | 0,.ss _ _ _::r,P,h=>h.elim
 | 0,.df _::r,P,h=>h.elim
 | 0,.kf _::r,P,h=>h.elim
 | k+1,.dt _::r,P,h=>h.elim
 | k+1,.ss _ _ _::r,P,h=>h.elim
 | k+1,.df _::r,P,h=>h.elim
 | k+1,.kf _::r,P,h=>h.elim
abbrev zrL (fa:Ev->Mo (List W)):Ev->Mo W:=λρ n Q=>fa ρ n λq m=>ztV 200 q λl=>Q (.d (.tup l)) m
def yr{x1}(h:JA X Pn M es fs):JE X Pn M false (.Tuple es x1 pos) (zrL fs):=by obtain⟨ta,q,B⟩:=h.ex;refine⟨_,zgD q,⟨λA σ H ρ n Q R E P D k=>?_⟩⟩;refine B.run A σ H ρ n _ _ E P D λO m vs H1 F b g=>?_;obtain⟨l,e,r,I⟩:=zeg F;refine⟨zdn (by rw[b.len];exact ay I (by decide)),λp H2 J L S=>?_⟩;exact k _ m _ H2 r (zcO (b.dts e) (zB.same S) ((E.stay g.st).new J) L) (g.trans (Go.same g.pn S)) λz=>by cases z
abbrev zu1 (fa:Ev->Mo (List W)):Ev->Mo W:=λρ n Q=>fa ρ n λq m=>ztV 200 q λl=>Q (.d (.lst l)) m
def xP(h:JA X Pn M es fs):JE X Pn M true (.List es pos) (zu1 fs):=by obtain⟨ta,D,F⟩:=h.ex;refine⟨_,zkp D,⟨λA σ H ρ n Q R E P I k=>?_⟩⟩;refine F.run A σ H ρ n _ _ E P I λO m vs H1 J b g=>?_;obtain⟨l,e,r,L⟩:=zeg J;refine⟨zdn (by rw[b.len];exact ay L (by decide)),λp H2 q B S=>?_⟩;exact k _ m _ H2 r (ue (b.dts e) (zB.same S) ((E.stay g.st).new q) B) (g.trans (Go.same g.pn S)) λ_=>(uB (b.dts e) S q B).back g.st
def yc {id:String}{r:List V->Hp->VK->Prop}{F:List W->Mo W}{x:Str}{fs:Ev->Mo (List W)}(D:CallQ X (.builtin id) r)(I:FL Pn fr r F)(J:Gl X x)(L:X.mg x=none)(O:bootBuiltins x=some (.builtin id))(U:JAB X Pn M (e::es) fs)(Y:x ≠ "__name__" := by decide)(q:(x==("__debug__" : Str))=false:=by decide)
  (Z:starEach (e::es) X.env=(false,eval e X.env)::starEach es X.env:=by rfl) (B:(backTo pos (starEach es X.env)).any (·.1)=false:=by rfl):JE X Pn M fr (.Call (.Name x p) (e::es) [] pos) (zuS F fs):=by
 obtain⟨ta,qa,ra⟩:=U.ex;exact⟨_,xq D J L O qa Y q Z B,zsM I ra⟩
def xp(D:CallQ X (.type T) r)(I:FL Pn fr r F)(J:Gl X x)(L:X.mg x=none)(O:bootBuiltins x=some (.type T))(U:JAB X Pn M (e::es) fs)(Y:x ≠ "__name__" := by decide)(q:(x==("__debug__" : Str))=false:=by decide)(Z:starEach (e::es) X.env=(false,eval e X.env)::starEach es X.env:=by rfl)(B:(backTo pos (starEach es X.env)).any (·.1)=false:=by rfl):JE X Pn M fr (.Call (.Name x p) (e::es) [] pos) (zuS F fs):=by
 obtain⟨ta,qa,ra⟩:=U.ex;exact⟨_,zaW D J L O qa Y q Z B,zsM I ra⟩
end
open PySem L2
section
variable {Pn:Option zr}{K:PySem.W.Frag}{A:Addr->Prop}{H:Hp}
def yx{i:Int}(h:Bor A H (.d (.int i)) v):v = .int i:=h
def ziL(h:Bor A H (.d (.bl i)) v):v = .bl i:=h
def xb(h:Bor A H (.d (.tup l)) v):∃a xs,v = .ref a/\H a=some (.tup xs)/\IsL (z8 A H) l xs:=by obtain⟨a,xs,e,h1,h2⟩:=h;exact⟨a,xs,e,zp _ _ h1,h2⟩
def yR(h:Bor A H (.d (.lst l)) v):∃a xs,v = .ref a/\H a=some (.lst xs)/\IsL (z8 A H) l xs:=h
def ziM(h:Bor A H (.d (.lst l)) v\/Bor A H (.d (.tup l)) v):∃a xs,v = .ref a/\(SqL K H a xs\/SqT K H a xs)/\IsL (z8 A H) l xs:=by
 rcases h with h | h
 ·obtain⟨a,xs,e,h1,h2⟩:=yR h;exact⟨a,xs,e,.inl (.of h1),h2⟩
 ·obtain⟨a,xs,e,h1,h2⟩:=xb h;exact⟨a,xs,e,.inr (.of h1),h2⟩
def fI (C:Int->Int->Prop)(g:Int->Int->Dt):W->W->Mo W:=λx y n Q=>∃i j,x = .d (.int i)/\y = .d (.int j)/\C i j/\Q (.d (g i j)) n
def fI0 (g:Int->Int->Dt):W->W->Mo W:=λx y n Q=>∃i j,x = .d (.int i)/\y = .d (.int j)/\Q (.d (g i j)) n
def ztO {C:Int->Int->Prop}{g:Int->Int->V}{g':Int->Int->Dt}(B:∀i j G,Is G (g' i j) (g i j)):F2 Pn false (rI C g) (fI C g'):=⟨by
 rintro A H x y J L n Q R O D q P ⟨i,j,F,I,c,r⟩ k;subst F I;exact⟨i,j,yx D,yx q,c,k _ n _ H r (Val.of (B _ _ _)) (Go.refl P) λz=>by cases z⟩⟩
def zja {g:Int->Int->V}{g':Int->Int->Dt}(B:∀i j G,Is G (g' i j) (g i j)):F2 Pn false (rI0 g) (fI0 g'):=⟨by
 rintro A H x y J L n Q R O D q P ⟨i,j,F,I,r⟩ k;subst F I;exact⟨i,j,yx D,yx q,k _ n _ H r (Val.of (B _ _ _)) (Go.refl P) λz=>by cases z⟩⟩
abbrev fAdd:=fI0 λi j=>.int (i+j)
abbrev fSub:=fI0 λi j=>.int (i - j)
abbrev fMul:=fI zm3 λi j=>.int (i * j)
abbrev fDiv:=fI zqx λi j=>.int (i / j)
abbrev fMod:=fI (λ_ j=>0<j) λi j=>.int (i % j)
abbrev fPow:=fI zqy λi j=>.int (i ^ j.toNat)
abbrev fLt:=fI0 λi j=>.bl (decide (i<j))
abbrev fLe:=fI0 λi j=>.bl (decide (i<=j))
abbrev fGt:=fI0 λi j=>.bl (decide (j<i))
def zvR:F2 Pn false (rI0 λi j=>.int (i+j)) fAdd:=zja λ_ _ _=>rfl
def zv3:F2 Pn false (rI0 λi j=>.int (i - j)) fSub:=zja λ_ _ _=>rfl
def zv0:F2 Pn false (rI zm3 λi j=>.int (i * j)) fMul:=ztO λ_ _ _=>rfl
def ztw:F2 Pn false (rI zqx λi j=>.int (i / j)) fDiv:=ztO λ_ _ _=>rfl
def zvZ:F2 Pn false (rI (λ_ j=>0<j) λi j=>.int (i % j)) fMod:=ztO λ_ _ _=>rfl
def zv2:F2 Pn false (rI zqy λi j=>.int (i ^ j.toNat)) fPow:=ztO λ_ _ _=>rfl
def v_lt:F2 Pn false (rI0 λi j=>.bl (decide (i<j))) fLt:=zja λ_ _ _=>rfl
def v_le:F2 Pn false (rI0 λi j=>.bl (decide (i<=j))) fLe:=zja λ_ _ _=>rfl
def v_gt:F2 Pn false (rI0 λi j=>.bl (decide (j<i))) fGt:=zja λ_ _ _=>rfl
def zuA:W->Mo W:=λx n Q=>∃i,x = .d (.int i)/\Q (.d (.int (-i))) n
def zv1:F1 Pn false (rU λi=>.int (-i)) zuA:=⟨by
 rintro A H x B n Q R D q P ⟨i,e,r⟩ k;subst e;exact⟨i,yx q,k _ n _ H r (Val.of rfl) (Go.refl P) λz=>by cases z⟩⟩
abbrev sEq:Dt->Dt->Option Bool
 | .int i,.int j=>some (decide (i=j))
 | .bl i,.bl j=>some (decide (i=j))
 | .str i,.str j=>some (decide (i=j))
 | .non,.non=>some true
 | .non,.int _=>some false
 | .int _,.non=>some false
 | .non,.bl _=>some false
 | .bl _,.non=>some false
 | .non,.str _=>some false
 | .str _,.non=>some false
 | .int _,.str _=>some false
 | .str _,.int _=>some false
 | _,_=>none
def plain:Dt->Option V
 | .int i=>some (.int i)
 | .bl i=>some (.bl i)
 | .str i=>some (.str i)
 | .non=>some .non
 | _=>none
def znI(h:sEq a b=some r):∃x y,plain a=some x/\plain b=some y/\zvD x y=true/\decide (x=y)=r:=by cases a <;> cases b <;> cases h <;> refine⟨_,_,rfl,rfl,rfl,?_⟩ <;> first | rfl | exact ba (by lia) | exact decide_eq_decide.mpr (by simp)
def zaA(h:Bor A H (.d a) v)(e:plain a=some x):v=x:=by cases a <;> cases e <;> exact h
def fEq:W->W->Mo W:=λx y n Q=>∃a b r,x = .d a/\y = .d b/\sEq a b=some r/\Q (.d (.bl r)) n
def fNe:W->W->Mo W:=λx y n Q=>∃a b r,x = .d a/\y = .d b/\sEq a b=some r/\Q (.d (.bl (!r))) n
def v_eq:F2 Pn false rEq fEq:=⟨by
 rintro A H x y J L n Q R O B q P ⟨a,b,r,D,F,e,h⟩ k;subst D F;obtain⟨U,Y,I,p2,s,d⟩:=znI e;obtain rfl:=zaA B I;obtain rfl:=zaA q p2;exact⟨s,k _ n _ H h (Val.of (by rw[d];rfl)) (Go.refl P) λz=>by cases z⟩⟩
def v_ne:F2 Pn false rNe fNe:=⟨by
 rintro A H x y J L n Q R O B q P ⟨a,b,r,D,F,e,h⟩ k;subst D F;obtain⟨U,Y,I,p2,s,d⟩:=znI e;obtain rfl:=zaA B I;obtain rfl:=zaA q p2;exact⟨s,k _ n _ H h (Val.of (by rw[d];rfl)) (Go.refl P) λz=>by cases z⟩⟩
def zuu:W->W->Mo W:=λx y n Q=>∃a b,x = .d a/\y = .d b/\a.eqOk/\b.eqOk/\∀r:Bool,(r=true↔a=b)->Q (.d (.bl r)) n
def zvT:F2 Pn false ztX zuu:=⟨by
 rintro A H x y O U n Q R Y B q P ⟨a,b,D,F,I,J,h⟩ k;subst D F;exact⟨a,b,B.is,q.is,I,J,λr L=>k _ n _ H (h r L) (Val.of rfl) (Go.refl P) λz=>by cases z⟩⟩
def zf6:W->W->Mo W:=λx y n Q=>∃a b,x = .d (.bl a)/\y = .d (.bl b)/\Q (.d (.bl (a != b))) n
def zis:F2 Pn false (λx y H Q=>∃a b,x = .bl a/\y = .bl b/\Q (.bl (a != b)) H) zf6:=⟨by
 rintro A H x y I J n Q R L B q P ⟨a,b,D,F,h⟩ k;subst D F;exact⟨a,b,ziL B,ziL q,k _ n _ H h (Val.of rfl) (Go.refl P) λz=>by cases z⟩⟩
def zf7:W->W->Mo W:=λx y n Q=>∃ (b:Int) (ns:List Int),x = .d (.int b)/\(y = .d (.lst (ns.map .int))\/y = .d (.tup (ns.map .int)))/\Q (.d (.bl (!ns.contains b))) n
def zm0:F2 Pn false (rIn K true) zf7:=⟨by
 rintro A H x y J L n Q R O q B P ⟨b,ns,D,U,h⟩ k;subst D
 have F:Bor A H (.d (.lst (ns.map .int))) y\/Bor A H (.d (.tup (ns.map .int))) y:=by grind
 obtain⟨a,xs,e,hs,I⟩:=ziM (K:=K) F;obtain rfl:=I.of_ints;obtain rfl:=yx q;exact⟨a,_,e,hs,rfl,zjf ns,k _ n _ H h (Val.of (by rw[zlJ];rfl)) (Go.refl P) λz=>by cases z⟩⟩
def zuv (q:Bool):W->W->Mo W:=λx y n Q=>∃d ds,x = .d d/\(y = .d (.lst ds)\/y = .d (.tup ds))/\d.eqOk/\(Dt.lst ds).eqOk/\∀b:Bool,(b=true↔d∈ds)->Q (.d (.bl (if q then !b else b))) n
def zvU:F2 Pn false (zvu q) (zuv q):=⟨by
 rintro A H x y U Y n Q R Z D B P ⟨d,ds,F,I,J,L,h⟩ k;subst F;refine⟨d,ds,D.is,?_,J,L,λb O=>k _ n _ H (h b O) (Val.of rfl) (Go.refl P) λz=>by cases z⟩;rcases I with rfl | rfl
 ·exact .inl B.is
 ·exact .inr B.is⟩
def znn{i:Int}(h:IsL G l xs)(e:atI l i=some d):∃v,atI xs i=some v/\Is G d v:=by
 unfold atI at e ⊢;rw[h.length];obtain⟨j,h1,h2⟩:=dw.mp e;obtain⟨v,q,B⟩:=h.getD h2
 simp_all
def zux:W->W->Mo W:=λx y n Q=>∃l i d,x = .d (.tup l)/\y = .d (.int i)/\atI l i=some d/\Q (.d d) n
def zuw:W->W->Mo W:=λx y n Q=>∃l i d,x = .d (.lst l)/\y = .d (.int i)/\atI l i=some d/\Q (.d d) n
def zvW:F2 Pn false (ztZ K) zux:=⟨by
 rintro A H x y O U n Q R Y B q P ⟨l,i,d,D,F,e,h⟩ k;subst D F;obtain⟨a,xs,I,J,L⟩:=xb B;obtain⟨v,h1,h2⟩:=znn L e;exact⟨a,xs,i,v,I,yx q,.of J,h1,k _ n _ H h (Val.of h2) (Go.refl P) λz=>by cases z⟩⟩
def zvV:F2 Pn false (ztY K) zuw:=⟨by
 rintro A H x y O U n Q R Y B q P ⟨l,i,d,D,F,e,h⟩ k;subst D F;obtain⟨a,xs,I,J,L⟩:=yR B;obtain⟨v,h1,h2⟩:=znn L e;exact⟨a,xs,i,v,I,yx q,.of J,h1,k _ n _ H h (Val.of h2) (Go.refl P) λz=>by cases z⟩⟩
def zf5:W->W->Mo W:=λx y n Q=>∃l m,x = .d (.tup l)/\y = .d (.tup m)/\l.length+m.length<=lim/\Q (.d (.tup (l++m))) n
def ztv:F2 Pn false (zkv K) zf5:=⟨by
 rintro A H x y wx wy n Q R F I q P ⟨l,m,J,L,z,h⟩ k;subst J L;obtain⟨a,xs,O,U,B⟩:=xb I;obtain⟨b,ys,Y,Z,D⟩:=xb q;refine⟨a,b,xs,ys,O,Y,U,Z,zdn (by rw[B.length,D.length];exact z),λp H' g S=>?_⟩;exact k _ n _ H' h (zcO (B.append D) (zB.same S) (F.noT' (zB.same S) g) g) (Go.same P S) λz=>by cases z⟩
def zoj:W->W->Mo W:=λx y n Q=>∃l m,x = .d (.lst l)/\y = .d (.lst m)/\l.length+m.length<=lim/\Q (.d (.lst (l++m))) n
def ztu:F2 Pn true zpU zoj:=⟨by
 rintro A H x y wx wy n Q R I J q P ⟨l,m,L,O,z,h⟩ k;subst L O;obtain⟨a,xs,U,Y,B⟩:=yR J;obtain⟨b,ys,Z,hb,D⟩:=yR q;refine⟨a,b,xs,ys,U,Z,Y,hb,zdn (by rw[B.length,D.length];exact z),λp H' F g S=>?_⟩;exact k _ n _ H' h (ue (B.append D) (zB.same S) (I.new F) g) (Go.same P S) λz=>uB (B.append D) S F g⟩
def zgg(h:IsL G l xs):∀k:Nat,IsL G (List.replicate k l).flatten (List.replicate k xs).flatten
 | 0=>rfl
 | k+1=>by rw[cO,cO,dE,dE];exact h.append (zgg h k)
abbrev lenD:W->Option Nat
 | .d (.lst l)=>some l.length
 | .d (.tup l)=>some l.length
 | _=>none
def zuy:List W->Mo W:=λq n Q=>∃x k,q=[x]/\lenD x=some k/\Q (.d (.int (k:Int))) n
def zbH(h:zqw A H [w] vs):∃v,vs=[v]/\Bor A H w v:=by obtain⟨v,r,e,h1,h2⟩:=h;cases h2;exact⟨v,e,h1⟩
def zue(h:zqw A H [w,u] vs):∃v y,vs=[v,y]/\Bor A H w v/\Bor A H u y:=by obtain⟨v,r,e,h1,h2⟩:=h;obtain⟨y,rfl,q⟩:=zbH h2;exact⟨v,y,e,h1,q⟩
def zvX:FL Pn false (λxs H Q=>∃x n,xs=[x]/\zqC K x H n/\Q (.int n) H) zuy:=⟨by
 rintro A H xs J n Q R L b P ⟨x,j,I,q,h⟩ k;subst I;obtain⟨v,rfl,F⟩:=zbH b;refine⟨v,j,rfl,?_,k _ n _ H h (Val.of rfl) (Go.refl P) λz=>by cases z⟩
 cases x with
 | d x=>
  cases x with
  | lst l=>
   cases q;obtain⟨a,ys,rfl,B,D⟩:=yR F;exact .inl ⟨ys,.of B,D.length.symm⟩
  | tup l=>
   cases q;obtain⟨a,ys,rfl,B,D⟩:=xb F;exact .inr ⟨ys,.of B,D.length.symm⟩
  | _=>cases q
 | _=>cases q⟩
def zuz:List W->Mo W:=λq n Q=>∃i j,q=[.d (.int i),.d (.int j)]/\Q (.d (.int (if j > i then j else i))) n
def zvY:FL Pn false (λxs H Q=>∃i j,xs=[.int i,.int j]/\Q (.int (if j > i then j else i)) H) zuz:=⟨by
 rintro A H xs F n Q R I b P ⟨i,j,q,h⟩ k;subst q;obtain⟨v,y,rfl,B,D⟩:=zue b;exact⟨i,j,by rw[yx B,yx D],k _ n _ H h (Val.of rfl) (Go.refl P) λz=>by cases z⟩⟩
def zjt:∀ {q:List Bool} {xs:List V},IsL G (q.map .bl) xs->xs=q.map V.bl
 | [],_,h=>h
 | b::q,xs,h=>by obtain⟨y,r,rfl,h1,h2⟩:=h;cases h1;rw[zjt h2];rfl
def zut:List W->Mo W:=λB n Q=>∃q:List Bool,B=[.d (.lst (q.map .bl))]/\Q (.d (.bl (q.all id))) n
def zvS:FL Pn false (λxs H Q=>∃ (p:Addr) (q:List Bool),xs=[.ref p]/\H p=some (.lst (q.map V.bl))/\Q (.bl (q.all id)) H) zut:=⟨by
 rintro A H xs J n Q R L b P ⟨q,B,h⟩ k;subst B;obtain⟨v,rfl,D⟩:=zbH b;obtain⟨a,ys,rfl,F,I⟩:=yR D;obtain rfl:=zjt I;exact⟨a,q,rfl,F,k _ n _ H h (Val.of rfl) (Go.refl P) λz=>by cases z⟩⟩
def zrd:List W->Mo W:=λq n Q=>∃l,(q=[.d (.lst l)]\/q=[.d (.tup l)])/\Q (.d (.lst l)) n
def ztx:FL Pn true (zkw K) zrd:=⟨by
 rintro A H xs J n Q R D b P ⟨l,F,h⟩ k
 obtain⟨v,rfl,I⟩:∃v,xs=[v]/\(Bor A H (.d (.lst l)) v\/Bor A H (.d (.tup l)) v):=by
  rcases F with rfl | rfl
  ·obtain⟨v,e,h⟩:=zbH b;exact⟨v,e,.inl h⟩
  ·obtain⟨v,e,h⟩:=zbH b;exact⟨v,e,.inr h⟩
 obtain⟨a,ys,rfl,hs,q⟩:=ziM (K:=K) I;exact⟨a,ys,rfl,hs,λp H' B g S=>k _ n _ H' h (ue q (zB.same S) (D.new B) g) (Go.same P S) λz=>uB q S B g⟩⟩
def znj:List W->Mo W:=λq n Q=>∃l,(q=[.d (.lst l)]\/q=[.d (.tup l)])/\Q (.d (.tup l)) n
def zqu:FL Pn false (zgF K) znj:=⟨by
 rintro A H xs L n Q R F b P ⟨l,I,h⟩ k;rcases I with rfl | rfl
 ·obtain⟨v,rfl,B⟩:=zbH b;obtain⟨a,ys,rfl,q,D⟩:=yR B;exact⟨a,ys,rfl,.inl ⟨.of q,λp H' J g S=>k _ n _ H' h (zcO D (zB.same S) (F.new J) g) (Go.same P S) λz=>by cases z⟩⟩
 ·obtain⟨v,rfl,B⟩:=zbH b;obtain⟨a,ys,e,q,D⟩:=id B;subst e;exact⟨a,ys,rfl,.inr ⟨.of (zp _ _ q),k _ n _ H h (Val.of ⟨a,ys,rfl,q,D⟩) (Go.refl P) λz=>by cases z⟩⟩⟩
def xE {α:Type}(xs:List α)(lo hi:Option Int):List α:=(xs.drop (HT.sIx xs.length 0 lo)).take (HT.sIx xs.length xs.length hi - HT.sIx xs.length 0 lo)
def zgf{lo hi:Option Int}(h:IsL G l xs):IsL G (xE l lo hi) (zcW xs lo hi):=by unfold xE zcW;rw[h.length];exact (h.drop _).take _
def yy {κ:Type}[DecidableEq κ](kvs:List (κ×Dt))(k:κ):Option Dt:=(kvs.find? λq=>decide (q.1=k)).map (·.2)
def uK.look {κ:Type}[DecidableEq κ]{G:Hp}{k:κ}:∀ {kvs:List (κ×Dt)} {ks:List (κ×V)},uK G kvs ks->(yy kvs k=none->za6 ks k=none)/\∀d,yy kvs k=some d->∃v,za6 ks k=some v/\Is G d v
 | [],_,h=>by cases h;exact⟨λ_=>rfl,λd e=>by cases e⟩
 | q::r,ks,⟨v,s,e,h1,h2⟩=>by
  subst e;have D:=uK.look (k:=k) h2;by_cases B:q.1=k
  ·refine⟨λz=>?_,λd z=>?_⟩
   ·simp[yy,bH,B] at z
   ·simp[yy,bH,B] at z;subst z;exact⟨v,xt B,h1⟩
  ·have F:yy (q::r) k=yy r k:=by simp[yy,bH,B]
   rw[F,xM B];exact D
end
open PySem L2
section
variable {X:Cx}{Pn:Option zr}{M S:List Nat}{fr:Bool}{e a b c:Expr}{es:List Expr}{f fa fb fc:Ev->Mo W}{pos p:Pos}
def uL(q:IxQ X r)(B:F2 Pn fr r F)(D:JB X Pn M a fa)(I:JB X Pn M b fb)(hs:zfQ b):JE X Pn M fr (.Subscript a b pos) (zl4 F fa fb):=by obtain⟨ta,J,L⟩:=D.ex;obtain⟨tb,O,U⟩:=I.ex;exact⟨_,zsA q J O hs,zmJ B L U⟩
abbrev zoW:Ev->Mo (Option Int):=λ_ n Q=>Q none n
def zoY (fa:Ev->Mo W):Ev->Mo (Option Int):=λρ n Q=>fa ρ n λx m=>∃i,x = .d (.int i)/\Q (some i) m
def zK:JO X Pn M none zoW:=⟨_,zks,λA σ H ρ n Q R E P q k=>k none n H q (Go.refl P)⟩
def zL (h:JB X Pn M e f):JO X Pn M (some e) (zoY f):=by obtain⟨te,q,r⟩:=h.ex;refine⟨_,zkt q,λA σ H ρ n Q R E P B k=>?_⟩;refine r.run A σ H ρ n _ _ E P B  ?_;rintro w m v H' ⟨i,e,r⟩ D g;subst e;exact⟨i,yx D,k (some i) m H' r g⟩
def zu5 (fa:Ev->Mo W)(fl q:Ev->Mo (Option Int)):Ev->Mo W:=λρ n Q=>fa ρ n λx B=>fl ρ B λlo D=>q ρ D λhi F=>∃l,x = .d (.tup l)/\Q (.d (.tup (xE l lo hi))) F
def zu4 (fa:Ev->Mo W)(fl q:Ev->Mo (Option Int)):Ev->Mo W:=λρ n Q=>fa ρ n λx B=>fl ρ B λlo D=>q ρ D λhi F=>∃l,x = .d (.lst l)/\Q (.d (.lst (xE l lo hi))) F
def xI{fl F:Ev->Mo (Option Int)}(J:JB X Pn M e f)(B:JO X Pn M lo fl)(L:JO X Pn M hi F):JE X Pn M false (.Subscript e (.Slice lo hi none p2) pos) (zu5 f fl F):=by obtain⟨te,O,U⟩:=J.ex;obtain⟨tl,Y,Z⟩:=B.ex;obtain⟨th,qh,rh⟩:=L.ex;refine⟨_,zel zqc O Y qh,⟨λA σ H ρ n Q R E P hf k=>?_⟩⟩;refine U.run A σ H ρ n _ _ E P hf λw m v H1 r1 bb q=>?_;refine Z A σ H1 ρ m _ _ (E.stay q.st) q.pn r1 λo m2 H2 r2 g2=>?_;refine rh A σ H2 ρ m2 _ _ ((E.stay q.st).stay g2.st) g2.pn r2  ?_;rintro o3 m3 H3 ⟨l,e,r3⟩ D;subst e;have g:=(q.trans g2).trans D;obtain⟨ad,xs,rfl,ha,B⟩:=xb (bb.stay (g2.trans D).st);exact⟨ad,xs,rfl,ha,λp H' I S=>k _ m3 _ H' r3 (zcO (zgf B) (zB.same S) (Al.noT' (E.stay g.st).al (zB.same S) I) I) (g.trans (Go.same D.pn S)) λz=>by cases z⟩
def zh4{fl I:Ev->Mo (Option Int)}(J:JB X Pn M e f)(q:JO X Pn M lo fl)(L:JO X Pn M hi I):JE X Pn M true (.Subscript e (.Slice lo hi none p2) pos) (zu4 f fl I):=by obtain⟨te,O,U⟩:=J.ex;obtain⟨tl,Y,Z⟩:=q.ex;obtain⟨th,qh,rh⟩:=L.ex;refine⟨_,zel zkQ O Y qh,⟨λA σ H ρ n Q R E P hf k=>?_⟩⟩;refine U.run A σ H ρ n _ _ E P hf λw m v H1 r1 bb B=>?_;refine Z A σ H1 ρ m _ _ (E.stay B.st) B.pn r1 λo m2 H2 r2 g2=>?_;refine rh A σ H2 ρ m2 _ _ ((E.stay B.st).stay g2.st) g2.pn r2  ?_;rintro o3 m3 H3 ⟨l,e,r3⟩ D;subst e;have g:=(B.trans g2).trans D;obtain⟨ad,xs,rfl,ha,q⟩:=yR (bb.stay (g2.trans D).st);refine⟨ad,xs,rfl,.of ha,λp F=>?_⟩;have S:=xh.upd (o:=.lst (zcW xs o o3)) F;exact k _ m3 _ _ r3 (ue (zgf q) (zB.same S) ((E.stay g.st).new F) zk) (g.trans (Go.same D.pn S)) λz=>(uB (zgf q) S F zk).back g.st
def zdZ:∀ {ds:List Dt} {xs:List V},IsL G ds xs->IsL G ds.reverse xs.reverse
 | [],_,h=>by cases h;rfl
 | d::ds,xs,h=>by obtain⟨x,r,rfl,h1,h2⟩:=h;rw[b5,b5];exact (zdZ h2).append (IsL.one h1)
def zo2 (fa:Ev->Mo W):Ev->Mo W:=λρ n Q=>fa ρ n λx m=>∃l,x = .d (.tup l)/\Q (.d (.tup l.reverse)) m
def zo1 (fa:Ev->Mo W):Ev->Mo W:=λρ n Q=>fa ρ n λx m=>∃l,x = .d (.lst l)/\Q (.d (.lst l.reverse)) m
def zrw(q:JB X Pn M e f):JE X Pn M false (.Subscript e (.Slice none none (some (.UnaryOp .USub (.Constant (.int 1) j p4) p3)) p2) pos) (zo2 f):=by obtain⟨te,B,D⟩:=q.ex;refine⟨_,zpK B,⟨λA σ H ρ n Q R E P F k=>?_⟩⟩;refine D.run A σ H ρ n _ _ E P F  ?_;rintro w m v H1 ⟨l,e,r⟩ I g;subst e;obtain⟨J,xs,rfl,L,O⟩:=xb I;exact⟨J,xs,rfl,L,λp H' U Y S=>k _ m _ H' r (zcO (zdZ O) (zB.same S) ((E.stay g.st).new U) Y) (g.trans (Go.same g.pn S)) λz=>by cases z⟩
def zno(F:JB X Pn M e f):JE X Pn M true (.Subscript e (.Slice none none (some (.UnaryOp .USub (.Constant (.int 1) j p4) p3)) p2) pos) (zo1 f):=by obtain⟨te,I,J⟩:=F.ex;refine⟨_,zpJ I,⟨λA σ H ρ n Q R E P L k=>?_⟩⟩;refine J.run A σ H ρ n _ _ E P L  ?_;rintro w m v H1 ⟨l,e,r⟩ O g;subst e;obtain⟨U,xs,rfl,Y,q⟩:=yR O;exact⟨U,xs,rfl,Y,λp H' B D S=>k _ m _ H' r (ue (zdZ q) (zB.same S) ((E.stay g.st).new B) D) (g.trans (Go.same g.pn S)) λz=>(uB (zdZ q) S B D).back g.st⟩
abbrev zuR:W->Option Key
 | .d (.int i)=>some (Sum.inl i)
 | .d (.str x)=>some (Sum.inr x)
 | _=>none
abbrev prD (q:Int×Dt):Dt:=.tup [.int q.1,q.2]
def kvD (q:Int×Dt):Key×Dt:=(Sum.inl q.1,q.2)
def spV (k:Nat)(fr:Bool)(F:Option zr->List W->Mo W):Sp:=λvs H Q _=>∃Pn A q n R,Al A H/\zbQ A H q vs/\q.length=k/\xu Pn A n H/\F Pn q n R/\∀w m v H',R w m->Val A H' w v->Go Pn A H m H'->(fr=true->FrV A H H' w v)->Q v H'
def mFn (k:Nat)(F:List W->Mo W)(fa:Ev->Mo (List W)):Ev->Mo W:=λρ n Q=>fa ρ n λq m=>q.length=k/\F q m Q
def zvx(q:RA Pn M ta fs):RE Pn M fr (zfJ (spV k fr F) [] E0 ta) (mFn k (F Pn) fs):=⟨λA σ H ρ n Q R E P B D=>by refine q.run A σ H ρ n _ _ E P B  ?_;rintro I m vs H1 ⟨J,r⟩ b g;rw[et];exact⟨Pn,A,I,m,R,(E.stay g.st).al,b,J,g.pn,r,λw L v H' h1 h2 O U=>D w L v H' h1 h2 (g.trans O) λz=>(U z).back g.st⟩⟩
def yA(D:Dfn X.K X.mg x st ps J fd)(G:FnOk X.prog X.w X.K X.mg X.base CX0 j J fd ps (spV k fr F))(O:Room L X.A)(U:JA X Pn M (e::es) fs)(q:j<=L:=by decide)(Y:Gl X x:=by rfl)(B:(x==("__debug__" : Str))=false:=by decide)(Z:starEach (e::es) X.env=(false,eval e X.env)::starEach es X.env:=by rfl)(I:(backTo pos (starEach es X.env)).any (·.1)=false:=by rfl) :
  JE X Pn M fr (.Call (.Name x p) (e::es) [] pos) (mFn k (F Pn) fs):=by
 obtain⟨ta,qa,ra⟩:=U.ex;exact⟨_,zmz D G O qa q Y B Z I,zvx ra⟩
abbrev W.flat (fr:Bool):W->Bool
 | .d (.lst l)=>fr&&Dt.noLs l
 | .d x=>x.noL
 | .pen _=>true
 | .dk _=>false
 | .dt _=>false
 | .ss _ _ _=>false
 | .df _=>false
 | .kf _=>false
def xu.less(h:xu Pn A n H)(s:∀a,A' a->A a):xu Pn A' n H:=by
 unfold xu at h ⊢;split at h
 ·trivial
 ·exact⟨h.1,λz=>h.2.1 (s _ z),λz=>h.2.2 (s _ z)⟩
end
open PySem L2
structure JG (X:Cx)(S M:List Nat)(e:Expr)(mg:W->Ev->(Ev->Prop)->Prop):Prop where
 ex:∃g,QG X e g/\RG S M g mg
structure JGs (X:Cx)(S M:List Nat)(es:List Expr)(mg:List Dt->Ev->(Ev->Prop)->Prop):Prop where
 ex:∃g,QGs X es g/\RGs S M g mg
structure JI (X:Cx)(Pn:Option zr)(M:List Nat)(ow:Bool)(tg e:Expr)(f:Ev->Mo (List W)):Prop where
 ex:∃wi,QI X tg e wi/\RI Pn M ow wi f
structure JTs (X:Cx)(Pn:Option zr)(M:List Nat)(es:List Expr)(f:Ev->Mo Bool):Prop where
 ex:∃t,QTs X es t/\RT Pn M t f
section
variable {X:Cx}{Pn:Option zr}{M S:List Nat}{fr:Bool}{e a b c:Expr}{es:List Expr}{f fa fb fc:Ev->Mo W}{pos p:Pos}
def gN (i:Nat):W->Ev->(Ev->Prop)->Prop:=λw ρ Q=>Q (ρ.set i (some w))
def gNl:List Dt->Ev->(Ev->Prop)->Prop:=λds ρ Q=>ds=[]/\Q ρ
def gCn (g:W->Ev->(Ev->Prop)->Prop)(u:List Dt->Ev->(Ev->Prop)->Prop):List Dt->Ev->(Ev->Prop)->Prop:=λds ρ Q=>∃d r,ds=d::r/\g (.d d) ρ λq=>u r q Q
def gTp (n:Nat)(u:List Dt->Ev->(Ev->Prop)->Prop):W->Ev->(Ev->Prop)->Prop:=λw ρ Q=>∃ds,w = .d (.tup ds)/\ds.length=n/\u ds ρ Q
def EnvR.set(E:EnvR A M σ H ρ)(hi:i∉M)(h:Val A H w v):EnvR A M (σ.set i (some v)) H (ρ.set i (some w)) where
 len:=by rw[bc,bc];exact E.len
 val:=λj u e=>by
  by_cases q:j=i
  ·subst q
   have I:j<ρ.length:=by
    have:=(ac.mp e).1
    simp_all
   rw[aM I] at e;cases e;exact⟨v,aM (by rw[E.len];exact I),λ_=>h,λz=>absurd z hi⟩
  ·rw[ar (Ne.symm q)] at e ⊢;exact E.val j u e
 dis:=λj k u Y Z q J B L O U=>by have D:i≠j:=λz=>hi (z ▸ q);have F:i≠k:=λz=>hi (z ▸ J);rw[ar D] at L U;rw[ar F] at O ⊢;exact E.dis j k u Y Z q J B L O U
 al:=E.al
def zes(hi:i∉M)(hs:i∉S):RG S M (uW i) (gN i):=⟨λA σ H ρ v w Q R E h r k=>k _ _ r (E.set hi h) λj q=>⟨ar λ(z:i=j)=>hs (by rw[z];exact q),ar λ(z:i=j)=>hs (by rw[z];exact q)⟩⟩
def zi(q:X.N.Nodup)(B:X.N[i]?=some x:=by rfl)(D:Loc X.env.scope x:=by first | exact Or.inl rfl | exact Or.inr rfl)(hi:i∉M:=by decide)(hs:i∉S:=by decide)(F:X.fn x=true\/X.env.scope.names.lookup x=some .local:=by walk_at "l"):JG X S M (.Name x pos) (gN i):=⟨_,zcx q B D F,zes hi hs⟩
def xn:JGs X S M [] gNl:=⟨_,zpN,⟨by
 rintro A σ H ρ vs ds Q R E h ⟨e,r⟩ k;subst e;exact⟨h,k σ ρ r E λ_ _=>⟨rfl,rfl⟩⟩⟩⟩
def zx(h1:JG X S M e g)(h2:JGs X S M es u)(hs:(assignEach (e::es) X.env).map (·.2)=assign e X.env::(assignEach es X.env).map (·.2):=by rfl):JGs X S M (e::es) (gCn g u):=by obtain⟨t1,L,O⟩:=h1.ex;obtain⟨t2,U,Y⟩:=h2.ex;refine⟨_,zmB L U hs,⟨ ?_⟩⟩;rintro A σ H ρ vs ds Q R E h ⟨d,r,e,Z⟩ k;subst e;obtain⟨v,s,rfl,hv,hr⟩:=h;refine⟨v,s,rfl,?_⟩;refine O.run A σ H ρ v _ _ _ E (Val.of hv) Z λq B hu E' I=>?_;exact Y.run A q H B s _ _ _ E' hr hu λD F hR E2 J=>k D F hR E2 λi hi=>⟨(J i hi).1.trans (I i hi).1,(J i hi).2.trans (I i hi).2⟩
def uo {k n:Nat}{u:List Dt->Ev->(Ev->Prop)->Prop}(K:PySem.W.Frag)(F:X.K=K)(I:X.calm=true)(h:JGs X S M es u)(J:(assignEach es X.env).length=n:=by rfl)(q:(assignEach es X.env).findIdx? (·.1)=none:=by rfl):JG X S M (.Tuple es k pos) (gTp n u):=by obtain⟨t1,L,O⟩:=h.ex;refine⟨_,zpM K F I L J q,⟨ ?_⟩⟩;rintro A σ H ρ v w Q R E h ⟨ds,e,U,Y⟩ Z;subst e;obtain⟨ad,xs,rfl,B,D⟩:=h;exact⟨ad,xs,rfl,.of (zp _ _ B),by rw[D.length];exact U,O.run A σ H ρ xs ds _ _ E D Y Z⟩
def zuX (fa:Ev->Mo W):Ev->Mo (List W):=λρ n Q=>fa ρ n λx m=>∃l,x = .d (.lst l)/\Q (l.map W.d) m
def zuZ (fa:Ev->Mo W):Ev->Mo (List W):=λρ n Q=>fa ρ n λx m=>∃l,x = .d (.tup l)/\Q (l.map W.d) m
def zjB {G G':Hp}{l:List Dt}{xs:List V}{i:Nat}{w:W}(h:IsL G l xs)(e:(l.map W.d)[i]?=some w)(s:zB G G'):∃d x,w = .d d/\xs[i]?=some x/\Is G' d x:=by rw[am] at e;obtain⟨d,h1,rfl⟩:=aB.mp e;obtain⟨x,h2,q⟩:=h.getD h1;exact⟨d,x,rfl,h2,q.stay s⟩
def zlP(h:z8 A H q=some (.lst xs))(B:IsL (z8 A H) l xs):ItV false A H (Itl K q) (l.map W.d) where
 one:=λi w A2 H2 e s _ _=>by obtain⟨d,x,rfl,D,F⟩:=zjB B e s;have g:=zp _ _ (s.lst h);refine⟨⟨xs,x,.of g,D⟩,?_⟩;rintro y H3 ⟨I,J⟩;subst I;have:=J xs (.of g);rw[D] at this;cases this;exact⟨λ_ _ z=>z,Val.of F⟩
 stop:=λA2 H2 s _=>⟨xs,.of (zp _ _ (s.lst h)),by rw[ab,B.length];exact ai _⟩
def zoC(h:z8 A H q=some (.tup xs))(B:IsL (z8 A H) l xs):ItV false A H (Itt K q) (l.map W.d) where
 one:=λi w A2 H2 e s _ _=>by obtain⟨d,x,rfl,D,F⟩:=zjB B e s;have g:=zp _ _ (s.tup h);refine⟨⟨xs,x,.of g,D⟩,?_⟩;rintro y H3 ⟨I,J⟩;subst I;have:=J xs (.of g);rw[D] at this;cases this;exact⟨λ_ _ z=>z,Val.of F⟩
 stop:=λA2 H2 s _=>⟨xs,.of (zp _ _ (s.tup h)),by rw[ab,B.length];exact ai _⟩
def yS(K:PySem.W.Frag)(D:X.K=K)(h:JE X Pn M fr e f):JI X Pn M false tg e (zuX f):=by obtain⟨te,q,r⟩:=h.ex;refine⟨_,zhx K D q,⟨λA σ H ρ n Q R E P F k=>?_⟩⟩;refine r.run A σ H ρ n _ _ E P F  ?_;rintro w m v H1 ⟨l,e,r⟩ I g _;subst e;obtain⟨J,xs,rfl,B,L⟩:=I;exact⟨J,rfl,⟨xs,.of (zp _ _ B)⟩,k _ m _ H1 r (zlP B L) g⟩
def uM(K:PySem.W.Frag)(D:X.K=K)(h:JE X Pn M fr e f):JI X Pn M false tg e (zuZ f):=by obtain⟨te,q,r⟩:=h.ex;refine⟨_,zpP K D q,⟨λA σ H ρ n Q R E P F k=>?_⟩⟩;refine r.run A σ H ρ n _ _ E P F  ?_;rintro w m v H1 ⟨l,e,r⟩ I g _;subst e;obtain⟨J,xs,rfl,B,L⟩:=I;exact⟨J,rfl,⟨xs,.of (zp _ _ B)⟩,k _ m _ H1 r (zoC B L) g⟩
def zii (lo:Int)(n:Nat):List W:=(List.range n).map λi:Nat=>W.d (.int (lo+i))
def zoB{lo:Int}:ItV false A H (Itr lo n) (zii lo n) where
 one:=λi w A2 H2 e s _ _=>by unfold zii at e;rw[am] at e;obtain⟨j,h1,rfl⟩:=aB.mp e;obtain⟨hi,h2⟩:=ac.mp h1;rw[bF] at h2;subst h2;rw[aA] at hi;refine⟨hi,?_⟩;rintro y H3 ⟨q,B⟩;subst q B;exact⟨λ_ _ z=>z,Val.of rfl⟩
 stop:=λA2 H2 s _=>by
  show n<=(zii lo n).length;unfold zii
  simp_all
def zuY (fa:Ev->Mo (List W)):Ev->Mo (List W):=λρ n Q=>fa ρ n λq m=>∃j:Int,q=[.d (.int j)]/\j<=1000000/\-1000000<=j/\Q (zii 0 j.toNat) m
def yL(B:Gl X "range")(D:X.mg "range" = none)(F:JAB X Pn M [a] fs)(hs:starEach [a] X.env=[(false,eval a X.env)]:=by rfl):JI X Pn M false tg (.Call (.Name "range" p) [a] [] pos) (zuY fs):=by obtain⟨te,q,r⟩:=F.ex;refine⟨_,zkq B D q hs,⟨λA σ H ρ n Q R E P I k=>?_⟩⟩;refine r.run A σ H ρ n _ _ E P I  ?_;rintro O m vs H1 ⟨j,e,U,Y,r⟩ J g;subst e;obtain⟨v,rfl,L⟩:=zbH J;obtain rfl:=yx L;exact⟨j,rfl,by lia,by lia,k _ m _ H1 r zoB g⟩
def enW:Nat->List Dt->List W
 | _,[]=>[]
 | k,x::r=>.d (.tup [.int k,x])::enW (k+1) r
def zb9:∀ (l:List Dt) (k i:Nat),(enW k l)[i]?=(l[i]?).map λx=>W.d (.tup [.int ((k+i:Nat):Int),x])
 | [],_,_=>by simp[enW]
 | x::r,k,0=>by simp[enW]
 | x::r,k,i+1=>by have:=zb9 r (k+1) i;simp only[enW,bt,this];rw[show k+1+i=k+(i+1) by lia]
def zf2:∀ (l:List Dt) (k:Nat),(enW k l).length=l.length
 | [],_=>rfl
 | x::r,k=>by rw[enW,aS,aS,zf2 r]
def ziW:List Dt->List Dt->List W
 | x::r,y::s=>.d (.tup [x,y])::ziW r s
 | _,_=>[]
def zla:∀ (l k:List Dt) (i:Nat),l.length=k.length->(ziW l k)[i]?=(l[i]?).bind λx=>(k[i]?).map λy=>W.d (.tup [x,y])
 | [],[],_,_=>by simp[ziW]
 | [],_::_,_,h=>by simp at h
 | _::_,[],_,h=>by simp at h
 | x::r,y::s,0,_=>by simp[ziW]
 | x::r,y::s,i+1,h=>by have:=zla r s i (by simpa using h);simp only[ziW,bt,this]
def zlb:∀ (l k:List Dt),l.length=k.length->(ziW l k).length=l.length
 | [],[],_=>rfl
 | [],_::_,h=>by simp at h
 | _::_,[],h=>by simp at h
 | x::r,y::s,h=>by rw[ziW,aS,aS,zlb r s (by simpa using h)]
def zu0 (fa:Ev->Mo (List W)):Ev->Mo (List W):=λρ n Q=>fa ρ n λq m=>∃l k,q=[.d (.tup l),.d (.tup k)]/\l.length=k.length/\Q (ziW l k) m
def zhb(q:l.length=k.length)(h:∀ {A2:Addr->Prop} {H2:Hp},zB (z8 A H) (z8 A2 H2)->SqV kb K H2 I xs)(L:IsL (z8 A H) l xs)(h':z8 A H J=some (.tup ys))(hk:IsL (z8 A H) k ys):ItV false A H (Izg kb K I J) (ziW l k) where
 one:=λi w A2 H2 e s _ hA=>by rw[zla _ _ _ q] at e;obtain⟨d,h1,e⟩:=dw.mp e;obtain⟨d',B,rfl⟩:=aB.mp e;obtain⟨x,O,hd⟩:=L.getD h1;obtain⟨y,U,D⟩:=hk.getD B;have g:=h s;have g':=zp _ _ (s.tup h');refine⟨⟨xs,ys,x,y,g,.of g',O,U⟩,?_⟩;rintro v H3 ⟨T,z,z',e1,Y,e3,hz,F⟩;subst e1 e3;have Z:=hz xs g;have q2:=F ys (.of g');rw[O] at Z;rw[U] at q2;cases Z;cases q2;have S:=xh.upd (o:=.tup [x,y]) Y;exact⟨S,Val.of ⟨T,_,rfl,zG (hA T Y) zk,_,_,rfl,(hd.stay s).stay (zB.same (ul S)),_,_,rfl,(D.stay s).stay (zB.same (ul S)),rfl⟩⟩
 stop:=λA2 H2 s _=>⟨xs,h s,by rw[zlb _ _ q,L.length];exact ai _⟩
def zrx {elts:List Expr}{x1}{tpos:Pos}{fs:Ev->Mo (List W)}(J:Gl X "zip")(L:X.mg "zip" = none)(O:JA X Pn M [a,b] fs)(hs:starEach [a,b] X.env=[(false,eval a X.env),(false,eval b X.env)]:=by rfl)(I:starEach [b] X.env=[(false,eval b X.env)]:=by rfl):JI X Pn M false (.Tuple elts x1 tpos) (.Call (.Name "zip" p) [a,b] [] pos) (zu0 fs):=by obtain⟨te,q,r⟩:=O.ex;refine⟨_,zkr true J L q hs I,⟨λA σ H ρ n Q R E P U k=>?_⟩⟩;refine r.run A σ H ρ n _ _ E P U  ?_;rintro ws m vs H1 ⟨l,kk,e,B,r⟩ Y g;subst e;obtain⟨v,s,rfl,⟨Z,xs,rfl,D,hl⟩,v2,s2,rfl,⟨bd,ys,rfl,F,hk⟩,hs⟩:=Y;cases hs;exact⟨Z,bd,rfl,⟨xs,.of (zp _ _ D)⟩,⟨ys,.of (zp _ _ F)⟩,k _ m _ H1 r (zhb B (λs=>.of (zp _ _ (s.tup D))) hl F hk) g⟩
def zcR (ρ:Ev)(cix:List (Option Nat)):Ev:=cix.map λo=>match o with
 | none=>none
 | some i=>(ρ[i]?).join
def yX (M:List Nat)(cix:List (Option Nat)):List Nat:=(List.range cix.length).filter λk=>match cix[k]? with
 | some (some i)=>M.contains i
 | _=>false
def zbV:k∈yX M cix↔∃i,cix[k]?=some (some i)/\i∈M:=by
 unfold yX;rw[bv,aW];constructor
 ·rintro⟨h1,h2⟩;rw[ah h1] at h2 ⊢
  cases e:cix[k] with
  | none=>rw[e] at h2;cases h2
  | some i=>rw[e] at h2;exact⟨i,rfl,by simpa using h2⟩
 ·rintro⟨i,h1,h2⟩;exact⟨(ac.mp h1).1,by simp_all⟩
def za9 {α:Type}{l:List (Option α)}{cix:List (Option Nat)}{k:Nat}{x:α}:(cix.map λo=>match o with | none=>none | some i=>(l[i]?).join)[k]?=some (some x)↔∃i,cix[k]?=some (some i)/\l[i]?=some (some x):=by
 rw[am]
 cases e:cix[k]? with
 | none=>simp
 | some o=>
  cases o with
  | none=>simp
  | some i=>
   simp only[Option.map_some,Option.some.injEq];constructor
   ·intro h;refine⟨i,rfl,?_⟩
    cases q:l[i]? with
    | none=>rw[q] at h;cases h
    | some z=>rw[q] at h;cases z with
     | none=>cases h
     | some y=>cases h;rfl
   ·simp_all
def EnvR.cap(E:EnvR A M σ H ρ)(O:(cix.filterMap id).Nodup):EnvR A (yX M cix) (zaB σ cix) H (zcR ρ cix) where
 len:=by unfold zaB zcR;rw[ab,ab]
 val:=λk w e=>by
  obtain⟨i,h1,h2⟩:=za9.mp e;obtain⟨v,U,Y,s3⟩:=E.val i w h2;refine⟨v,za9.mpr ⟨i,h1,U⟩,λz=>Y λy=>z (zbV.mpr ⟨i,h1,y⟩),λz=>?_⟩;obtain⟨j,Z,h4⟩:=zbV.mp z
  simp_all
 dis:=λk k' w u ad hk ag an e1 e2 U Y=>by
  obtain⟨i,h1,h2⟩:=za9.mp e1;obtain⟨i',q,ap⟩:=za9.mp e2;obtain⟨j,Z,h4⟩:=za9.mp U;obtain⟨j',D,as⟩:=za9.mp Y;rw[h1] at Z;cases Z;rw[q] at D;cases D;obtain⟨m,m1,m2⟩:=zbV.mp hk;rw[h1] at m1;cases m1;obtain⟨m',F,av⟩:=zbV.mp ag;rw[q] at F;cases F;refine E.dis _ _ w u ad m2 av (λz=>?_) h2 ap h4 as;subst z
  have key:∀ (l:List (Option Nat)) (a b:Nat) (x:Nat),(l.filterMap id).Nodup->l[a]?=some (some x)->l[b]?=some (some x)->a=b:=by
   intro l
   induction l with
   | nil=>intro a b x _ h;simp at h
   | cons o l ih=>
    intro a b x O I J;have L:∀ (l:List (Option Nat)) (a:Nat),l[a]?=some (some x)->x∈l.filterMap id:=λl a h=>cQ.mpr ⟨some x,aj h,rfl⟩
    cases o with
    | none=>
     have a0:(l.filterMap id).Nodup:=by simpa using O
     cases a with
     | zero=>simp at I
     | succ a=>
      cases b with
      | zero=>simp at J
      | succ b=>rw[ih a b x a0 (by simpa using I) (by simpa using J)]
    | some y=>
     have B:y∉l.filterMap id/\(l.filterMap id).Nodup:=by simp_all
     cases a with
     | zero=>
      have a1:y=x:=by simpa using I
      subst a1
      cases b with
      | zero=>rfl
      | succ b=>exact absurd (L l b (by simpa using J)) B.1
     | succ a=>
      cases b with
      | zero=>
       have a2:y=x:=by simpa using J
       subst a2;exact absurd (L l a (by simpa using I)) B.1
      | succ b=>rw[ih a b x B.2 (by simpa using I) (by simpa using J)]
  exact an (key cix k k' _ O h1 q)
 al:=E.al
def EnvR.more {A:Addr->Prop}{σ:St}{H H':Hp}{ρ:Ev}(E:EnvR A M σ H ρ){p:Addr}{o:HO}(s:zB H H')(n:Fr H p)(g:H' p=some o)(B:NP o)(D:∀xs,o≠.tup xs):EnvR (λb=>A b\/b=p) M σ H' ρ where
 len:=E.len
 val:=λi w e=>by obtain⟨v,h1,h2,q⟩:=E.val i w e;refine⟨v,h1,λz=>WAt.up (yI s n) (yI s n) (h2 z),λz=>?_⟩;obtain⟨a,e,F,I,J⟩:=q z;exact⟨a,e,.inl F,WAt.up s (yI s n) I,J⟩
 dis:=E.dis
 al:=λa h=>by
  rcases h with h | h
  ·obtain⟨o,h1,h2,q⟩:=E.al a h;exact⟨o,s _ _ h1 h2,h2,q⟩
  ·subst h;exact⟨o,g,B,D⟩
def EnvR.upd{A:Addr->Prop}{σ:St}{H:Hp}{ρ:Ev}(E:EnvR A M σ H ρ){p:Addr}(U:A p)(Z:∀i w,i∈M->ρ[i]?=some (some w)->σ[i]?≠some (some (.ref p)))(np:NP o)(nt:∀xs,o≠.tup xs):EnvR A M σ (L2.upd H p o) ρ where
 len:=E.len
 val:=λi w e=>by
  obtain⟨v,h1,h2,h3⟩:=E.val i w e;refine⟨v,h1,λz=>?_,λz=>?_⟩
  ·show WAt _ _ _ _;rw[yq U];exact h2 z
  ·obtain⟨a,D,h4,J,O⟩:=h3 z;have F:a≠p:=λq=>Z i w z e (by rw[h1,D,q]);refine⟨a,D,h4,?_,O⟩;show WAt _ _ _ _;rw[yq U]
   cases w with
   | d x=>
    cases x with
    | lst l=>obtain⟨L,xs,B,I,g2⟩:=J;rw[D] at B;cases B;exact⟨a,xs,D,by rw[zg F];exact I,g2⟩
    | dct=>obtain⟨L,xs,B,I,g2⟩:=J;rw[D] at B;cases B;exact⟨a,xs,D,by rw[zg F];exact I,g2⟩
    | _=>cases O
   | pen p=>cases O
   | dk k=>obtain⟨L,xs,B,I,g2⟩:=J;rw[D] at B;cases B;exact⟨a,xs,D,by rw[zg F];exact I,g2⟩
   | dt k=>obtain⟨L,xs,B,I,g2⟩:=J;rw[D] at B;cases B;exact⟨a,xs,D,by rw[zg F];exact I,g2⟩
   | ss P w k=>obtain⟨L,xs,B,I,g2⟩:=J;rw[D] at B;cases B;exact⟨a,xs,D,by rw[zg F];exact I,g2⟩
   | df k=>obtain⟨L,ob,xs,B,I,g2⟩:=J;rw[D] at B;cases B;exact⟨a,ob,xs,D,by simp_all,g2⟩
   | kf k=>obtain⟨L,ob,xs,B,I,g2⟩:=J;rw[D] at B;cases B;exact⟨a,ob,xs,D,by simp_all,g2⟩
 dis:=E.dis
 al:=λa h=>by
  by_cases Y:a=p
  ·subst Y;exact⟨o,zk,np,nt⟩
  ·rw[zg Y];exact E.al a h
def xu.upd{A:Addr->Prop}{H:Hp}{p:Addr}(h:xu Pn A n H)(B:A p):xu Pn A n (L2.upd H p o):=by
 unfold xu at h ⊢;split at h
 ·trivial
 ·refine⟨?_,h.2⟩;rename_i q c ns;obtain⟨h1,h2,D⟩:=h;have F:c≠p:=λz=>h2 (z ▸ B);have I:q≠p:=λz=>D (z ▸ B);obtain⟨a,l,J,g2,L,O⟩:=h1.ob;exact⟨⟨a,l,by rw[zg I];exact J,g2,L,O⟩,by rw[zg F];exact h1.ls,h1.len⟩
end
open PySem L2
structure JS (X:Cx)(Pn:Option zr)(S M:List Nat)(fr:Bool)(st:Stmt)(fs:Ms):Prop where
 ex:∃ts,QS X st ts/\RS Pn S M fr ts fs
structure JSs (X:Cx)(Pn:Option zr)(S M:List Nat)(fr:Bool)(st:List Stmt)(fs:Ms):Prop where
 ex:∃ts,QSs X st ts/\RS Pn S M fr ts fs
section
variable {X:Cx}{Pn:Option zr}{M S:List Nat}{fr fr':Bool}{e a b c:Expr}{es:List Expr}{f fa fb fc:Ev->Mo W}{pos p:Pos}
def xu.grow(h:xu Pn A n H)(h':xu Pn A n H')(B:Fr H q)(g:H' q=some o)(D:NP o):xu Pn (λb=>A b\/b=q) n H':=by
 unfold xu at h h' ⊢;split at h
 ·trivial
 ·rename_i p c ns;refine⟨h'.1,λz=>z.elim h'.2.1 λz=>?_,λz=>z.elim h'.2.2 λz=>?_⟩
  ·subst z;exact B _ h.1.ls NP.lst
  ·subst z;obtain⟨a,l,e,_⟩:=h'.1.ob;rw[e] at g;cases g;have:=D _ rfl;rw[zmn] at this;cases this
def xu.grow'(h:xu Pn A n H)(h':xu Pn A m H')(B:Fr H q)(g:H' q=some o)(D:NP o):xu Pn (λb=>A b\/b=q) m H':=by
 unfold xu at h h' ⊢;split at h
 ·trivial
 ·rename_i p c ns;refine⟨h'.1,λz=>z.elim h'.2.1 λz=>?_,λz=>z.elim h'.2.2 λz=>?_⟩
  ·subst z;exact B _ h.1.ls NP.lst
  ·subst z;obtain⟨a,l,e,_⟩:=h'.1.ob;rw[e] at g;cases g;have:=D _ rfl;rw[zmn] at this;cases this
def zk3(h:∀C s H ex,JE (zw X scope N C s H ex) Pn M fr e f):∃te,(∀C s H ex,QE (zw X scope N C s H ex) e te)/\RE Pn M fr te f:=
 ⟨λσ H Q=>∀C s H0 ex,(h C s H0 ex).ex.choose σ H Q,λC s H0 ex=>⟨λpins s' σ H Q I z=>(h C s H0 ex).ex.choose_spec.1.run pins s' σ H Q I (z C s H0 ex)⟩,
  ⟨λA σ H ρ n Q R E P q k C s H0 ex=>(h C s H0 ex).ex.choose_spec.2.run A σ H ρ n Q R E P q k⟩⟩
def zk5(h:∀C s H ex,JTs (zw X scope N C s H ex) Pn M es q):∃te,(∀C s H ex,QTs (zw X scope N C s H ex) es te)/\RT Pn M te q:=
 ⟨λσ H Q=>∀C s H0 ex,(h C s H0 ex).ex.choose σ H Q,λC s H0 ex=>⟨λpins s' σ H Q I z=>(h C s H0 ex).ex.choose_spec.1.run pins s' σ H Q I (z C s H0 ex)⟩,
  ⟨λA σ H ρ n Q R E P B k C s H0 ex=>(h C s H0 ex).ex.choose_spec.2.run A σ H ρ n Q R E P B k⟩⟩
def zk4(h:∀C s H ex,JG (zw X scope N C s H ex) S M e mg):∃g,(∀C s H ex,QG (zw X scope N C s H ex) e g)/\RG S M g mg:=
 ⟨λv σ H Q=>∀C s H0 ex,(h C s H0 ex).ex.choose v σ H Q,λC s H0 ex=>⟨λpins s' σ H v u Q I q z=>(h C s H0 ex).ex.choose_spec.1.run pins s' σ H v u Q I q (z C s H0 ex)⟩,
  ⟨λA σ H ρ v w Q R E B D k C s H0 ex=>(h C s H0 ex).ex.choose_spec.2.run A σ H ρ v w Q R E B D k⟩⟩
def zeS (mg:W->Ev->(Ev->Prop)->Prop)(L:Ev->Mo Bool)(O:Ev->Mo W)(F:Ev)(Q:W->Nat->Prop):List W->Nat->Prop:=λl U=>l.length<=lim/\∃I:Nat->Ev->Nat->List Dt->Prop,I 0 F U []/\
 (∀i w q D acc,l[i]?=some w->I i q D acc->mg w q λB=>L B D λb J=>if b=true then O B J λx Y=>∃d,x = .d d/\I (i+1) B Y (acc++[d]) else I (i+1) B J acc)/\
 ∀ q D acc,I l.length q D acc->Q (.d (.lst acc)) D
abbrev zoO (q:Ev->Mo (List W)) (mg:W->Ev->(Ev->Prop)->Prop) (B:Ev->Mo Bool) (D:Ev->Mo W) (cix:List (Option Nat)):Ev->Mo W:=λρ n Q=>q ρ n (zeS mg B D (zcR ρ cix) Q)
def zkA(hn:(cix.filterMap id).Nodup)(hi:RI Pn M ow wi fi)(hg:RG (yX M cix) (yX M cix) g mg)(ht:RT Pn (yX M cix) ti ft)(he:RE Pn (yX M cix) fr' te fe):RE Pn M true (zkT wi g ti te cix) (zoO fi mg ft fe cix):=⟨λA σ H ρ n Q R E P hf k=>by
 refine hi.run A σ H ρ n _ _ E P hf λl m J H1 ⟨hz,I,i0,it,ie⟩ iv g1=>λacc B=>?_;have E1:=E.stay g1.st;have E2:=(E1.cap hn).more (zB.upd (o:=.lst []) B) (Fr.of B) zk NP.lst (by lia);have P2:xu Pn (λb=>A b\/b=acc) m (L2.upd H1 acc (.lst [])):=g1.pn.grow (g1.pn.same (xh.upd B)) (Fr.of B) zk NP.lst
 have a2:∀k w,k∈yX M cix->(zcR ρ cix)[k]?=some (some w)->(zaB σ cix)[k]?≠some (some (.ref acc)):=λk w hk hw z=>by obtain⟨v,s1,_,s3⟩:=(E1.cap hn).val k w hw;obtain⟨a,e,hA,_⟩:=s3 hk;rw[z] at s1;cases s1;cases e;exact E1.new B hA
 have key:∀ F D H',EnvR (λb=>A b\/b=acc) (yX M cix) F H' D->(∀k∈yX M cix,F[k]?=(zaB σ cix)[k]?/\D[k]?=(zcR ρ cix)[k]?)->∀k w,k∈yX M cix->D[k]?=some (some w)->F[k]?≠some (some (.ref acc)):=λF D H' E' ap k w hk hw z=>by simp_all
 refine⟨λi mm F H'=>mm=l.length - i/\i<=l.length/\∃ D Z q xs,EnvR (λb=>A b\/b=acc) (yX M cix) F H' D/\xu Pn (λb=>A b\/b=acc) Z H'/\I i D Z q/\H' acc=some (.lst xs)/\IsL (z8 (λb=>A b\/b=acc) H') q xs/\q.length<=i/\zB (z8 A H1) (z8 (λb=>A b\/b=acc) H')/\zB H1 H'/\(∀k∈yX M cix,F[k]?=(zaB σ cix)[k]?/\D[k]?=(zcR ρ cix)[k]?),
  ⟨l.length,by simp,aN _,_,m,[],[],E2,P2,i0,zk,rfl,ai _,yI (zB.upd B) (Fr.of B),zB.upd B,λk hk=>⟨rfl,rfl⟩⟩,?_⟩
 rintro i mm F H' ⟨rfl,a3,D,Z,q,xs,E',P',hI,ad,O,a4,st,s1,ap⟩;by_cases av:i<l.length
 ·right;have an:l[i]?=some l[i]:=ah av;obtain⟨go,yl⟩:=iv.one i l[i] _ H' an st (λ_=>s1) λp hp=>E'.new hp
  refine⟨go,λas H2=>∃ D Z q xs,EnvR (λb=>A b\/b=acc) (yX M cix) as H2 D/\xu Pn (λb=>A b\/b=acc) Z H2/\I (i+1) D Z q/\H2 acc=some (.lst xs)/\IsL (z8 (λb=>A b\/b=acc) H2) q xs/\q.length<=i+1/\zB (z8 A H1) (z8 (λb=>A b\/b=acc) H2)/\zB H1 H2/\(∀k∈yX M cix,as[k]?=(zaB σ cix)[k]?/\D[k]?=(zcR ρ cix)[k]?),
   λas H2 h=>⟨l.length - (i+1),by lia,rfl,av,h⟩,λx H2 hy=>?_⟩
  obtain⟨S2,V2⟩:=yl x H2 hy;refine hg.run _ F H2 D x l[i] _ _ (E'.stay (zB.same S2)) V2 (it i l[i] D Z q an hI) λag L r3 E3 f3=>?_;have U:∀k∈yX M cix,ag[k]?=(zaB σ cix)[k]?/\L[k]?=(zcR ρ cix)[k]?:=λk hk=>⟨(f3 k hk).1.trans (ap k hk).1,(f3 k hk).2.trans (ap k hk).2⟩;refine ht.run _ ag H2 L Z _ _ E3 (P'.same S2) r3 λb m3 H4 r4 g4=>?_;have Y:=(zB.same S2).trans g4.st
  cases b with
  | false=>
   rw[if_neg (by decide)] at r4 ⊢;exact⟨L,m3,q,xs,E3.stay g4.st,g4.pn,r4,Y.lst ad,O.stay (zQ Y),by lia,st.trans (zQ Y),s1.trans Y,U⟩
  | true=>
   rw[if_pos rfl] at r4 ⊢;refine he.run _ ag H4 L m3 _ _ (E3.stay g4.st) g4.pn r4  ?_;rintro w5 m5 v5 H5 ⟨d,e5,r5⟩ V5 g5 _;subst e5;have al:=Y.trans g5.st;have E5:=(E3.stay g4.st).stay g5.st;have a0:=al.lst ad;refine⟨xs,a0,zdo (by rw[O.length];lia),L,m5,q++[d],xs++[v5],E5.upd (.inr rfl) (key ag L H5 E5 U) NP.lst (by lia),g5.pn.upd (.inr rfl),r5,zk,?_,by simp_all,?_,?_,U⟩
   ·rw[yq (.inr rfl)];exact (O.stay (zQ al)).append (IsL.one V5.is)
   ·rw[yq (.inr rfl)];exact st.trans (zQ al)
   ·exact λb o e nn=>by rw[zg (zc e B)];exact s1.trans al b o e nn
 ·refine Or.inl ?_;have a1:i=l.length:=by lia
  subst a1;refine⟨iv.stop _ H' st (λ_=>s1),k _ Z _ H' (ie D Z q hI) (Val.of ⟨acc,xs,rfl,zG (E1.new B) ad,O.stay (zB.same (xx λb z=>.inl z))⟩) (g1.trans ⟨s1,P'.less λa z=>.inl z⟩) λ_=>⟨acc,rfl,(Fr.of B).back g1.st,acc,xs,rfl,ad,O⟩⟩⟩
abbrev ztU:Ev->Mo Bool:=λ_ n Q=>Q true n
def y1:JTs X Pn M [] ztU:=⟨_,zer,⟨λA σ H ρ n Q R E P q k=>k true n H q (Go.refl P)⟩⟩
def zbd(h:JT X Pn M c q):JTs X Pn M [c] q:=let ⟨t,h1,h2⟩:=h.ex;⟨t,zpT h1,h2⟩
def um(I:X.calm=true)(J:CompOk X scope N cix)(hi:JI X Pn M F tg iter q)(L:∀C s H ex,JG (zw X scope N C s H ex) (yX M cix) (yX M cix) tg mg)(O:∀C s H ex,JTs (zw X scope N C s H ex) Pn (yX M cix) ifs B)(U:∀C s H ex,JE (zw X scope N C s H ex) Pn (yX M cix) fr' elt D)(Y:(cix.filterMap id).Nodup:=by decide)(hs:∀x,foldedSetIterable iter X.env x=pure x:=by intro _;rfl):JE X Pn M true (.ListComp elt [⟨tg,iter,ifs,0⟩] scope pos) (zoO q mg B D cix):=by
 obtain⟨ti,Z,ri⟩:=hi.ex;obtain⟨g,qg,rg⟩:=zk4 L;obtain⟨tt,qt,rt⟩:=zk5 O;obtain⟨te,qe,re⟩:=zk3 U;exact⟨_,zhw I J Z qg qt qe hs,zkA Y ri rg rt re⟩
def zbU{ifs:List Expr}{scope:Scope}{N:List Str}{cix:List (Option Nat)}{J:Ev->Mo (List W)}{mg:W->Ev->(Ev->Prop)->Prop}{L:Ev->Mo Bool}{O:Ev->Mo W}{nx:Str}{px spos:Pos}(q:X.N.Nodup)(B:X.N[ix]?=some nx)(D:X.env.scope.names.lookup nx=some .local)(Y:X.calm=true)(Z:CompOk X scope N cix)(hi:JI X Pn M U tg iter J)(hg:∀C s H ex,JG (zw X scope N C s H ex) (yX M cix) (yX M cix) tg mg)(ht:∀C s H ex,JTs (zw X scope N C s H ex) Pn (yX M cix) ifs L)(he:∀C s H ex,JE (zw X scope N C s H ex) Pn (yX M cix) fr' elt O)(hn:(cix.filterMap id).Nodup:=by decide)(F:swapsWithSole [.Name nx px] (.ListComp elt [⟨tg,iter,ifs,0⟩] scope pos) spos.line X.env=pure true:=by rfl)(hs:∀x,foldedSetIterable iter X.env x=pure x:=by intro _;rfl)(I:(assignEach [.Name nx px] X.env).map (·.2)=[assign (.Name nx px) X.env]:=by rfl):∃te,QS X (.Assign [.Name nx px] (.ListComp elt [⟨tg,iter,ifs,0⟩] scope pos) spos) (zfP te (uW ix))/\RE Pn M true te (zoO J mg L O cix):=by
 obtain⟨ti,qi,ri⟩:=hi.ex;obtain⟨g,qg,rg⟩:=zk4 hg;obtain⟨tt,qt,rt⟩:=zk5 ht;obtain⟨te,qe,re⟩:=zk3 he;exact⟨_,zpS q B D Y Z qi qg qt qe F hs I,zkA hn ri rg rt re⟩
def At3.step(h:At3 Pn B S M A σ H ρ n)(g:Go Pn A H m H'):At3 Pn B S M A σ H' ρ m where
 env:=h.env.stay g.st
 frm:=⟨h.frm.sub,h.frm.new,λb o e n c=>g.st b o (h.frm.st b o e n c) n,h.frm.al,h.frm.cn,λa z=>let ⟨o,e,n⟩:=h.frm.cs a z;⟨o,g.st a o e n,n⟩⟩
 pn:=g.pn
 prot:=h.prot.trans (zQ g.st)
 fix:=h.fix
 mine:=h.mine
abbrev mRet (f:Ev->Mo W):Ms:=λρ n k=>f ρ n k.rt
def zsW(h:RE Pn M fr te f):RS Pn S M fr (zt2 te) (mRet f):=⟨λB A σ H ρ n k D a F I=>by
 refine h.run A σ H ρ n _ _ a.env a.pn I λw m v H' r J g L=>?_;have O:=a.step g
 exact F.rt w m v H' (WAt.up (zB.same (xx a.frm.sub)) (zB.same (xx a.frm.sub)) J) O.frm.st (g.pn.less a.frm.sub) (λz=>by obtain⟨b,e,q,U⟩:=L z;exact FrV.less ⟨b,e,a.frm.back q (a.env.newF q),U⟩ a.frm.sub) r⟩
def zI (h:JE X Pn M fr e f):JS X Pn S M fr (.Return (some e) pos) (mRet f):=let ⟨te,q,r⟩:=h.ex;⟨_,zbx q,zsW r⟩
def zo0 (i:Nat):Ms:=λρ n k=>∃w,ρ[i]?=some (some w)/\k.rt w n
def zp5(hi:i∈M):RS Pn S M fr (zt2 (zmU i)) (zo0 i):=⟨by
 rintro B A σ H ρ n k D a kk ⟨w,e,r⟩;obtain⟨v,s1,_,s3⟩:=a.env.val i w e;obtain⟨F,rfl,hA,L,hm⟩:=s3 hi;have Y:=a.mine i w F hi e s1
 have O:¬ B.A0 F:=λz=>by
  rcases Y with Y | Y
  ·obtain⟨o,o1,o2,_⟩:=a.frm.al F z;exact Y o o1 o2
  ·exact a.frm.cn F Y z
 have q:xh (z8 A H) (z8 B.A0 H):=xx a.frm.sub;have U:xh (z8 A H) (z8 (λb=>B.A0 b\/b=F) H):=xx λb z=>z.elim (a.frm.sub b) λz=>z ▸ hA;refine⟨.ref F,s1,kk.rt w n (.ref F) H ?_ a.frm.st (a.pn.less a.frm.sub) (λz=>⟨F,rfl,Y.resolve_right (kk.fc F),WAt.up (zB.refl _) (zB.same U) L⟩) r⟩
 cases w with
 | d x=>
  cases x with
  | lst l=>obtain⟨Z,xs,I,J,g2⟩:=L;cases I;exact⟨F,xs,rfl,zG O J,g2.stay (zB.same q)⟩
  | dct=>obtain⟨Z,xs,I,J,g2⟩:=L;cases I;exact⟨F,xs,rfl,zG O J,g2⟩
  | _=>cases hm
 | pen p=>cases hm
 | dk kvs=>obtain⟨Z,xs,I,J,g2,g3⟩:=L;cases I;exact⟨F,xs,rfl,zG O J,g2.stay (zB.same q),g3⟩
 | dt kvs=>obtain⟨Z,xs,I,J,g2⟩:=L;cases I;exact⟨F,xs,rfl,zG O J,g2.stay (zB.same q)⟩
 | ss P w kvs=>obtain⟨Z,xs,I,J,g2⟩:=L;cases I;exact⟨F,xs,rfl,zG O J,g2.stay (zB.same q)⟩
 | kf kvs=>obtain⟨Z,ob,xs,I,J,g2⟩:=L;cases I;exact⟨F,ob,xs,rfl,zG O J,g2.stay (zB.same q)⟩
 | df kvs=>obtain⟨Z,ob,xs,I,J,g2⟩:=L;cases I;exact⟨F,ob,xs,rfl,zG O J,g2.stay (zB.same q)⟩⟩
def zcj (i:Nat){x:Str}(hi:i∈M:=by decide)(B:X.N[i]?=some x:=by rfl)(D:Vis X.env.scope x:=by walk_at "v")(F:(x==("__debug__" : Str))=false:=by decide)
  (q:(x==("__classdict__" : Str))=false:=by decide) {pos':Pos}:JS X Pn S M fr (.Return (some (.Name x pos)) pos') (zo0 i):=⟨_,zbx (qv i B D F q),zp5 hi⟩
abbrev zoN (f:Ev->Mo W) (mg:W->Ev->(Ev->Prop)->Prop):Ms:=λρ n k=>f ρ n λw m=>mg w ρ λq=>k.nx q m
def EnvR.mineG(a:At3 Pn B S M A σ H ρ n)(E:EnvR A M q H D)(f:∀i∈S++M,q[i]?=σ[i]?/\D[i]?=ρ[i]?):At3 Pn B S M A q H D n where
 env:=E
 frm:=a.frm
 pn:=a.pn
 prot:=a.prot
 fix:=λi hi=>(f i (aH.mpr (.inl hi))).1.trans (a.fix i hi)
 mine:=λi w F hi e s=>by obtain⟨I,J⟩:=f i (aH.mpr (.inr hi));rw[I] at s;rw[J] at e;exact a.mine i w F hi e s
def zkG(h:RE Pn M fr' te f)(J:RG (S++M) M g mg):RS Pn S M fr (zfP te g) (zoN f mg):=⟨λB A σ H ρ n k D a L O=>by refine h.run A σ H ρ n _ _ a.env a.pn O λw m v H' r U g' _=>?_;have I:=a.step g';exact J.run A σ H' ρ v w _ _ I.env U r λq F Y E2 Z=>L.nx A q H' F m (EnvR.mineG I E2 Z) Y⟩
def zu {i:Nat}{x:Str}{pos':Pos}(F:X.N.Nodup)(I:JE X Pn M fr' e f)(hi:X.N[i]?=some x:=by rfl)(J:Loc X.env.scope x:=by first | exact Or.inl rfl | exact Or.inr rfl)(B:i∉M:=by decide)(D:i∉S++M:=by decide)(hs:swapsWith e (some (.Name x pos')) pos.line X.env=pure false:=by rfl)(L:X.fn x=true\/X.env.scope.names.lookup x=some .local:=by walk_at "l") :
  JS X Pn S M fr (.Assign [.Name x pos'] e pos) (zoN f (gN i)):=let ⟨te,q,r⟩:=I.ex;⟨_,x5 F hi J q hs L,zkG r (zes B D)⟩
def zjG{st:Stmt}(h:∃te,QS X st (zfP te (uW i))/\RE Pn M true te f)(B:i∉M:=by decide)(D:i∉S++M:=by decide):JS X Pn S M fr st (zoN f (gN i)):=let ⟨te,q,r⟩:=h;⟨_,q,zkG r (zes B D)⟩
def znp(B:JE X Pn M fr' e f)(D:JG X (S++M) M tg mg)(hs:swapsWithSole [tg] e pos.line X.env=pure false:=by rfl)(F:swappedStores [tg] e X.env=pure none:=by rfl)(h1:(assignEach [tg] X.env).map (·.2)=[assign tg X.env]:=by rfl):JS X Pn S M fr (.Assign [tg] e pos) (zoN f mg):=let ⟨te,q,r⟩:=B.ex;let ⟨g,q2,r2⟩:=D.ex;⟨_,zny q q2 hs F h1,zkG r r2⟩
def zrK (i:Nat)(f:Ev->Mo W):Ms:=λρ n k=>f ρ n λw m=>w.mut=true/\k.nx (ρ.set i (some w)) m
def zj3(h:WAt T G w v)(hm:w.mut=true):∃a o,v = .ref a/\T a=some o/\NP o/\∀xs,o≠.tup xs:=by
 cases w with
 | d x=>
  cases x with
  | lst l=>obtain⟨a,xs,e,g1,_⟩:=h;exact⟨a,_,e,g1,NP.lst,by grind⟩
  | dct=>obtain⟨a,xs,e,g1,g2⟩:=h;exact⟨a,_,e,g1,λk z=>by cases z;exact g2,by grind⟩
  | _=>cases hm
 | pen p=>cases hm
 | dk kvs=>obtain⟨a,xs,e,g1,_,g3⟩:=h;exact⟨a,_,e,g1,λk z=>by cases z;exact g3,by grind⟩
 | dt kvs=>obtain⟨a,xs,e,g1,_⟩:=h;exact⟨a,_,e,g1,(λk z=>by cases z),λ_ z=>by cases z⟩
 | ss P w kvs=>obtain⟨a,xs,e,g1,_⟩:=h;exact⟨a,_,e,g1,(λk z=>by cases z),λ_ z=>by cases z⟩
 | df kvs=>obtain⟨a,ob,xs,e,g1,_⟩:=h;exact⟨a,_,e,g1,(λk z=>by cases z),λ_ z=>by cases z⟩
 | kf kvs=>obtain⟨a,ob,xs,e,g1,_⟩:=h;exact⟨a,_,e,g1,(λk z=>by cases z),λ_ z=>by cases z⟩
def znF(h:RE Pn M true te f)(hi:i∈M)(hs:i∉S):RS Pn S M fr (zfP te (uW i)) (zrK i f):=⟨λB A σ H ρ n k D a kk hf=>by
 refine h.run A σ H ρ n _ _ a.env a.pn hf  ?_;rintro w m v H' ⟨hm,r⟩ hv g' ag;obtain⟨Y,rfl,O,hb⟩:=ag rfl;obtain⟨a2,o,U,ho,np,nt⟩:=zj3 hb hm;cases U;have E1:=a.env.more g'.st O ho np nt;have Z:¬ A Y:=a.env.newF O;refine kk.nx (λb=>A b\/b=Y) _ H' _ m ⟨⟨?_,?_,?_,E1.al⟩,⟨λb z=>.inl (a.frm.sub b z),λb z=>?_,λb o e n c=>g'.st b o (a.frm.st b o e n c) n,a.frm.al,a.frm.cn,λb z=>let ⟨o,e,n⟩:=a.frm.cs b z;⟨o,g'.st b o e n,n⟩⟩,a.pn.grow' g'.pn O ho np,a.prot.trans (yI g'.st O),λj I=>?_,λj u b I e s=>?_⟩ r
 ·rw[bc,bc];exact a.env.len
 ·intro j u e;by_cases I:j=i
  ·subst I
   have J:j<ρ.length:=by
    have:=(ac.mp e).1
    simp_all
   rw[aM J] at e;cases e;exact⟨.ref Y,aM (by rw[a.env.len];exact J),λz=>absurd hi z,λ_=>⟨Y,rfl,.inr rfl,hb,hm⟩⟩
  ·rw[ar (Ne.symm I)] at e ⊢;exact E1.val j u e
 ·intro j l u u' b I J L e1 U s1 s2
  have an:∀q u,q∈M->q≠i->ρ[q]?=some (some u)->σ[q]?≠some (some (.ref Y)):=λq u hq av eq sq=>by
   obtain⟨v,s,_,s3⟩:=a.env.val q u eq;obtain⟨c,ec,hc,_⟩:=s3 hq
   simp_all
  have ap:∀q (u:W),(ρ.set i (some w))[q]?=some (some u)->q<σ.length:=λq u e=>by have:=(ac.mp e).1;rw[bc] at this;rw[a.env.len];exact this
  by_cases F:j=i
  ·subst F;rw[aM (ap _ _ e1)] at s1;cases s1;rw[ar L] at U s2;exact an l u' J (Ne.symm L) U s2
  ·rw[ar (Ne.symm F)] at e1 s1;by_cases as:l=i
   ·simp_all
   ·rw[ar (Ne.symm as)] at U s2;exact a.env.dis j l u u' b I J L e1 U s1 s2
 ·rcases z with z | z
  ·exact a.frm.new b z
  ·subst z;exact .inr (.inl (a.frm.back O Z))
 ·rw[ar λ(z:i=j)=>hs (by rw[z];exact I)];exact a.fix j I
 ·by_cases F:j=i
  ·subst F
   have J:j<σ.length:=by
    have:=(ac.mp s).1
    simp_all
   rw[aM J] at s;cases s;exact .inl (a.frm.back O Z)
  ·rw[ar (Ne.symm F)] at e s;exact a.mine j u b I e s⟩
def xF {i:Nat}{x:Str}{pos':Pos}(F:X.N.Nodup)(I:JE X Pn M true e f)(hi:X.N[i]?=some x:=by rfl)(J:Loc X.env.scope x:=by first | exact Or.inl rfl | exact Or.inr rfl)(B:i∈M:=by decide)(D:i∉S:=by decide)(hs:swapsWith e (some (.Name x pos')) pos.line X.env=pure false:=by rfl)(L:X.fn x=true\/X.env.scope.names.lookup x=some .local:=by walk_at "l") :
  JS X Pn S M fr (.Assign [.Name x pos'] e pos) (zrK i f):=let ⟨te,q,r⟩:=I.ex;⟨_,x5 F hi J q hs L,znF r B D⟩
def zgj{st:Stmt}(h:∃te,QS X st (zfP te (uW i))/\RE Pn M true te f)(B:i∈M:=by decide)(D:i∉S:=by decide):JS X Pn S M fr st (zrK i f):=let ⟨te,q,r⟩:=h;⟨_,q,znF r B D⟩
end
open PySem PySem.Spec L2
section
variable {X:Cx}{Pn:Option zr}{M S:List Nat}{fr fr':Bool}{e a b c:Expr}{es:List Expr}{f fa fb fc:Ev->Mo W}{pos p:Pos}{st:Stmt}{sts:List Stmt}{fs gs:Ms}
abbrev mNx:Ms:=λρ n k=>k.nx ρ n
structure blk (g:Ms)(ρ:Ev)(n:Nat)(k:Kt):Prop where
 go:g ρ n k
def zqN(h:g ρ n k):blk g ρ n k:=⟨h⟩
def zqM:blk g ρ n k=g ρ n k:=propext ⟨λh=>h.go,λh=>⟨h⟩⟩
abbrev mSeq (f g:Ms):Ms:=λρ n k=>f ρ n { k with nx:=λq B=>blk g q B k }
def zuV (t:Ev->Mo Bool)(f g:Ms):Ms:=λρ n k=>t ρ n λc m=>if c=true then blk f ρ m k else blk g ρ m k
def zE:JSs X Pn S M fr [] mNx:=⟨_,zeq,⟨λB A σ H ρ n k D a q F=>q.nx A σ H ρ n a F⟩⟩
def zsX(h1:RS Pn S M fr t fs)(h2:RS Pn S M fr u gs):RS Pn S M fr (zvI t u) (mSeq fs gs):=⟨λB A σ H ρ n k D a F L=>
 h1.run B A σ H ρ n { k with nx:=λq I=>blk gs q I k } _ a ⟨λA' J H' q I O r=>h2.run B A' J H' q I k D O F r.go,F.bk,F.ct,F.fc,F.rt⟩ L⟩
def zb (h1:JS X Pn S M fr st fs)(h2:JSs X Pn S M fr sts gs):JSs X Pn S M fr (st::sts) (mSeq fs gs):=let ⟨t,q,r⟩:=h1.ex;let ⟨u,q2,r2⟩:=h2.ex;⟨_,ye q q2,zsX r r2⟩
def ze (h1:JS X Pn S M fr st fs):JSs X Pn S M fr [st] fs:=let ⟨t,q,r⟩:=h1.ex;⟨_,uG q,r⟩
def yk(I:JT X Pn M c t)(J:JSs X Pn S M fr body fs)(L:JSs X Pn S M fr q gs):JS X Pn S M fr (.If c body q pos) (zuV t fs gs):=by
 obtain⟨tc,O,U⟩:=I.ex;obtain⟨ta,Y,Z⟩:=J.ex;obtain⟨tb,qb,rb⟩:=L.ex;refine⟨_,zmE O Y qb,⟨λB A σ H ρ n k D a F hf=>?_⟩⟩;refine U.run A σ H ρ n _ _ a.env a.pn hf λc m H1 r g=>?_
 cases c with
 | true=>rw[if_pos rfl] at r ⊢;exact Z.run B A σ H1 ρ m k D (a.step g) F r.go
 | false=>rw[if_neg (by decide)] at r ⊢;exact rb.run B A σ H1 ρ m k D (a.step g) F r.go
abbrev mDrop (f:Ev->Mo W):Ms:=λρ n k=>f ρ n λ_ m=>k.nx ρ m
def At3.wr(h:At3 Pn B S M A σ H ρ n)(hi:i∈M)(e:ρ[i]?=some (some w))(s:σ[i]?=some (some (.ref J)))(hl:IsL (z8 A H) l xs):At3 Pn B S M A σ (L2.upd H J (.lst xs)) (ρ.set i (some (.d (.lst l)))) n:=by
 obtain⟨v,s1,_,s3⟩:=h.env.val i w e;rw[s] at s1;cases s1;obtain⟨Z,F,hA,_,_⟩:=s3 hi;cases F;have ag:i<ρ.length:=(ac.mp e).1
 have hE:EnvR A M σ (L2.upd H J (.lst xs)) (ρ.set i (some (.d (.lst l)))):=by
  refine⟨by rw[bc];exact h.env.len,λj u U=>?_,λj q u u' b Y hq D e1 F=>?_,λb hb=>?_⟩
  ·by_cases Y:j=i
   ·subst Y;rw[aM ag] at U;cases U;exact⟨.ref J,s,λz=>absurd hi z,λ_=>⟨J,rfl,hA,⟨J,xs,rfl,zk,by rw[yq hA];exact hl⟩,rfl⟩⟩
   ·rw[ar (Ne.symm Y)] at U;obtain⟨v,t1,t2,t3⟩:=h.env.val j u U;refine⟨v,t1,λz=>?_,λz=>?_⟩
    ·show WAt _ _ _ _;rw[yq hA];exact t2 z
    ·obtain⟨b,rfl,hb,I,hm⟩:=t3 z;have D:b≠J:=λq=>h.env.dis i j w u J hi z (Ne.symm Y) e U s (by rw[t1,q]);refine⟨b,rfl,hb,?_,hm⟩;show WAt _ _ _ _;rw[yq hA]
     cases u with
     | d x=>
      cases x with
      | lst l=>obtain⟨Z,xs,F,L,g2⟩:=I;cases F;exact⟨b,xs,rfl,by rw[zg D];exact L,g2⟩
      | dct=>obtain⟨Z,xs,F,L,g2⟩:=I;cases F;exact⟨b,xs,rfl,by rw[zg D];exact L,g2⟩
      | _=>cases hm
     | pen p=>cases hm
     | dk k=>obtain⟨Z,xs,F,L,g2⟩:=I;cases F;exact⟨b,xs,rfl,by rw[zg D];exact L,g2⟩
     | dt k=>obtain⟨Z,xs,F,L,g2⟩:=I;cases F;exact⟨b,xs,rfl,by rw[zg D];exact L,g2⟩
     | ss P w k=>obtain⟨Z,xs,F,L,g2⟩:=I;cases F;exact⟨b,xs,rfl,by rw[zg D];exact L,g2⟩
     | df k=>obtain⟨Z,ob,xs,F,L,g2⟩:=I;cases F;exact⟨b,ob,xs,rfl,by simp_all,g2⟩
     | kf k=>obtain⟨Z,ob,xs,F,L,g2⟩:=I;cases F;exact⟨b,ob,xs,rfl,by simp_all,g2⟩
  ·have an:∀q (u:W),(ρ.set i (some (.d (.lst l))))[q]?=some (some u)->∃u',ρ[q]?=some (some u'):=λq u z=>by
    by_cases hq:q=i
    ·subst hq;exact⟨w,e⟩
    ·rw[ar (Ne.symm hq)] at z;exact⟨u,z⟩
   obtain⟨v1,f1⟩:=an j u e1;obtain⟨v2,f2⟩:=an q u' F;exact h.env.dis j q v1 v2 b Y hq D f1 f2
  ·by_cases O:b=J
   ·subst O;exact⟨_,zk,NP.lst,λ_ z=>by cases z⟩
   ·rw[zg O];exact h.env.al b hb
 refine⟨hE,⟨h.frm.sub,h.frm.new,λb o eb nn nc=>?_,h.frm.al,h.frm.cn,λb z=>(by
  by_cases O:b=J
  ·subst O;exact⟨_,zk,NP.lst⟩
  ·rw[zg O];exact h.frm.cs b z)⟩,h.pn.upd hA,by rw[yq hA];exact h.prot,h.fix,λj u b Y U sj=>?_⟩
 ·have D:b≠J:=λq=>by
   subst q;rcases h.mine i w b hi e s with z | z
   ·exact z o eb nn
   ·exact nc z
  rw[zg D];exact h.frm.st b o eb nn nc
 ·by_cases ap:j=i
  ·subst ap;exact h.mine j w b Y e sj
  ·rw[ar (Ne.symm ap)] at U;exact h.mine j u b Y U sj
def ztT (i:Nat)(f:Ev->Mo W):Ms:=λρ n k=>(∃l,ρ[i]?=some (some (.d (.lst l))))/\f ρ n λw m=>∃l d,ρ[i]?=some (some (.d (.lst l)))/\w = .d d/\l.length<lim/\k.nx (ρ.set i (some (.d (.lst (l++[d]))))) m
def zsT(h:RE Pn M fr' te f)(hi:i∈M):RS Pn S M fr (zqh (tBM K "list" zgE (zmU i) (zcN te znO))) (ztT i f):=⟨by
 rintro B A σ H ρ n k D a U ⟨⟨l0,Y⟩,Z⟩;obtain⟨v,q,_,s3⟩:=a.env.val i _ Y;obtain⟨I,rfl,hA,hb,_⟩:=s3 hi;obtain⟨a2,ag,e2,g0,_⟩:=hb;cases e2;refine⟨.ref I,q,.inl ⟨rfl,_,SqL.of g0⟩,?_⟩;refine h.run A σ H ρ n _ _ a.env a.pn Z  ?_;rintro w m v H' ⟨l,d,e,ed,hz,r⟩ hv g _;subst ed;have J:=a.step g;obtain⟨v2,L,_,t3⟩:=J.env.val i _ e;rw[q] at L;cases L;obtain⟨a3,e3,al,F,_⟩:=t3 hi;cases e3;obtain⟨a4,xs,e4,g4,O⟩:=F;cases e4;exact⟨I,xs,v,rfl,rfl,g4,zdo (by rw[O.length];exact cj hz),U.nx A σ _ _ m (J.wr hi e q (O.append (IsL.one hv.is))) r⟩⟩
def zbo (i:Nat){x:Str}{U I sp J:Pos}(Z:JE X Pn M fr' e f)(hi:i∈M:=by decide)(hN:X.N[i]?=some x:=by rfl)(hv:Vis X.env.scope x:=by walk_at "v")(hd:(x==("__debug__" : Str))=false:=by decide)
  (Y:(x==("__classdict__" : Str))=false:=by decide) (L:starEach (e::[]) X.env=(false,eval e X.env)::starEach [] X.env:=by rfl) (hs:swapsWith (.Call (.Attribute (.Name x J) "append" U) [e] [] I) none sp.line X.env=pure false:=by rfl) (D:attributeBase (.Name x J) "append" X.env (eval (.Name x J) X.env)=eval (.Name x J) X.env:=by rfl) (F:(U.endLine==I.line)=true:=by rfl)
  (O:((backTo I (starEach [e] X.env)).all (λx=>!x.1)&&(backToKw I (keywordEach [] X.env)).all (λx=>x.1.isSome)&&decide (([e]:List Expr).length+([]:List Keyword).length+(if ([]:List Keyword).isEmpty then 0 else 1)<30))=true:=by rfl) (B:(backTo I (starEach [] X.env)).any (·.1)=false:=by rfl) :
  JS X Pn S M fr (.Expr (.Call (.Attribute (.Name x J) "append" U) [e] [] I) sp) (ztT i f):=by
 obtain⟨te,q,r⟩:=Z.ex;exact⟨_,zep (zsx (qv i hN hv hd Y) (zO q yC L) D O F L B) hs,zsT r hi⟩
def zrg (mg:W->Ev->(Ev->Prop)->Prop)(fb:Ms)(ρ:Ev)(k:Kt):List W->Nat->Prop:=λl F=>∃I:Nat->Ev->Nat->Prop,I 0 ρ F/\
 (∀i w q B,l[i]?=some w->I i q B->mg w q λD=>fb D B { k with nx:=I (i+1),ct:=I (i+1),bk:=k.nx })/\∀ q B,I l.length q B->k.nx q B
abbrev mFor (q:Ev->Mo (List W)) (mg:W->Ev->(Ev->Prop)->Prop) (fb:Ms):Ms:=λρ n k=>q ρ n (zrg mg fb ρ k)
def zsU {wi:TI}{g:TG}{tb:TS}{fi:Ev->Mo (List W)}{mg:W->Ev->(Ev->Prop)->Prop}{fb:Ms}(hi:RI Pn M false wi fi)(hg:RG (S++M) M g mg)(hb:RS Pn S M fr tb fb):RS Pn S M fr (zvG wi g tb) (mFor fi mg fb):=⟨λB A σ H ρ n k D a kk hf=>by
 refine hi.run A σ H ρ n _ _ a.env a.pn hf  ?_;rintro l m J H1 ⟨I,i0,it,ie⟩ iv g1;have a1:=a.step g1;have ad:∀ {A':Addr->Prop} {L:St} {H':Hp} {F:Ev} {O:Nat},At3 Pn { B with G0:=z8 A H1 } S M A' L H' F O->At3 Pn B S M A' L H' F O:=λ{A' L H' F O} q=>⟨q.env,q.frm,q.pn,a1.prot.trans q.prot,q.fix,q.mine⟩;refine⟨λi mm L H'=>mm=l.length - i/\i<=l.length/\∃A' F O,At3 Pn { B with G0:=z8 A H1 } S M A' L H' F O/\I i F O,⟨l.length,by simp,aN _,A,ρ,m,⟨a1.env,a1.frm,a1.pn,zB.refl _,a1.fix,a1.mine⟩,i0⟩,?_⟩;rintro i mm L H' ⟨rfl,av,A',F,O,a',hI⟩;by_cases ag:i<l.length
 ·right;have Y:l[i]?=some l[i]:=ah ag;obtain⟨go,yl⟩:=iv.one i l[i] A' H' Y a'.prot (λz=>by cases z) λp hp=>a'.env.new hp;refine⟨go,λal H2=>∃A' F O,At3 Pn { B with G0:=z8 A H1 } S M A' al H2 F O/\I (i+1) F O,λal H2 h=>⟨l.length - (i+1),by lia,rfl,ag,h⟩,λx H2 hy=>?_⟩;obtain⟨S2,V2⟩:=yl x H2 hy;have a2:=a'.step (Go.same a'.pn S2);refine hg.run A' L H2 F x l[i] _ _ a2.env V2 (it i l[i] F O Y hI) λan ap r3 E3 f3=>?_;refine hb.run { B with G0:=z8 A H1 } A' an H2 ap O _ _ (EnvR.mineG a2 E3 f3) ⟨?_,?_,?_,kk.fc,?_⟩ r3
  ·exact λA4 Z H4 U n4 a4 r4=>⟨A4,U,n4,a4,r4⟩
  ·exact λA4 Z H4 U n4 a4 r4=>kk.nx A4 Z H4 U n4 (ad a4) r4
  ·exact λA4 Z H4 U n4 a4 r4=>⟨A4,U,n4,a4,r4⟩
  ·exact kk.rt
 ·refine Or.inl ?_;have as:i=l.length:=by lia
  subst as;exact⟨iv.stop A' H' a'.prot (λz=>by cases z),kk.nx A' L H' F O (ad a') (ie F O hI)⟩⟩
def zZ {tg iter:Expr}{body:List Stmt}{q:Ev->Mo (List W)}{mg:W->Ev->(Ev->Prop)->Prop}{fb:Ms}(B:PassesOwn (model X.prog X.w) X.A X.env X.xe)(D:X.calm=true)(hi:JI X Pn M false tg iter q)(F:JG X (S++M) M tg mg)(I:JSs X Pn S M fr body fb)(hs:∀x,foldedSetIterable iter X.env x=pure x:=by intro _;rfl) :
  JS X Pn S M fr (.For tg iter body [] pos) (mFor q mg fb):=by
 obtain⟨ti,J,L⟩:=hi.ex;obtain⟨O,U,Y⟩:=F.ex;obtain⟨tb,Z,rb⟩:=I.ex;exact⟨_,znz B D J U Z hs,zsU L Y rb⟩
def xB (N:List Str)(q:List W):Ev:=q.map some++List.replicate (N.length - q.length) none
def zbQ.get:∀ {q:List W} {vs:List V} {i:Nat} {w:W},zbQ A H q vs->q[i]?=some w->∃v,vs[i]?=some v/\Val A H w v
 | [],_,_,_,_,e=>by simp at e
 | x::q,vs,0,w,⟨v,r,B,h1,_⟩,e=>by simp_all
 | x::q,vs,i+1,w,⟨v,r,B,_,h2⟩,e=>by
  subst B;obtain⟨u,D,F⟩:=zbQ.get (i:=i) h2 (by simpa using e)
  simp_all
def zi9 {A:Addr->Prop}{H:Hp}{N:List Str}{ws:List W}{vs:List V}(al:Al A H)(h:zbQ A H ws vs)(hM:∀i∈M,ws.length<=i):EnvR A M (L2.xj N vs) H (xB N ws) where
 len:=by unfold L2.xj xB;rw[aD,aD,ab,ab,List.length_replicate,List.length_replicate,h.len]
 val:=λi w e=>by
  unfold xB at e
  have hi:i<ws.length:=by
   apply bJ;intro z;rw[bg (by simp_all)] at e;obtain⟨_,q⟩:=ac.mp e
   simp_all
  rw[a8 (by simp_all),am] at e;obtain⟨w',e1,e2⟩:=aB.mp e;cases e2;obtain⟨v,h1,h2⟩:=h.get e1;refine⟨v,?_,λ_=>h2,λz=>absurd (hM i z) (by lia)⟩;unfold L2.xj;have hi':i<vs.length:=by rw[h.len];exact hi
  rw[a8 (by simp_all),am,h1];rfl
 dis:=λi j w u ad hi hj hne e1=>by
  unfold xB at e1;have:=hM i hi;rw[bg (by simp_all)] at e1;obtain⟨_,q⟩:=ac.mp e1
  simp_all
 al:=al
def zrP{P:Program}{w:World}{K:PySem.W.Frag}{mg:Str->Option Value}{base:Heap}{I:Str}{f:Addr}{fd:FuncData}{N ps:List Str}{F:Option zr->List W->Mo W}(M:List Nat)(Y:(∀vs H Q E,spV m fr F vs H Q E->vs.length=ps.length)->(∀ (D:Value) (A:Around) (B:List Env) (s:Shared) (H:Hp) (vs:List V) (Q:VK) (E:XK),Room k (A.deeper (PyProof.Rows.envOfC I (zf st) s.heap.objs.size f D))->spV m fr F vs H Q E->
   ∃t,QSs (zcX CX0 P w K mg base N I (zf st) f D A B s H E).nox (zP st) t/\t { nx:=λ_ H'=>Q .non H',rt:=Q } (L2.xj N vs) H)->FnOk P w K mg base CX0 (k+1) f fd ps (spV m fr F))(hm:m=ps.length)(hM:∀i∈M,m<=i)(J:∀ (D:Value) (A:Around) (B:List Env) (s:Shared) (H:Hp) (E:XK) (Pn:Option zr),Room k (A.deeper (PyProof.Rows.envOfC I (zf st) s.heap.objs.size f D))->
   ∃fs,JSs (zcX CX0 P w K mg base N I (zf st) f D A B s H E).nox Pn [] M fr (zP st) fs/\∀L n R,L.length=m->F Pn L n R->fs (xB N L) n { nx:=λ_ U=>fr=false/\R (.d .non) U,rt:=R }):FnOk P w K mg base CX0 (k+1) f fd ps (spV m fr F):=by
 refine Y (λvs H Q E h=>?_) (λD A B s H vs Q E hr h=>?_)
 ·obtain⟨Pn,A,L,n,R,_,Z,hl,_⟩:=h;rw[Z.len,hl,hm]
 ·obtain⟨Pn,A3,L,n,R,al,Z,hl,hp,hF,q⟩:=h;obtain⟨fs,⟨t,qs,rs⟩,ad⟩:=J D A B s H E Pn hr;refine⟨t,qs,rs.run { A0:=A3,H0:=H,G0:=z8 A3 H,σ0:=L2.xj N vs } A3 (L2.xj N vs) H (xB N L) n _ _ ⟨zi9 al Z (λi hi=>by simp_all),⟨λ_ z=>z,λ_ z=>.inl z,.of (zB.refl _),al,λ_ z=>z.elim,λ_ z=>z.elim⟩,hp,zB.refl _,λi hi=>rfl,λi w a hi e=>?_⟩ ⟨?_,?_,?_,λ_ z=>z,?_⟩ (ad L n R hl hF)⟩
  ·exact absurd e (by unfold xB;have:=hM i hi;rw[bg (by simp_all)];intro z;obtain⟨_,q⟩:=ac.mp z;rw[List.getElem_replicate] at q;cases q)
  ·intro A' an H' ap U a' ⟨O,r⟩;exact q _ U .non H' r (Val.of (show Is _ .non .non from rfl)) ⟨a'.frm.st.stay,a'.pn.less a'.frm.sub⟩ λz=>by rw[O] at z;cases z
  ·simp_all
  ·simp_all
  ·intro w U v H' ag st pn O r;exact q w U v H' r ag ⟨st.stay,pn⟩ O
end
open PySem PySem.Spec L2
section
variable {X:Cx}{Pn:Option zr}{M S:List Nat}{fr fr':Bool}{e a b c:Expr}{es:List Expr}{f fa fb fc:Ev->Mo W}{pos p p2:Pos}
def zoQ (B:Dt->Bool)(f:Ev->Mo W):Ev->Mo W:=λρ n Q=>f ρ n λw m=>∃d,w = .d d/\Q (.d (.bl (B d))) m
def zkB(q:∀d:Dt,PySem.W.kitOne K (.type d.ty) (.type T)=some (B d))(h:RB Pn M te f):RE Pn M false (tCB (λxs H Q=>∃x T t b,xs=[x,.ty T]/\TyOf K H x t/\PySem.W.kitOne K t (.type T)=some b/\Q (.bl b) H) (zcN te (zcN (tC (.ty T)) znO))) (zoQ B f):=⟨λA σ H ρ n Q R E P D k=>by refine h.run A σ H ρ n _ _ E P D  ?_;rintro w m v H' ⟨d,e,r⟩ F g;subst e;exact⟨v,T,_,_,rfl,F.is.ty,q d,k _ m _ H' r (Val.of rfl) g λz=>by cases z⟩⟩
abbrev isStr:Dt->Bool
 | .str _=>true
 | _=>false
abbrev isDct:Dt->Bool
 | .dct=>true
 | _=>false
def zoE(O:∀d:Dt,PySem.W.kitOne X.K (.type d.ty) (.type T)=some (B d))(U:bootBuiltins x=some (.type T))(F:Gl X x)(Y:x ≠ "__name__")(Z:(x==("__debug__" : Str))=false)(hg:Gl X "isinstance")(hm:X.mg "isinstance" = none)(I:X.mg x=none)(h:JB X Pn M e f)(D:starEach (e::[.Name x p2]) X.env=(false,eval e X.env)::starEach [.Name x p2] X.env)(J:starEach (.Name x p2::[]) X.env=(false,eval (.Name x p2) X.env)::starEach [] X.env)(L:(backTo pos (starEach [.Name x p2] X.env)).any (·.1)=false):JE X Pn M false (.Call (.Name "isinstance" p) [e,.Name x p2] [] pos) (zoQ B f):=by
 obtain⟨te,q,r⟩:=h.ex;exact⟨_,xq ziX hg hm PyProof.Rows.boot_isinstance (zO q (zO (zpE (v:=.ty T) F I U rfl Y Z) yC J) D) (by decide) (by decide) D L,zkB O r⟩
def zc1 (J:Gl X "isinstance")(L:X.mg "isinstance" = none)(q:X.mg "tuple" = none)(h:JB X Pn M e f)(B:Gl X "tuple" := by rfl)(D:starEach (e::[.Name "tuple" p2]) X.env=(false,eval e X.env)::starEach [.Name "tuple" p2] X.env:=by rfl)(F:starEach (.Name "tuple" p2::[]) X.env=(false,eval (.Name "tuple" p2) X.env)::starEach [] X.env:=by rfl)(I:(backTo pos (starEach [.Name "tuple" p2] X.env)).any (·.1)=false:=by rfl) :
  JE X Pn M false (.Call (.Name "isinstance" p) [e,.Name "tuple" p2] [] pos) (zoQ Dt.isTup f):=zoE (zoJ _) bu B (by decide) (by decide) J L q h D F I
def ze9 (J:Gl X "isinstance")(L:X.mg "isinstance" = none)(q:X.mg "int" = none)(h:JB X Pn M e f)(B:Gl X "int" := by rfl)(D:starEach (e::[.Name "int" p2]) X.env=(false,eval e X.env)::starEach [.Name "int" p2] X.env:=by rfl)(F:starEach (.Name "int" p2::[]) X.env=(false,eval (.Name "int" p2) X.env)::starEach [] X.env:=by rfl)(I:(backTo pos (starEach [.Name "int" p2] X.env)).any (·.1)=false:=by rfl) :
  JE X Pn M false (.Call (.Name "isinstance" p) [e,.Name "int" p2] [] pos) (zoQ Dt.isInt f):=zoE (zoI _) PyProof.Rows.boot_int B (by decide) (by decide) J L q h D F I
def uE (J:Gl X "isinstance")(L:X.mg "isinstance" = none)(q:X.mg "bool" = none)(h:JB X Pn M e f)(B:Gl X "bool" := by rfl)(D:starEach (e::[.Name "bool" p2]) X.env=(false,eval e X.env)::starEach [.Name "bool" p2] X.env:=by rfl)(F:starEach (.Name "bool" p2::[]) X.env=(false,eval (.Name "bool" p2) X.env)::starEach [] X.env:=by rfl)(I:(backTo pos (starEach [.Name "bool" p2] X.env)).any (·.1)=false:=by rfl) :
  JE X Pn M false (.Call (.Name "isinstance" p) [e,.Name "bool" p2] [] pos) (zoQ Dt.isBl f):=zoE (zrG _) PyProof.Rows.boot_bool B (by decide) (by decide) J L q h D F I
def zeu (n:Nat):List Dt:=(List.range n).map λi:Nat=>Dt.int i
def zjv(n:Nat):IsL G (zeu n) ((List.range n).map λi:Nat=>V.int i):=by
 have q:zeu n=(((List.range n).map λi:Nat=>(i:Int))).map Dt.int:=by unfold zeu;rw[au];rfl
 have B:((List.range n).map λi:Nat=>V.int i)=(((List.range n).map λi:Nat=>(i:Int))).map V.int:=by rw[au];rfl
 rw[q,B];exact IsL.ints
def zd6 (fa:Ev->Mo (List W)):Ev->Mo W:=λρ n Q=>fa ρ n λq m=>∃j:Nat,q=[.d (.int (j:Int))]/\j<=1000/\Q (.d (.lst (zeu j))) m
def uX {q:Pos}{I:Pos}{fs:Ev->Mo (List W)}(Z:X.mg "list" = none)(J:X.mg "range" = none)(ha:JAB X Pn M [a] fs)(hc:X.calm=true:=by rfl)(hg:Gl X "list" := by rfl)(L:Gl X "range" := by rfl)(hs:starEach (a::[]) X.env=(false,eval a X.env)::starEach [] X.env:=by rfl)(D:starEach (.Call (.Name "range" I) [a] [] q::[]) X.env=(false,eval (.Call (.Name "range" I) [a] [] q) X.env)::starEach [] X.env:=by rfl)
  (O:(backTo q (starEach [] X.env)).any (·.1)=false:=by rfl) (U:(backTo pos (starEach [] X.env)).any (·.1)=false:=by rfl):JE X Pn M true (.Call (.Name "list" p) [.Call (.Name "range" I) [a] [] q] [] pos) (zd6 fs):=by
 obtain⟨ta,qa,ra⟩:=ha.ex;refine⟨_,zaW (zfV hc) hg Z dC (zO (zaW zlt L J PyProof.Rows.boot_range qa (by decide) (by decide) hs O) yC D) (by decide) (by decide) D U,⟨λA σ H ρ n Q R E P hf k=>?_⟩⟩;refine ra.run A σ H ρ n _ _ E P hf  ?_;rintro ws m vs H1 ⟨j,e,hj,r⟩ bb g;subst e;obtain⟨v,rfl,b1⟩:=zbH bb;obtain rfl:=yx b1;refine⟨_,rfl,λp1 H2 np g2 S2=>⟨p1,j,rfl,g2,hj,λp3 H3 F Y S3=>?_⟩⟩;have B:=g.trans (Go.same g.pn S2);exact k _ m _ H3 r (ue (H:=H2) (zjv j) (zB.same S3) ((E.stay B.st).new F) Y) (B.trans (Go.same B.pn S3)) λ_=>(uB (H:=H2) (zjv j) S3 F Y).back B.st
abbrev truD:W->Option Bool
 | .d (.lst l)=>some (!l.isEmpty)
 | .d (.tup l)=>some (!l.isEmpty)
 | .d (.bl b)=>some b
 | .d (.int i)=>some (i != 0)
 | .d .non=>some false
 | _=>none
def zu6 (f:Ev->Mo W):Ev->Mo Bool:=λρ n Q=>f ρ n λw m=>∃b,truD w=some b/\Q b m
def zeY(h:IsL G l xs):xs.isEmpty=l.isEmpty:=by have:=h.length;cases l <;> cases xs <;> simp_all
def zlU (h:JB X Pn M e f)(he:∀whole,isTrue e X.env whole=(do let v <- whole;standAt e.pos;holding [v] (truthy v)):=by intro _;rfl):JT X Pn M e (zu6 f):=by
 obtain⟨te,q,r⟩:=h.ex;refine⟨_,zmH q he,⟨λA σ H ρ n Q R E P hf k=>?_⟩⟩;refine r.run A σ H ρ n _ _ E P hf λw m v H1 ⟨b,e,r⟩ bb g=>⟨b,?_,k b m H1 r g⟩
 cases w with
 | d x=>
  cases x with
  | lst l=>cases e;obtain⟨ad,xs,rfl,h1,h2⟩:=yR bb;exact .inl ⟨xs,.of h1,by rw[zeY h2]⟩
  | tup l=>cases e;obtain⟨ad,xs,rfl,h1,h2⟩:=xb bb;exact .inr (.inl ⟨xs,.of h1,by rw[zeY h2]⟩)
  | bl b=>cases e;obtain rfl:=ziL bb;rfl
  | int b=>cases e;obtain rfl:=yx bb;rfl
  | non=>cases e;have:v = .non:=bb;subst this;rfl
  | str _=>cases e
  | dct=>cases e
 | _=>cases e
def At3.own(h:At3 Pn B S M A σ H ρ n)(hi:i∈M)(e:ρ[i]?=some (some (.d (.lst l)))):∃q xs,σ[i]?=some (some (.ref q))/\A q/\H q=some (.lst xs)/\IsL (z8 A H) l xs:=by
 obtain⟨v,I,_,D⟩:=h.env.val i _ e;obtain⟨q,rfl,J,F,_⟩:=D hi;obtain⟨L,xs,O,U,Y⟩:=F
 simp_all
def zjw(q:Is G d v):∀ {ds:List Dt} {xs:List V} (k:Nat),IsL G ds xs->IsL G (ds.set k d) (xs.set k v)
 | [],_,_,h=>by cases h;rfl
 | x::ds,xs,0,⟨y,r,e,h1,h2⟩=>by subst e;exact⟨v,r,rfl,q,h2⟩
 | x::ds,xs,k+1,⟨y,r,e,h1,h2⟩=>by subst e;exact⟨y,_,rfl,h1,zjw q k h2⟩
def zu3 (i:Nat)(fk f:Ev->Mo W):Ms:=λρ n k=>(∃l,ρ[i]?=some (some (.d (.lst l))))/\f ρ n λw m=>fk ρ m λy q=>∃l d j,ρ[i]?=some (some (.d (.lst l)))/\w = .d d/\y = .d (.int j)/\0<=j/\j<l.length/\k.nx (ρ.set i (some (.d (.lst (l.set j.toNat d))))) q
def znq (i:Nat){x:Str}{np sp:Pos}(hk:JB X Pn M c fc)(he:JE X Pn M fr' e f)(hi:i∈M:=by decide)(hN:X.N[i]?=some x:=by rfl)(hv:Vis X.env.scope x:=by walk_at "v")(hd:(x==("__debug__" : Str))=false:=by decide)
  (hcd:(x==("__classdict__" : Str))=false:=by decide) (hs:swapsWithSole [.Subscript (.Name x np) c p] e sp.line X.env=pure false:=by rfl) (hw:swappedStores [.Subscript (.Name x np) c p] e X.env=pure none:=by rfl)
  (h1:(assignEach [.Subscript (.Name x np) c p] X.env).map (·.2)=[assign (.Subscript (.Name x np) c p) X.env]:=by rfl) (ha:∀v,assign (.Subscript (.Name x np) c p) X.env v=(do
   let ov <- holding [v] (eval (.Name x np) X.env)
   let iv <- holding [v,ov] (eval c X.env)
   standAt p
   holding [v,ov,iv] (setItem ov iv v)
   release [v,ov,iv] []):=by intro _;rfl) :
  JS X Pn S M fr (.Assign [.Subscript (.Name x np) c p] e sp) (zu3 i fc f):=by
 obtain⟨te,q,r⟩:=he.ex;obtain⟨tk,qk,rk⟩:=hk.ex;refine⟨_,zny q (zpL (qv i hN hv hd hcd) qk ha) hs hw h1,⟨ ?_⟩⟩;rintro B A σ H ρ n k D a kk ⟨⟨l0,e0⟩,hf⟩;obtain⟨ad,xs0,s0,hA,_⟩:=a.own hi e0;refine r.run A σ H ρ n _ _ a.env a.pn hf λw m v H1 r1 hv1 g1 _=>⟨.ref ad,s0,?_⟩;have a1:=a.step g1;refine rk.run A σ H1 ρ m _ _ a1.env a1.pn r1  ?_;rintro y m2 v2 H2 ⟨l,d,j,e,ed,ey,j0,j1,r2⟩ b2 g2;subst ed ey;have a2:=a1.step g2;obtain⟨ad2,xs,s2,_,g,hl⟩:=a2.own hi e;rw[s0] at s2;cases s2;exact⟨ad,xs,j,rfl,yx b2,g,j0,by rw[hl.length];exact j1,kk.nx A σ _ _ m2 (a2.wr hi e s0 (zjw (hv1.stay g2.st).is _ hl)) r2⟩
end
open PySem PySem.Spec L2
section
variable {A:Addr->Prop}{H:Hp}
def ztz(h:zbQ A H [w] vs):∃v,vs=[v]/\Val A H w v:=by obtain⟨v,r,e,h1,h2⟩:=h;cases h2;exact⟨v,e,h1⟩
def ztA(h:zbQ A H [w,u] vs):∃v y,vs=[v,y]/\Val A H w v/\Val A H u y:=by obtain⟨v,r,e,h1,h2⟩:=h;obtain⟨y,rfl,q⟩:=ztz h2;exact⟨v,y,e,h1,q⟩
def ztB{st:List Int}(h:Val A H (.d (stD st)) v):∃a,v = .ref a/\H a=some (.tup (st.map V.int)):=by obtain⟨a,xs,e,h1,h2⟩:=h;obtain rfl:=h2.of_ints;exact⟨a,e,zp _ _ h1⟩
end
structure RoomOk (rm:List Int):Prop where
 ne:rm≠[]
 few:rm.length<=8
 box:∀r∈rm,2<=r/\r<=4
def RoomOk.pos {rm:List Int}(h:RoomOk rm):1<=rm.length:=by
 cases rm with
 | nil=>exact absurd rfl h.ne
 | cons _ _=>simp
abbrev FV:=Option zr->List W->Mo W
def ztK (k:Nat)(fr:Bool)(F:FV)(sp:Sp):Prop:=∀vs H Q E,spV k fr F vs H Q E->sp vs H Q E
def FnOk.lift(h:FnOk P w K mg base CX j f fd ps sp)(l:ztK k fr F sp):FnOk P w K mg base CX j f fd ps (spV k fr F):=h.imp l
def ziv:FV:=λPn q n R=>∃p c ns yV,Pn=some (p,c,ns)/\q=[.pen p,.d (.int yV)]/\n<=1000000/\1<=yV/\yV<1073741824/\∀r,0<=r->r<yV->R (.d (.int r)) (n+1)
def zjN:ztK 2 false ziv zkO:=by rintro vs H Q E ⟨Pn,A,ws,n,R,al,D,hl,B,⟨p,c,ns,yV,rfl,rfl,h1,h2,F,I⟩,q⟩;obtain⟨v,y,rfl,J,L⟩:=ztA D;have O:v = .ref p:=J;have U:y = .int yV:=L;subst O U;exact⟨p,c,ns,n,yV,rfl,B.1,h1,h2,F,λr H' Y Z P' S'=>q _ (n+1) _ H' (I r Y Z) (Val.of rfl) ⟨S',P',B.2⟩ λz=>by cases z⟩
abbrev ztG:FV:=λPn B n R=>∃p c ns q,Pn=some (p,c,ns)/\B=[.pen p,.d (.int q)]/\n+20<=1000000/\4<=q/\q<=256/\∀rm,RoomOk rm->yu rm<=q->R (.d (stD rm)) (n+10)
abbrev zm4:FV:=λPn q n R=>∃p c ns rm,Pn=some (p,c,ns)/\q=[.pen p,.d (stD rm)]/\n+20<=1000000/\RoomOk rm/\∀st,st.length=rm.length->(∀b:Int,0<=b->b<rm.length->0<=yV st b/\yV st b<yV rm b)->R (.d (stD st)) (n+10)
abbrev zeG (g:List (Int×Int)):Dt:=.tup (g.map zan)
abbrev zqB:FV:=λPn D n R=>∃p c ns rm B,Pn=some (p,c,ns)/\D=[.pen p,.d (stD rm),.d (.int B)]/\n+40<=1000000/\RoomOk rm/\∀g,Giv rm g->(∀q∈g,q.1≠B)->g.length<=8->R (.d (zeG g)) (n+30)
abbrev zt7:FV:=λ_ q n R=>∃d,q=[.d d]/\R (.d (.bl d.isWhole)) n
abbrev zt6:FV:=λ_ q n R=>∃a b,q=[.d (.bl a),.d (.bl b)]/\R (.d (.bl (a==b))) n
abbrev F_prod:FV:=λ_ q n R=>∃ns:List Int,q=[.d (stD ns)]/\(∀n∈ns,2<=n/\n<=4)/\R (.d (.int (yu ns))) n
abbrev zt5:FV:=λ_ B n R=>∃st g,B=[.d (stD st),.d (zeG g)]/\(∀q∈g,0<=q.1/\q.1<st.length)/\R (.d (.bl (uZ st g))) n
abbrev xL (sts:List (List Int)):Dt:=.lst (sts.map stD)
def zqe{sts:List (List Int)}(D:Al A H)(s:xh H H')(n:H a=none)(h:H' a=some (.lst ys))(F:IsL H' (sts.map stD) ys):Val A H' (.d (xL sts)) (.ref a)/\FrV A H H' (.d (xL sts)) (.ref a):=by
 have q:=D.stay (zB.same s);have B:=zaw q.noT (uF sts) F;refine⟨Val.of ⟨a,ys,rfl,zG (D.new n) h,B⟩,a,rfl,.of n,a,ys,rfl,h,zaw (λb xs z e=>?_) (uF sts) F⟩;rcases z with z | z
 ·exact q.noT b xs z e
 ·grind
abbrev F_all:FV:=λ_ q n R=>∃rm,q=[.d (stD rm)]/\RoomOk rm/\yu rm<=256/\R (.d (xL (yh (rm.map zj)))) n
abbrev lsD (c:List Int):Dt:=.lst (c.map .int)
abbrev zdc:FV:=λ_ q n R=>∃cs:List (List Int),q=[.d (.lst (cs.map lsD))]/\cs.length<=8/\(∀c∈cs,c.length<=4)/\R (.d (xL (yh cs))) n
def zl1(s:xh G H):∀ {cs:List (List Int)} {xs:List V},IsL G (cs.map lsD) xs->zqE H xs cs:=λ{cs xs} h=>by refine⟨by rw[h.length,ab],λi c D=>?_⟩;obtain⟨v,h1,h2⟩:=h.getD (i:=i) (d:=lsD c) (by simp_all);obtain⟨a,ys,rfl,q,B⟩:=h2;obtain rfl:=B.of_ints;exact⟨a,h1,s _ _ q⟩
def zd4:ztK 1 true zdc (zdz K):=by rintro vs H Q E ⟨Pn,A,ws,n,R,F,I,hl,J,⟨cs,rfl,h1,h2,L⟩,q⟩;obtain⟨v,rfl,O⟩:=ztz I;obtain⟨a,xs,rfl,U,Y⟩:=O;refine⟨a,xs,cs,rfl,zp _ _ U,zl1 zp Y,h1,h2,λa ys H' Z B D S=>?_⟩;obtain⟨z1,z2⟩:=zqe F S Z B D;exact q _ n _ H' L z1 (Go.same J S) λ_=>z2
def zva {P:Program}{w:World}{K:PySem.W.Frag}{mg:Str->Option Value}{base:Heap}{x F:Str}{st:Stmt}{f:Addr}{fd:FuncData}{N ps:List Str}{k r:Nat}(M:List Nat)(Fu:Fun K x F st f fd)(S:FnScope N ps (zf st))(ag:ps.length=1)(hN:N.length=r+2)(hM:∀i∈M,2<=i)
  (U:∀ (J:Value) (A:Around) (B:List Env) (s:Shared) (H:Hp) (E:XK) (Pn:Option zr),Room k (A.deeper (PyProof.Rows.envOfC F (zf st) s.heap.objs.size f J))->
   ∃O zR fs,zP st=O::zR/\QS (zcX CX0 P w K mg base N F (zf st) f J A B s H E).nox O (zfP (zfJ (zmS K) [] E0 (zcN (zmU 0) znO)) (uW 1))/\
    JSs (zcX CX0 P w K mg base N F (zf st) f J A B s H E).nox Pn [] M false zR fs/\∀p c ns,Pn=some (p,c,ns)->fs (none::some (.pen p)::List.replicate r none) 0 { nx:=λ_ _=>False,rt:=λw _=>w = .d (.bl true) }):FnOk P w K mg base CX0 (k+1) f fd ps (zkP K):=by
 refine Fun.okQ Fu S (λvs H Q E h=>?_) (λJ A B s H vs Q E hr h=>?_)
 ·obtain⟨a,ns,rfl,_⟩:=h;exact ag.symm
 ·obtain⟨a,ns,rfl,hS,hl,q⟩:=h;have Y:=λ(Pn:Option zr)=>U J A B s H E Pn hr
  have ad:L2.xj N [.ref a]=some (.ref a)::none::List.replicate r none:=by unfold L2.xj;rw[hN];rfl
  have hd:∃O zR,zP st=O::zR:=let ⟨O,zR,_,e,_⟩:=Y none;⟨O,zR,e⟩;obtain⟨O,zR,e0⟩:=hd;rw[e0]
  have c2:∀Pn,∃fs,JSs (zcX CX0 P w K mg base N F (zf st) f J A B s H E).nox Pn [] M false zR fs/\∀p c ns,Pn=some (p,c,ns)->fs (none::some (.pen p)::List.replicate r none) 0 { nx:=λ_ _=>False,rt:=λw _=>w = .d (.bl true) }:=λPn=>by obtain⟨al,Z,fs,e,_,h1,h2⟩:=Y Pn;rw[e0] at e;cases e;exact⟨fs,h1,h2⟩
  have q1:QS (zcX CX0 P w K mg base N F (zf st) f J A B s H E).nox O (zfP (zfJ (zmS K) [] E0 (zcN (zmU 0) znO)) (uW 1)):=by
   obtain⟨al,Z,fs,e,h0,_⟩:=Y none
   simp_all
  refine⟨_,ye q1 (u:=λD σ H=>∃Pn,(c2 Pn).choose_spec.1.ex.choose D σ H) ⟨λpins s' σ H D I ⟨Pn,z⟩=>(c2 Pn).choose_spec.1.ex.choose_spec.1.run pins s' σ H D I z⟩,?_⟩;refine⟨.ref a,by rw[ad];rfl,a,ns,rfl,hS,hl,λp c H1 P1 S1=>⟨some (p,c,ns),?_⟩⟩;have hs:=(c2 (some (p,c,ns))).choose_spec.2 p c ns rfl;have e1:(L2.xj N [.ref a]).set 1 (some (.ref p))=some (.ref a)::some (.ref p)::List.replicate r none:=by rw[ad];rfl
  rw[e1]
  have L:∀i (u:W),(none::some (.pen p)::List.replicate r none:Ev)[i]?=some (some u)->i=1/\u = .pen p:=λi u e=>by
   match i,e with
   | 0,e=>simp at e
   | 1,e=>exact⟨rfl,by simpa using e.symm⟩
   | i+2,e=>
    simp only[bt] at e;obtain⟨_,q⟩:=ac.mp e
    simp_all
  refine (c2 (some (p,c,ns))).choose_spec.1.ex.choose_spec.2.run { A0:=λ_=>False,H0:=H1,G0:=z8 (λ_=>False) H1,σ0:=[] } (λ_=>False) _ H1 _ 0 _ _ ⟨⟨?_,?_,?_,λ_ z=>z.elim⟩,⟨λ_ z=>z,λ_ z=>z.elim,.of (zB.refl _),λ_ z=>z.elim,λ_ z=>z.elim,λ_ z=>z.elim⟩,⟨P1,λz=>z,λz=>z⟩,zB.refl _,λi hi=>by simp at hi,?_⟩ ⟨?_,?_,?_,λ_ z=>z,?_⟩ hs
  ·simp
  ·intro i u e;obtain⟨rfl,rfl⟩:=L i u e;exact⟨.ref p,rfl,λ_=>rfl,λz=>absurd (hM 1 z) (by lia)⟩
  ·intro i j u u' b hi hj an e1;obtain⟨rfl,rfl⟩:=L i u e1;exact absurd (hM 1 hi) (by lia)
  ·intro i u b hi e;obtain⟨rfl,rfl⟩:=L i u e;exact absurd (hM 1 hi) (by lia)
  ·intro _ _ _ _ _ _ z;exact z.elim
  ·intro _ _ _ _ _ _ z;exact z.elim
  ·intro _ _ _ _ _ _ z;exact z.elim
  ·intro w n' v H' hv st pn _ r;have r':w = .d (.bl true):=r;subst r';have:v = .bl true:=hv;subst this;exact q H'
open PySem PySem.Spec L2
def ziT {α:Type}{l:List W}{D:Ev}{n:Nat}{mg:W->Ev->(Ev->Prop)->Prop}{U:Ev->Mo Bool}{Y:Ev->Mo W}{Q:W->Nat->Prop}(xs:List α)(F:α->W)(hl:l=xs.map F)(J:Ev->Prop)(P:α->Bool)(E:α->Dt)(Z:xs.length<=lim)(j0:J D)
  (h:∀a∈xs,∀ B,J B->∀C:Ev->Nat->Option Dt->Prop,(∀ q,J q->C q n (if P a then some (E a) else none))->mg (F a) B λq=>U q n λb n2=>if b=true then Y q n2 λx I=>∃d,x = .d d/\C q I (some d) else C q n2 none)
  (fin:Q (.d (.lst ((xs.filter P).map E))) n):zeS mg U Y D Q l n:=by
 subst hl;refine⟨by simp_all,λi B L acc=>J B/\L=n/\acc=((xs.take i).filter P).map E,⟨j0,rfl,by simp⟩,?_,?_⟩
 ·rintro i w B L acc hw ⟨hj,rfl,rfl⟩;rw[am] at hw;obtain⟨a,ha,rfl⟩:=aB.mp hw
  have:=h a (aj ha) B hj (λq I o=>match o with
   | some d=>J q/\I=L/\((xs.take i).filter P).map E++[d]=((xs.take (i+1)).filter P).map E
   | none=>J q/\I=L/\((xs.take i).filter P).map E=((xs.take (i+1)).filter P).map E) (λq O=>by
    rw[zh ha,cR,aE];by_cases hp:P a=true
    ·simp_all
    ·rw[if_neg hp];exact⟨O,rfl,by simp[hp]⟩)
  exact this
 ·grind
def zlr {α:Type}{l:List W}{D:Ev}{n:Nat}{mg:W->Ev->(Ev->Prop)->Prop}{U:Ev->Mo W}{Q:W->Nat->Prop}(xs:List α)(F:α->W)(hl:l=xs.map F)(J:Ev->Prop)(E:α->Dt)(Y:xs.length<=lim)(j0:J D)
  (h:∀a∈xs,∀ B,J B->∀C:Ev->Nat->Dt->Prop,(∀ q,J q->C q n (E a))->mg (F a) B λq=>U q n λx I=>∃d,x = .d d/\C q I d)
  (fin:Q (.d (.lst (xs.map E))) n):zeS mg ztU U D Q l n:=by
 subst hl;refine⟨by simp_all,λi B L acc=>J B/\L=n/\acc=(xs.take i).map E,⟨j0,rfl,by simp⟩,?_,?_⟩
 ·rintro i w B L acc Z ⟨hj,rfl,rfl⟩;rw[am] at Z;obtain⟨a,ha,rfl⟩:=aB.mp Z;exact h a (aj ha) B hj (λq I d=>J q/\I=L/\(xs.take i).map E++[d]=(xs.take (i+1)).map E) λq O=>⟨O,rfl,by rw[zh ha,aE];rfl⟩
 ·grind
def zos(I:Nat->Ev->Nat->Prop)(L:I 0 ρ n)(h:∀i q B,i<r->I i q B->mg (.d (.int (i:Int))) q λD=>fb D B { k with nx:=I (i+1),ct:=I (i+1),bk:=k.nx })(O:∀ q B,I r q B->k.nx q B):zrg mg fb ρ k (zii 0 r) n:=by
 refine⟨I,L,λi w q B F J=>?_,λq B J=>O q B ?_⟩
 ·unfold zii at F;rw[am] at F;obtain⟨j,h1,rfl⟩:=aB.mp F;obtain⟨hi,h2⟩:=ac.mp h1;rw[bF] at h2
  simp_all
 ·unfold zii at J
  simp_all
def zjg{α:Type}(xs:List α)(D:α->W)(O:l=xs.map D)(I:Nat->Ev->Nat->Prop)(U:I 0 ρ n)(h:∀i a q B,xs[i]?=some a->I i q B->mg (D a) q λF=>fb F B { k with nx:=I (i+1),ct:=I (i+1),bk:=k.nx })(Y:∀ q B,I xs.length q B->k.nx q B):zrg mg fb ρ k l n:=by
 subst O;refine⟨I,U,λi w q B J L=>?_,λq B L=>Y q B (by simp_all)⟩;rw[am] at J;obtain⟨a,Z,rfl⟩:=aB.mp J;exact h i a q B Z L
def ze3(I:Nat->Ev->Nat->Prop)(J:I 0 ρ n)(h:∀i q D,i<r->I i q D->∀ (C B:Ev->Nat->Prop) (E:W->Nat->Prop),(∀ {ρ m},I (i+1) ρ m->C ρ m)->(∀ {ρ m},k.nx ρ m->B ρ m)->(∀ {w m},k.rt w m->E w m)->mg (.d (.int (i:Int))) q λF=>fb F D { rt:=E,nx:=C,ct:=C,bk:=B })(L:∀ q D,I r q D->k.nx q D):zrg mg fb ρ k (zii 0 r) n:=
 zos I J (λi q D hi O=>h i q D hi O (I (i+1)) k.nx k.rt (λz=>z) (λz=>z) λz=>z) L
def zH{α:Type}(xs:List α)(D:α->W)(L:l=xs.map D)(I:Nat->Ev->Nat->Prop)(O:I 0 ρ n)(h:∀i a q F,xs[i]?=some a->I i q F->∀ (C B:Ev->Nat->Prop) (E:W->Nat->Prop),(∀ {ρ m},I (i+1) ρ m->C ρ m)->(∀ {ρ m},k.nx ρ m->B ρ m)->(∀ {w m},k.rt w m->E w m)->mg (D a) q λJ=>fb J F { rt:=E,nx:=C,ct:=C,bk:=B })(U:∀ q F,I xs.length q F->k.nx q F):zrg mg fb ρ k l n:=
 zjg xs D L I O (λi a q F Y Z=>h i a q F Y Z (I (i+1)) k.nx k.rt (λz=>z) (λz=>z) λz=>z) U
def zlq{α:Type}(xs:List α)(J:α->W)(hl:l=xs.map J)(U:xs.length<=lim)(I:Nat->Ev->Nat->List Dt->Prop)(h0:I 0 F n [])(h:∀i a q B acc,xs[i]?=some a->I i q B acc->∀C:Ev->Nat->List Dt->Prop,(∀ {ρ m l},I (i+1) ρ m l->C ρ m l)->mg (J a) q λD=>L D B λb Y=>if b=true then O D Y λx n3=>∃d,x = .d d/\C D n3 (acc++[d]) else C D Y acc)(fin:∀ q B acc,I xs.length q B acc->Q (.d (.lst acc)) B):zeS mg L O F Q l n:=by
 subst hl;refine⟨by simp_all,I,h0,λi w q B acc Z hI=>?_,λq B acc hI=>fin q B acc (by simp_all)⟩;rw[am] at Z;obtain⟨a,ha,rfl⟩:=aB.mp Z;exact h i a q B acc ha hI (I (i+1)) λz=>z
def zdd {α:Type}{l:List α}{i:Nat}{x:α}(h:l[i]?=some x):atI l (i:Int)=some x:=by
 have:=(ac.mp h).1;unfold atI ixN
 simp_all
def zqI {α:Type}{l:List α}{i:Int}(B:0<=i)(h1:i<l.length):∃d,atI l i=some d/\d∈l:=by
 obtain⟨j,rfl⟩:∃j:Nat,i=j:=⟨i.toNat,by lia⟩;have q:j<l.length:=by lia
 exact⟨l[j],zdd (ah q),bO q⟩
def znX {st:List Int}{b:Int}(B:0<=b)(h1:b<st.length):atI (st.map Dt.int) b=some (.int (yV st b)):=by
 obtain⟨j,rfl⟩:∃j:Nat,b=j:=⟨b.toNat,by lia⟩;have q:j<st.length:=by lia
 refine zdd ?_;rw[am,ah q,yj];simp[q]
open PySem L2
def gw (g:List (Int×Int))(i:Nat):Option Int:=(g.find? λq=>decide (q.1=(i:Int))).map (·.2)
def zog (rm:List Int):enW 0 (rm.map Dt.int)=(List.range rm.length).map λi:Nat=>W.d (.tup [.int (i:Int),.int (rm.getD i 0)]):=by
 apply dJ;intro i;rw[zb9,am,am];by_cases h:i<rm.length
 all_goals simp_all
def cho (rm:List Int)(g:List (Int×Int))(i:Nat):List Int:=match gw g i with
 | some w=>[w]
 | none=>zj (rm.getD i 0)
def chs (rm:List Int)(g:List (Int×Int)):List (List Int):=(List.range rm.length).map (cho rm g)
def zuQ (rm:List Int)(g:List (Int×Int)):List (List Int):=yh (chs rm g)
section
variable {X:Cx}{Pn:Option zr}{M S:List Nat}{fr fr':Bool}{e a b c:Expr}{es:List Expr}{f fa fb fc:Ev->Mo W}{pos p p2:Pos}
def zoR (fa:Ev->Mo (List W)):Ev->Mo (List W):=λρ n Q=>fa ρ n λq m=>∃l,q=[.d (.lst l)]/\Q (enW 0 l) m
def zjA(h:z8 A H q=some (.lst xs))(B:IsL (z8 A H) l xs):ItV false A H (Iel K q) (enW 0 l) where
 one:=λi w A2 H2 e s _ I=>by rw[zb9] at e;obtain⟨d,h1,rfl⟩:=aB.mp e;obtain⟨x,D,J⟩:=B.getD h1;have g:=zp _ _ (s.lst h);refine⟨⟨xs,x,.of g,D⟩,?_⟩;rintro y H3 ⟨T,z,L,F,O,U⟩;subst L O;have:=U xs (.of g);rw[D] at this;cases this;have S:=xh.upd (o:=.tup [.int i,x]) F;refine⟨S,Val.of ⟨T,_,rfl,zG (I T F) zk,_,_,rfl,?_,_,_,rfl,(J.stay s).stay (zB.same (ul S)),rfl⟩⟩;show V.int (i:Int)=V.int ((0+i:Nat):Int);rw[Nat.zero_add]
 stop:=λA2 H2 s _=>⟨xs,.of (zp _ _ (s.lst h)),by rw[zf2,B.length];exact ai _⟩
def zd1{x1}(D:Gl X "enumerate")(F:X.mg "enumerate" = none)(I:JA X Pn M [a] fs)(hs:starEach [a] X.env=[(false,eval a X.env)]:=by rfl):JI X Pn M false (.Tuple elts x1 tpos) (.Call (.Name "enumerate" p) [a] [] pos) (zoR fs):=by obtain⟨te,q,r⟩:=I.ex;refine⟨_,zmD D F q hs,⟨λA σ H ρ n Q R E P J k=>?_⟩⟩;refine r.run A σ H ρ n _ _ E P J  ?_;rintro Y m vs H1 ⟨l,e,r⟩ L g;subst e;obtain⟨v,s,rfl,⟨O,xs,rfl,B,U⟩,hs⟩:=L;cases hs;exact⟨O,rfl,⟨xs,.of (zp _ _ B)⟩,k _ m _ H1 r (zjA B U) g⟩
def zhJ:∀ (l k:List Dt) (i:Nat),(ziW l k)[i]?=(l[i]?).bind λx=>(k[i]?).map λy=>W.d (.tup [x,y])
 | [],_,_=>by simp[ziW]
 | _::_,[],_=>by simp[ziW]
 | x::r,y::s,0=>by simp[ziW]
 | x::r,y::s,i+1=>by have:=zhJ r s i;simp only[ziW,bt,this]
def zhK:∀ (l k:List Dt),(ziW l k).length=min l.length k.length
 | [],_=>by simp[ziW]
 | _::_,[]=>by simp[ziW]
 | x::r,y::s=>by rw[ziW,aS,aS,aS,zhK r s];lia
def zoS (fa:Ev->Mo (List W)):Ev->Mo (List W):=λρ n Q=>fa ρ n λq m=>∃l k,q=[.d (.lst l),.d (.lst k)]/\Q (ziW l k) m
def zlQ(h:z8 A H F=some (.lst xs))(J:IsL (z8 A H) l xs)(h':z8 A H I=some (.lst ys))(L:IsL (z8 A H) k ys):ItV false A H (Izl K F I) (ziW l k) where
 one:=λi w A2 H2 e s _ hA=>by rw[zhJ] at e;obtain⟨d,h1,e⟩:=dw.mp e;obtain⟨d',q,rfl⟩:=aB.mp e;obtain⟨x,O,hd⟩:=J.getD h1;obtain⟨y,U,B⟩:=L.getD q;have g:=zp _ _ (s.lst h);have g':=zp _ _ (s.lst h');refine⟨⟨xs,ys,x,y,.of g,.of g',O,U⟩,?_⟩;rintro v H3 ⟨T,z,z',e1,Y,e3,hz,D⟩;subst e1 e3;have Z:=hz xs (.of g);have q2:=D ys (.of g');rw[O] at Z;rw[U] at q2;cases Z;cases q2;have S:=xh.upd (o:=.tup [x,y]) Y;exact⟨S,Val.of ⟨T,_,rfl,zG (hA T Y) zk,_,_,rfl,(hd.stay s).stay (zB.same (ul S)),_,_,rfl,(B.stay s).stay (zB.same (ul S)),rfl⟩⟩
 stop:=λA2 H2 s _=>⟨xs,ys,.of (zp _ _ (s.lst h)),.of (zp _ _ (s.lst h')),by rw[zhK,J.length,L.length];lia⟩
def zoF {elts:List Expr}{x1}{tpos:Pos}{fs:Ev->Mo (List W)}(I:Gl X "zip")(J:X.mg "zip" = none)(L:JA X Pn M [a,b] fs)(hs:starEach [a,b] X.env=[(false,eval a X.env),(false,eval b X.env)]:=by rfl)(F:starEach [b] X.env=[(false,eval b X.env)]:=by rfl):JI X Pn M false (.Tuple elts x1 tpos) (.Call (.Name "zip" p) [a,b] [] pos) (zoS fs):=by obtain⟨te,q,r⟩:=L.ex;refine⟨_,zpQ I J q hs F,⟨λA σ H ρ n Q R E P O k=>?_⟩⟩;refine r.run A σ H ρ n _ _ E P O  ?_;rintro ws m vs H1 ⟨l,kk,e,r⟩ U g;subst e;obtain⟨v,s,rfl,⟨Y,xs,rfl,B,Z⟩,v2,s2,rfl,⟨bd,ys,rfl,D,hk⟩,hs⟩:=U;cases hs;exact⟨Y,bd,rfl,⟨xs,.of (zp _ _ B)⟩,⟨ys,.of (zp _ _ D)⟩,k _ m _ H1 r (zlQ B Z D hk) g⟩
def zuU (i:Nat)(f:Ev->Mo W):Ms:=λρ n k=>(∃l,ρ[i]?=some (some (.d (.lst l))))/\f ρ n λw m=>∃l q,ρ[i]?=some (some (.d (.lst l)))/\w = .d (.lst q)/\l.length+q.length<=lim/\k.nx (ρ.set i (some (.d (.lst (l++q))))) m
def zjF (i:Nat){x:Str}{ap O sp U:Pos}(he:JE X Pn M fr' e f)(hi:i∈M:=by decide)(hN:X.N[i]?=some x:=by rfl)(hv:Vis X.env.scope x:=by walk_at "v")(hd:(x==("__debug__" : Str))=false:=by decide)
  (al:(x==("__classdict__" : Str))=false:=by decide) (Y:starEach (e::[]) X.env=(false,eval e X.env)::starEach [] X.env:=by rfl) (hs:swapsWith (.Call (.Attribute (.Name x U) "extend" ap) [e] [] O) none sp.line X.env=pure false:=by rfl) (J:attributeBase (.Name x U) "extend" X.env (eval (.Name x U) X.env)=eval (.Name x U) X.env:=by rfl) (L:(ap.endLine==O.line)=true:=by rfl)
  (Z:((backTo O (starEach [e] X.env)).all (λx=>!x.1)&&(backToKw O (keywordEach [] X.env)).all (λx=>x.1.isSome)&&decide (([e]:List Expr).length+([]:List Keyword).length+(if ([]:List Keyword).isEmpty then 0 else 1)<30))=true:=by rfl) (I:(backTo O (starEach [] X.env)).any (·.1)=false:=by rfl) :
  JS X Pn S M fr (.Expr (.Call (.Attribute (.Name x U) "extend" ap) [e] [] O) sp) (zuU i f):=by
 obtain⟨te,q,r⟩:=he.ex;refine⟨_,zep (zfz bV PySem.F.slot_list_extend PySem.F.type_list_extend zj0 (qv i hN hv hd al) (zO q yC Y) J Z L Y I) hs,⟨ ?_⟩⟩;rintro B A σ H ρ n k D a kk ⟨⟨l0,e0⟩,hf⟩;obtain⟨ad,as,s1,hA,g0,_⟩:=a.own hi e0;refine⟨.ref ad,s1,.inl ⟨rfl,_,SqL.of g0⟩,?_⟩;refine r.run A σ H ρ n _ _ a.env a.pn hf  ?_;rintro w m v H' ⟨l,l2,e,ed,hz,r⟩ hv g _;subst ed;have a':=a.step g;obtain⟨av,xs,s2,_,g4,hl⟩:=a'.own hi e;rw[s1] at s2;cases s2;obtain⟨b2,ys,rfl,an,ag⟩:=hv;exact⟨ad,b2,xs,ys,rfl,rfl,g4,zp _ _ an,zdn (by rw[hl.length,ag.length];exact hz),kk.nx A σ _ _ m (a'.wr hi e s1 (hl.append ag)) r⟩
def znm {α:Type}(l:List α)(k:Nat)(x:α):List α:=l.take k++x::l.drop k
def zuW (i:Nat)(fk f:Ev->Mo W):Ms:=λρ n k=>(∃l,ρ[i]?=some (some (.d (.lst l))))/\fk ρ n λy m=>f ρ m λw q=>∃l d j,ρ[i]?=some (some (.d (.lst l)))/\w = .d d/\y = .d (.int j)/\0<=j/\j<=l.length/\l.length<lim/\k.nx (ρ.set i (some (.d (.lst (znm l j.toNat d))))) q
def zrA(i:Nat){x:Str}{ap O sp U:Pos}(hc:JE X Pn M ag c fc)(he:JE X Pn M fr' e f)(hi:i∈M:=by decide)(hN:X.N[i]?=some x:=by rfl)(hv:Vis X.env.scope x:=by walk_at "v")(hd:(x==("__debug__" : Str))=false:=by decide)(al:(x==("__classdict__" : Str))=false:=by decide)(Y:starEach (c::[e]) X.env=(false,eval c X.env)::starEach [e] X.env:=by rfl)(an:starEach (e::[]) X.env=(false,eval e X.env)::starEach [] X.env:=by rfl)(hs:swapsWith (.Call (.Attribute (.Name x U) "insert" ap) [c,e] [] O) none sp.line X.env=pure false:=by rfl)(J:attributeBase (.Name x U) "insert" X.env (eval (.Name x U) X.env)=eval (.Name x U) X.env:=by rfl)(L:(ap.endLine==O.line)=true:=by rfl)(Z:((backTo O (starEach [c,e] X.env)).all (λx=>!x.1)&&(backToKw O (keywordEach [] X.env)).all (λx=>x.1.isSome)&&decide (([c,e]:List Expr).length+([]:List Keyword).length+(if ([]:List Keyword).isEmpty then 0 else 1)<30))=true:=by rfl)(I:(backTo O (starEach [e] X.env)).any (·.1)=false:=by rfl) :
  JS X Pn S M fr (.Expr (.Call (.Attribute (.Name x U) "insert" ap) [c,e] [] O) sp) (zuW i fc f):=by
 obtain⟨te,q,r⟩:=he.ex;obtain⟨tc,qc,rc⟩:=hc.ex;refine⟨_,zep (zfz bV PySem.F.slot_list_insert PySem.F.type_list_insert zj2 (qv i hN hv hd al) (zO qc (zO q yC an) Y) J Z L Y I) hs,⟨ ?_⟩⟩;rintro B A σ H ρ n k D a kk ⟨⟨l0,e0⟩,hf⟩;obtain⟨ad,av,s1,hA,g0,_⟩:=a.own hi e0;refine⟨.ref ad,s1,.inl ⟨rfl,_,SqL.of g0⟩,?_⟩;refine rc.run A σ H ρ n _ _ a.env a.pn hf λw1 m1 v1 H1 r1 as g1 _=>?_;have a1:=a.step g1;refine r.run A σ H1 ρ m1 _ _ a1.env a1.pn r1  ?_;rintro w m v H' ⟨l,d,j,e,ed,ey,j0,j1,hz,r⟩ hv g _;subst ed ey;have e1:v1 = .int j:=as;subst e1;have a':=a1.step g;obtain⟨a0,xs,s2,_,g4,hl⟩:=a'.own hi e;rw[s1] at s2;cases s2;refine⟨ad,xs,j,v,rfl,rfl,g4,j0,by rw[hl.length];exact j1,zdo (by rw[hl.length];exact cj hz),kk.nx A σ _ _ m (a'.wr hi e s1 ?_) r⟩;exact (hl.take _).append ⟨v,_,rfl,hv.is,hl.drop _⟩
def ze7:∀ {ds:List Dt} {xs:List V} (k:Nat),IsL G ds xs->IsL G (ds.eraseIdx k) (xs.eraseIdx k)
 | [],_,_,h=>by cases h;rfl
 | x::ds,xs,0,⟨y,r,e,h1,h2⟩=>by subst e;exact h2
 | x::ds,xs,k+1,⟨y,r,e,h1,h2⟩=>by subst e;exact⟨y,_,rfl,h1,ze7 k h2⟩
def zoZ (i:Nat)(fk:Ev->Mo W):Ms:=λρ n k=>(∃l,ρ[i]?=some (some (.d (.lst l))))/\fk ρ n λy m=>∃l j,ρ[i]?=some (some (.d (.lst l)))/\y = .d (.int j)/\0<=j/\j<l.length/\l.length<=lim/\k.nx (ρ.set i (some (.d (.lst (l.eraseIdx j.toNat))))) m
def znJ {n:Nat}{j:Int}(q:0<=j)(h1:j<n):seqIndex? j n=some j.toNat:=(zgh (by unfold ixN;rw[if_pos q,if_pos h1])).1
def zoH (i:Nat){x:Str}{Z L sp O:Pos}(hc:JB X Pn M c fc)(hi:i∈M:=by decide)(hN:X.N[i]?=some x:=by rfl)(hv:Vis X.env.scope x:=by walk_at "v")(hd:(x==("__debug__" : Str))=false:=by decide)
  (ag:(x==("__classdict__" : Str))=false:=by decide) (U:starEach (c::[]) X.env=(false,eval c X.env)::starEach [] X.env:=by rfl) (hs:swapsWith (.Call (.Attribute (.Name x O) "pop" Z) [c] [] L) none sp.line X.env=pure false:=by rfl) (I:attributeBase (.Name x O) "pop" X.env (eval (.Name x O) X.env)=eval (.Name x O) X.env:=by rfl) (J:(Z.endLine==L.line)=true:=by rfl)
  (Y:((backTo L (starEach [c] X.env)).all (λx=>!x.1)&&(backToKw L (keywordEach [] X.env)).all (λx=>x.1.isSome)&&decide (([c]:List Expr).length+([]:List Keyword).length+(if ([]:List Keyword).isEmpty then 0 else 1)<30))=true:=by rfl) (q:(backTo L (starEach [] X.env)).any (·.1)=false:=by rfl) :
  JS X Pn S M fr (.Expr (.Call (.Attribute (.Name x O) "pop" Z) [c] [] L) sp) (zoZ i fc):=by
 obtain⟨tc,qc,rc⟩:=hc.ex;refine⟨_,zep (zfz bV PySem.F.slot_list_pop PySem.F.type_list_pop zhm (qv i hN hv hd ag) (zO qc yC U) I Y J U q) hs,⟨ ?_⟩⟩;rintro B A σ H ρ n k D a kk ⟨⟨l0,e0⟩,hf⟩;obtain⟨ad,as,s1,hA,g0,_⟩:=a.own hi e0;refine⟨.ref ad,s1,.inl ⟨rfl,_,SqL.of g0⟩,?_⟩;refine rc.run A σ H ρ n _ _ a.env a.pn hf  ?_;rintro w m v H' ⟨l,j,e,ey,j0,j1,hz,r⟩ hv g;subst ey;have e1:v = .int j:=hv;subst e1;have a':=a.step g;obtain⟨av,xs,s2,_,g4,hl⟩:=a'.own hi e;rw[s1] at s2;cases s2;have al:=hl.length;have an:(l.length:Int)<=500000:=by have:l.length<=500000:=hz;lia
 exact⟨ad,xs,j,j.toNat,xs[j.toNat]'(by lia),rfl,rfl,g4,by lia,by lia,znJ j0 (by lia),ah _,kk.nx A σ _ _ m (a'.wr hi e s1 (ze7 _ hl)) r⟩
def zoq:W->W->Mo W:=λx y n Q=>∃l j,x = .d (.lst l)/\y = .d (.int j)/\0<=j/\j<=1000000/\l.length * j.toNat<=lim/\Q (.d (.lst (List.replicate j.toNat l).flatten)) n
def zty:F2 Pn true zt0 zoq:=⟨by
 rintro A H x y Y Z n Q R F I q P ⟨l,j,J,L,j1,j2,z,h⟩ k;subst J L;obtain⟨a,xs,O,U,B⟩:=yR I;refine⟨a,j,xs,O,yx q,U,by lia,by lia,zdn (by rw[B.length];exact z),λp D=>?_⟩;have S:=xh.upd (o:=.lst (List.replicate j.toNat xs).flatten) D;exact k _ n _ _ h (ue (zgg B _) (zB.same S) (F.new D) zk) (Go.same P S) λz=>uB (zgg B _) S D zk⟩
def zjb:List W->Mo W:=λB n Q=>∃ns:List Int,B=[.d (.lst (ns.map .int))]/\ns.length<64/\∀q:List Int,q.Perm ns->q.Pairwise (·<=·)->Q (.d (.lst (q.map .int))) n
def zqs:FL Pn true zkx zjb:=⟨by
 rintro A H xs U n Q R F b P ⟨ns,e,q,h⟩ k;subst e;obtain⟨v,rfl,I⟩:=zbH b;obtain⟨a,ys,rfl,J,L⟩:=yR I;obtain rfl:=L.of_ints;exact⟨a,ns,rfl,J,q,λB O hs p H' D g S=>k _ n _ H' (h B O hs) (ue (H:=H) IsL.ints (zB.same S) (F.new D) g) (Go.same P S) λz=>uB (H:=H) IsL.ints S D g⟩⟩
def zjd:List W->Mo W:=λB n Q=>∃ (sts:List (List Int)) (m:Nat),B=[.d (.lst (sts.map stD))]/\sts.length<64/\1<=m/\(∀st∈sts,st.length=m)/\sts.Nodup/\∀q:List (List Int),q.Perm sts->(q.Pairwise λa b=>HT.lexLt a b=true)->Q (.d (xL q)) n
def zqt:FL Pn true zpY zjd:=⟨by
 rintro A H xs ws n Q R J b P ⟨sts,m,e,D,h1,O,F,h⟩ k;subst e;obtain⟨v,rfl,U⟩:=zbH b;obtain⟨a,ys,rfl,Y,Z⟩:=yR U;refine⟨a,ys,sts,m,rfl,Y,Z.stay (zB.same zp),D,h1,O,F,λI q hy hp hs p H' L g S=>?_⟩;have B:IsL (z8 A H) (q.map stD) I:=zaw J.noT (uF q) hy;exact k _ n _ H' (h q hp hs) (ue B (zB.same S) (J.new L) g) (Go.same P S) λz=>uB B S L g⟩
def zjC:JE X Pn M true (.Dict [] [] pos) (mC (.dt [])):=⟨_,zmy,⟨λA σ H ρ n Q R E P B k=>λp H' q g S=>k _ n _ H' B ⟨p,[],rfl,zG (E.new q) g,rfl⟩ (Go.same P S) λ_=>⟨p,rfl,.of q,p,[],rfl,g,rfl⟩⟩⟩
def zjT (fd fk:Ev->Mo W):Ev->Mo W:=λρ n Q=>fd ρ n λx q=>fk ρ q λy B=>∃kvs st d,x = .dt kvs/\y = .d (stD st)/\yy kvs st=some d/\Q (.d d) B
def xO (F:X.A.units+1<cLine)(I:JB X Pn M a fa)(J:JB X Pn M b fb)(hs:zqF b):JE X Pn M false (.Subscript a b pos) (zjT fa fb):=by obtain⟨ta,L,O⟩:=I.ex;obtain⟨tb,U,Y⟩:=J.ex;refine⟨_,uc F L U hs,⟨λA σ H ρ n Q R E P Z k=>?_⟩⟩;refine O.run A σ H ρ n _ _ E P Z λw1 m1 v1 H1 r1 b1 q=>?_;refine Y.run A σ H1 ρ m1 _ _ (E.stay q.st) q.pn r1  ?_;rintro w2 m2 v2 H2 ⟨kvs,st,d,e1,e2,e3,r⟩ b2 g2;subst e1 e2;obtain⟨ad,ks,rfl,B,hk⟩:=b1.stay g2.st;obtain⟨bd,xs,rfl,D,hx⟩:=xb b2;obtain rfl:=hx.of_ints;obtain⟨v,h1,h2⟩:=(hk.look (k:=st)).2 d e3;refine⟨ad,v,rfl,?_,k _ m2 _ H2 r (Val.of h2) (q.trans g2) λz=>by cases z⟩;rw[<- h1];exact zcQ.i B D
def zeI {κ:Type}[DecidableEq κ](kvs:List (κ×Dt))(k:κ)(d:Dt):List (κ×Dt):=
 if (kvs.any λkv=>decide (kv.1=k))=true then kvs.map (λkv=>if kv.1=k then (kv.1,d) else kv) else kvs++[(k,d)]
def uK.any {κ:Type}[DecidableEq κ]{G:Hp}{k:κ}:∀ {kvs:List (κ×Dt)} {ks:List (κ×V)},uK G kvs ks->(ks.any λkv=>decide (kv.1=k))=kvs.any λkv=>decide (kv.1=k)
 | [],_,h=>by cases h;rfl
 | q::r,ks,⟨v,s,e,h1,h2⟩=>by subst e;rw[cB,cB,uK.any h2]
def uK.map1 {κ:Type}[DecidableEq κ]{G:Hp}{k:κ}{d:Dt}{x:V}(D:Is G d x):∀ {kvs:List (κ×Dt)} {ks:List (κ×V)},uK G kvs ks->uK G (kvs.map λkv=>if kv.1=k then (kv.1,d) else kv) (ks.map λkv=>if kv.1=k then (kv.1,x) else kv)
 | [],_,h=>by cases h;rfl
 | q::r,ks,⟨v,s,e,h1,h2⟩=>by
  subst e;rw[aC,aC];by_cases B:q.1=k
  ·rw[if_pos B,if_pos B];exact⟨x,_,rfl,D,uK.map1 D h2⟩
  ·rw[if_neg B,if_neg B];exact⟨v,_,rfl,h1,uK.map1 D h2⟩
def uK.snoc {κ:Type}{G:Hp}{k:κ}{d:Dt}{x:V}(B:Is G d x):∀ {kvs:List (κ×Dt)} {ks:List (κ×V)},uK G kvs ks->uK G (kvs++[(k,d)]) (ks++[(k,x)])
 | [],_,h=>by cases h;exact⟨x,[],rfl,B,rfl⟩
 | q::r,ks,⟨v,s,e,h1,h2⟩=>by subst e;exact⟨v,_,rfl,h1,uK.snoc B h2⟩
def uK.put{κ:Type}[DecidableEq κ]{k:κ}{kvs:List (κ×Dt)}{ks:List (κ×V)}(h:uK G kvs ks)(q:Is G d x):uK G (zeI kvs k d) (zao ks k x):=by
 unfold zeI zao;rw[h.any];split
 ·exact h.map1 q
 ·exact h.snoc q
def uK.len {κ:Type}{G:Hp}:∀ {kvs:List (κ×Dt)} {ks:List (κ×V)},uK G kvs ks->ks.length=kvs.length
 | [],_,h=>by cases h;rfl
 | q::r,ks,⟨v,s,e,h1,h2⟩=>by subst e;rw[aS,aS,uK.len h2]
def At3.wrX(h:At3 Pn B S M A σ H ρ n)(hi:i∈M)(e:ρ[i]?=some (some w))(s:σ[i]?=some (some (.ref ad)))(hw:WAt (L2.upd H ad o) (z8 A H) w' (.ref ad))(hm':w'.mut=true)(np:NP o)(nt:∀xs,o≠.tup xs):At3 Pn B S M A σ (L2.upd H ad o) (ρ.set i (some w')) n:=by
 obtain⟨v,s1,_,s3⟩:=h.env.val i w e;rw[s] at s1;cases s1;obtain⟨a2,e2,hA,_,_⟩:=s3 hi;cases e2;have hlen:i<ρ.length:=(ac.mp e).1
 have hE:EnvR A M σ (L2.upd H ad o) (ρ.set i (some w')):=by
  refine⟨by rw[bc];exact h.env.len,λj u ej=>?_,λj q u u' b hj hq hne e1 e2=>?_,λb hb=>?_⟩
  ·by_cases hj:j=i
   ·subst hj;rw[aM hlen] at ej;cases ej;exact⟨.ref ad,s,λz=>absurd hi z,λ_=>⟨ad,rfl,hA,by show WAt _ _ _ _;rw[yq hA];exact hw,hm'⟩⟩
   ·rw[ar (Ne.symm hj)] at ej;obtain⟨v,t1,t2,t3⟩:=h.env.val j u ej;refine⟨v,t1,λz=>?_,λz=>?_⟩
    ·show WAt _ _ _ _;rw[yq hA];exact t2 z
    ·obtain⟨b,rfl,hb,hbb,hm⟩:=t3 z;have hne:b≠ad:=λq=>h.env.dis i j w u ad hi z (Ne.symm hj) e ej s (by rw[t1,q]);refine⟨b,rfl,hb,?_,hm⟩;show WAt _ _ _ _;rw[yq hA]
     cases u with
     | d x=>
      cases x with
      | lst l=>obtain⟨a2,xs,e2,g1,g2⟩:=hbb;cases e2;exact⟨b,xs,rfl,by rw[zg hne];exact g1,g2⟩
      | dct=>obtain⟨a2,xs,e2,g1,g2⟩:=hbb;cases e2;exact⟨b,xs,rfl,by rw[zg hne];exact g1,g2⟩
      | _=>cases hm
     | pen p=>cases hm
     | dk k=>obtain⟨a2,xs,e2,g1,g2⟩:=hbb;cases e2;exact⟨b,xs,rfl,by rw[zg hne];exact g1,g2⟩
     | dt k=>obtain⟨a2,xs,e2,g1,g2⟩:=hbb;cases e2;exact⟨b,xs,rfl,by rw[zg hne];exact g1,g2⟩
     | ss P w k=>obtain⟨a2,xs,e2,g1,g2⟩:=hbb;cases e2;exact⟨b,xs,rfl,by rw[zg hne];exact g1,g2⟩
     | df k=>obtain⟨a2,ob,xs,e2,g1,g2⟩:=hbb;cases e2;exact⟨b,ob,xs,rfl,by simp_all,g2⟩
     | kf k=>obtain⟨a2,ob,xs,e2,g1,g2⟩:=hbb;cases e2;exact⟨b,ob,xs,rfl,by simp_all,g2⟩
  ·have get:∀q (u:W),(ρ.set i (some w'))[q]?=some (some u)->∃u',ρ[q]?=some (some u'):=λq u z=>by
    by_cases hq:q=i
    ·subst hq;exact⟨w,e⟩
    ·rw[ar (Ne.symm hq)] at z;exact⟨u,z⟩
   obtain⟨v1,f1⟩:=get j u e1;obtain⟨v2,f2⟩:=get q u' e2;exact h.env.dis j q v1 v2 b hj hq hne f1 f2
  ·by_cases hb':b=ad
   ·subst hb';exact⟨_,zk,np,nt⟩
   ·rw[zg hb'];exact h.env.al b hb
 refine⟨hE,⟨h.frm.sub,h.frm.new,λb o eb nn nc=>?_,h.frm.al,h.frm.cn,λb z=>(by
  by_cases hb':b=ad
  ·subst hb';exact⟨_,zk,np⟩
  ·rw[zg hb'];exact h.frm.cs b z)⟩,h.pn.upd hA,by rw[yq hA];exact h.prot,h.fix,λj u b hj ej sj=>?_⟩
 ·have hne:b≠ad:=λq=>by
   subst q;rcases h.mine i w b hi e s with z | z
   ·exact z o eb nn
   ·exact nc z
  rw[zg hne];exact h.frm.st b o eb nn nc
 ·by_cases hj':j=i
  ·subst hj';exact h.mine j w b hj e sj
  ·rw[ar (Ne.symm hj')] at ej;exact h.mine j u b hj ej sj
def zjU (i:Nat)(fk f:Ev->Mo W):Ms:=λρ n k=>(∃kvs,ρ[i]?=some (some (.dt kvs)))/\f ρ n λw m=>fk ρ m λy q=>∃kvs st d,ρ[i]?=some (some (.dt kvs))/\w = .d d/\y = .d (stD st)/\kvs.length<lim/\k.nx (ρ.set i (some (.dt (zeI kvs st d)))) q
def zd2 (i:Nat){x:Str}{np sp:Pos}(hu:X.A.units+1<cLine)(hk:JB X Pn M c fc)(he:JE X Pn M fr' e f)(hi:i∈M:=by decide)(hN:X.N[i]?=some x:=by rfl)(hv:Vis X.env.scope x:=by walk_at "v")(hd:(x==("__debug__" : Str))=false:=by decide)
  (I:(x==("__classdict__" : Str))=false:=by decide) (hs:swapsWith e (some (.Subscript (.Name x np) c p)) sp.line X.env=pure false:=by rfl) :
  JS X Pn S M fr (.Assign [.Subscript (.Name x np) c p] e sp) (zjU i fc f):=by
 obtain⟨te,q,r⟩:=he.ex;obtain⟨tk,qk,rk⟩:=hk.ex;refine⟨_,zeo hu (qv i hN hv hd I) qk q hs,⟨ ?_⟩⟩;rintro B A σ H ρ n k D a kk ⟨⟨l0,e0⟩,hf⟩;obtain⟨v0,J,_,o3⟩:=a.env.val i _ e0;obtain⟨L,rfl,hA,ag,_⟩:=o3 hi;refine r.run A σ H ρ n _ _ a.env a.pn hf λw m v H1 r1 O g1 _=>⟨.ref L,J,?_⟩;have U:=a.step g1;refine rk.run A σ H1 ρ m _ _ U.env U.pn r1  ?_;rintro y m2 v2 H2 ⟨kvs,st,d,e,ed,ey,hz,r2⟩ b2 g2;subst ed ey;have a2:=U.step g2;obtain⟨v3,s3,_,o4⟩:=a2.env.val i _ e;rw[J] at s3;cases s3;obtain⟨al,e4,_,hb,_⟩:=o4 hi;cases e4;obtain⟨a5,ks,e5,Y,F⟩:=hb;cases e5;obtain⟨bd,xs,rfl,Z,hx⟩:=xb b2;obtain rfl:=hx.of_ints;exact⟨L,_,rfl,zcT.i Y Z (zdo (by rw[F.len];exact cj hz)),kk.nx A σ _ _ m2 (a2.wrX (w':=.dt (zeI kvs st d)) hi e J ⟨L,_,rfl,zk,F.put (O.stay g2.st).is⟩ rfl (λk z=>by cases z) (λ_ z=>by cases z)) r2⟩
end
open PySem PySem.Spec L2
def zjZ {a c:Int}{n:Nat}(q:0<=a)(h1:a<=n)(h2:n<=1000000)(B:0<=c)(D:c<2147483549):0<=(c+70009) * (2 * a+1)+6133 * a * a+577 * a/\(c+70009) * (2 * a+1)+6133 * a * a+577 * a<=11000000000000000:=by
 have F:(c+70009) * (2 * a+1)<=2147553558 * 2000001:=c6 (by lia) (by lia) (by lia) (by lia);have I:0<=(c+70009) * (2 * a+1):=Int.mul_nonneg (by lia) (by lia);have J:a * a<=1000000 * 1000000:=c6 (by lia) (by lia) (by lia) (by lia);have L:0<=a * a:=Int.mul_nonneg q q
 grind
def zpI{X:Cx}(K:PySem.W.Frag)(J:X.K=K){es:List Expr}{to:TE}{t:TA}{apos cpos:Pos}(L:QE X o to)(O:QA X (e::es) t)(B:attributeBase o "pop" X.env (eval o X.env)=eval o X.env:=by rfl)(I:((backTo cpos (starEach (e::es) X.env)).all (λx=>!x.1)&&(backToKw cpos (keywordEach [] X.env)).all (λx=>x.1.isSome)
   && decide ((e::es).length+([]:List Keyword).length+(if ([]:List Keyword).isEmpty then 0 else 1)<30))=true:=by rfl)(D:(apos.endLine==cpos.line)=true:=by rfl)(hs:starEach (e::es) X.env=(false,eval e X.env)::starEach es X.env:=by rfl)(q:(backTo cpos (starEach es X.env)).any (·.1)=false:=by rfl) :
  QE X (.Call (.Attribute o "pop" apos) (e::es) [] cpos) (tBM K "list" znC to t):=by
 subst J;exact zfz bV PySem.F.slot_list_pop PySem.F.type_list_pop zhm L O B I D hs q
def znL:Sp:=λvs H Q E=>∃ (p c a:Addr) (ns:List Int) (n:Nat) (xs:List V),vs=[.ref p,.ref a]/\Pen H p c ns n/\n+xs.length<=1000000/\xs.length<=100000/\H a=some (.lst xs)/\
 ∀b ys H',H b=none->H' b=some (.lst ys)->ys.Perm xs->Pen H' p c ns (n+xs.length)->zB H H'->Q (.ref b) H'
def zlN(h:ys.Perm xs):∀ {l:List Dt},IsL G l xs->∃l':List Dt,l'.Perm l/\IsL G l' ys:=by
 induction h with
 | nil=>intro l h;exact⟨l,.refl _,h⟩
 | cons x _ I=>
  intro l h
  match l,h with
  | [],h=>exact absurd h (by intro z;cases z)
  | d::ds,⟨Y,r,e,h1,h2⟩=>
   cases e;obtain⟨l',p,B⟩:=I h2;exact⟨d::l',p.cons d,x,_,rfl,h1,B⟩
 | swap x y s=>
  intro l h
  match l,h with
  | [],h=>exact absurd h (by intro z;cases z)
  | [_],⟨_,_,e,_,h2⟩=>cases e;exact absurd h2 (by intro z;cases z)
  | d::e::ds,⟨_,_,q,h1,_,_,J,B,L⟩=>
   cases q;cases J;exact⟨e::d::ds,.swap _ _ _,_,_,rfl,B,_,_,rfl,h1,L⟩
 | trans _ _ D F=>
  intro l h;obtain⟨Z,O,h1⟩:=F h;obtain⟨U,p2,h2⟩:=D h1;exact⟨U,p2.trans O,h2⟩
def ziz:FV:=λPn q n R=>∃p c ns l,Pn=some (p,c,ns)/\q=[.pen p,.d (.lst l)]/\n+l.length<=1000000/\l.length<=100000/\∀l':List Dt,l'.Perm l->R (.d (.lst l')) (n+l.length)
def zjO:ztK 2 true ziz znL:=by rintro vs H Q E ⟨Pn,A,ws,n,R,U,Y,hl,J,⟨p,c,ns,l,rfl,rfl,h1,h2,Z⟩,q⟩;obtain⟨v,y,rfl,b1,b2⟩:=ztA Y;have e1:v = .ref p:=b1;subst e1;obtain⟨a,xs,rfl,ha,L⟩:=b2;have O:=L.length;refine⟨p,c,a,ns,n,xs,rfl,J.1,by lia,by lia,zp _ _ ha,λb ys H' I D B P' S'=>?_⟩;obtain⟨l',pl,F⟩:=zlN B L;refine q _ _ _ H' (Z l' pl) (ue F S' (U.new I) D) ⟨S',by simp_all,J.2⟩ λ_=>⟨b,rfl,.of I,b,ys,rfl,D,F.stay (yI S' (.of I))⟩
def zgV {α:Type}:∀ {l:List α} {k:Nat} (h:k<l.length),(l[k]::l.eraseIdx k).Perm l
 | [],_,h=>absurd h (by simp)
 | x::l,0,_=>.refl _
 | x::l,k+1,h=>by have:=zgV (l:=l) (k:=k) (by simpa using h);simp only[List.getElem_cons_succ,List.eraseIdx_cons_succ];exact (List.Perm.swap x _ _).trans (this.cons x)
def zhY{xs ys zs:List V}(q:k<zs.length)(h:(ys++zs).Perm xs):(ys++[zs[k]]++zs.eraseIdx k).Perm xs:=by refine .trans ?_ h;rw[b6];exact (zgV q).append_left ys
section
variable {X:Cx}{Pn:Option zr}{M S:List Nat}{fr fr':Bool}{e a b c:Expr}{es:List Expr}{f fa fb fc:Ev->Mo W}{pos p:Pos}
def zoT (fa:Ev->Mo (List W)):Ev->Mo (List W):=λρ n Q=>fa ρ n λq m=>∃l k,q=[.d (.lst l),.d (.tup k)]/\l.length=k.length/\Q (ziW l k) m
def zoG {elts:List Expr}{x1}{tpos:Pos}{fs:Ev->Mo (List W)}(J:Gl X "zip")(L:X.mg "zip" = none)(O:JA X Pn M [a,b] fs)(hs:starEach [a,b] X.env=[(false,eval a X.env),(false,eval b X.env)]:=by rfl)(I:starEach [b] X.env=[(false,eval b X.env)]:=by rfl):JI X Pn M false (.Tuple elts x1 tpos) (.Call (.Name "zip" p) [a,b] [] pos) (zoT fs):=by obtain⟨te,q,r⟩:=O.ex;refine⟨_,zkr false J L q hs I,⟨λA σ H ρ n Q R E P U k=>?_⟩⟩;refine r.run A σ H ρ n _ _ E P U  ?_;rintro ws m vs H1 ⟨l,kk,e,B,r⟩ Y g;subst e;obtain⟨v,s,rfl,⟨Z,xs,rfl,D,hl⟩,v2,s2,rfl,⟨bd,ys,rfl,F,hk⟩,hs⟩:=Y;cases hs;exact⟨Z,bd,rfl,⟨xs,.of (zp _ _ D)⟩,⟨ys,.of (zp _ _ F)⟩,k _ m _ H1 r (zhb B (λs=>.of (zp _ _ (s.lst D))) hl F hk) g⟩
def uK.keys {κ:Type}{G:Hp}:∀ {kvs:List (κ×Dt)} {ks:List (κ×V)},uK G kvs ks->ks.map (·.1)=kvs.map (·.1)
 | [],_,h=>by cases h;rfl
 | q::r,_,⟨v,s,e,_,h⟩=>by subst e;rw[aC,aC,uK.keys h]
def WAt.mv(t:∀o,T ad=some o->T' ad=some o)(g:xh G G')(m:w.mut=true)(h:WAt T G w (.ref ad)):WAt T' G' w (.ref ad):=by
 cases w with
 | d x=>
  cases x with
  | lst l=>obtain⟨a2,xs,e2,g1,g2⟩:=h;cases e2;exact⟨ad,xs,rfl,t _ g1,g2.stay (zB.same g)⟩
  | dct=>obtain⟨a2,xs,e2,g1,g2⟩:=h;cases e2;exact⟨ad,xs,rfl,t _ g1,g2⟩
  | _=>cases m
 | pen p=>cases m
 | dk k=>obtain⟨a2,xs,e2,g1,g2,g3⟩:=h;cases e2;exact⟨ad,xs,rfl,t _ g1,g2.stay (zB.same g),g3⟩
 | dt k=>obtain⟨a2,xs,e2,g1,g2⟩:=h;cases e2;exact⟨ad,xs,rfl,t _ g1,g2.stay (zB.same g)⟩
 | ss P w k=>obtain⟨a2,xs,e2,g1,g2⟩:=h;cases e2;exact⟨ad,xs,rfl,t _ g1,g2.stay (zB.same g)⟩
 | df k=>obtain⟨a2,ob,xs,e2,g1,g2⟩:=h;cases e2;exact⟨ad,ob,xs,rfl,t _ g1,g2.stay (zB.same g)⟩
 | kf k=>obtain⟨a2,ob,xs,e2,g1,g2⟩:=h;cases e2;exact⟨ad,ob,xs,rfl,t _ g1,g2.stay (zB.same g)⟩
def At3.move(h:At3 Pn B S M A σ H ρ n)(hj:j∈M)(hi:i∉M)(av:i∉S)(e:ρ[j]?=some (some w))(s:σ[j]?=some (some (.ref F))):At3 Pn B S M (λb=>A b/\b≠F) (σ.set i (some (.ref F))) H ((ρ.set j none).set i (some w)) n:=by
 obtain⟨v,s1,_,s3⟩:=h.env.val j w e;rw[s] at s1;cases s1;obtain⟨a2,e2,hA,an,ap⟩:=s3 hj;cases e2;have a3:i≠j:=λz=>hi (z ▸ hj);have I:∀b,(A b/\b≠F)->A b:=λb z=>z.1;have J:xh (z8 A H) (z8 (λb=>A b/\b≠F) H):=xx I
 have U:∀q (u:W),((ρ.set j none).set i (some w))[q]?=some (some u)->q≠i->q≠j/\ρ[q]?=some (some u):=λq u z Z=>by
  rw[ar (Ne.symm Z)] at z;by_cases L:q=j
  ·subst L;rw[List.getElem?_set] at z
   simp_all
  ·rw[ar (Ne.symm L)] at z;exact⟨L,z⟩
 have Y:¬ B.A0 F:=λz=>by
  rcases h.mine j w F hj e s with q | q
  ·obtain⟨o,o1,o2,_⟩:=h.frm.al F z;exact q o o1 o2
  ·exact h.frm.cn F q z
 have ag:Val (λb=>A b/\b≠F) H w (.ref F):=by exact WAt.mv (λo ho=>zG (λz=>z.2 rfl) ho) J ap an
 refine⟨⟨?_,?_,?_,?_⟩,⟨λb z=>⟨h.frm.sub b z,λq=>Y (q ▸ z)⟩,λb z=>h.frm.new b z.1,h.frm.st,h.frm.al,h.frm.cn,h.frm.cs⟩,h.pn.less I,h.prot.trans (zB.same J),λk hk=>?_,λk u b hk ek sk=>?_⟩
 ·rw[bc,bc,bc];exact h.env.len
 ·intro q u eq;by_cases Z:q=i
  ·subst Z
   have O:q<(ρ.set j none).length:=by
    have:=(ac.mp eq).1
    simp_all
   rw[aM O] at eq;cases eq;rw[bc] at O;refine⟨.ref F,aM (by rw[h.env.len];exact O),λ_=>ag,λz=>absurd z hi⟩
  ·obtain⟨L,z⟩:=U q u eq Z;obtain⟨v,t1,t2,t3⟩:=h.env.val q u z;refine⟨v,by rw[ar (Ne.symm Z)];exact t1,λy=>WAt.up (zB.same J) (zB.same J) (t2 y),λy=>?_⟩;obtain⟨b,rfl,hb,a0,hm⟩:=t3 y;refine⟨b,rfl,⟨hb,λq'=>?_⟩,WAt.up (zB.refl _) (zB.same J) a0,hm⟩;subst q';exact h.env.dis j q w u b hj y (Ne.symm L) e z s t1
 ·intro q k u u' b Z hk a1 e1 e2;have as:q≠i:=λz=>hi (z ▸ Z);have D:k≠i:=λz=>hi (z ▸ hk);rw[ar (Ne.symm as),ar (Ne.symm D)];exact h.env.dis q k u u' b Z hk a1 (U q u e1 as).2 (U k u' e2 D).2
 ·exact λb z=>h.env.al b z.1
 ·have D:k≠i:=λz=>av (z ▸ hk);rw[ar (Ne.symm D)];exact h.fix k hk
 ·have D:k≠i:=λz=>hi (z ▸ hk);rw[ar (Ne.symm D)] at sk;exact h.mine k u b hk (U k u ek D).2 sk
def zoV (i j:Nat):Ms:=λρ n k=>∃w,ρ[j]?=some (some w)/\k.nx ((ρ.set j none).set i (some w)) n
def zgi(j:Nat){x y:Str}{px L sp:Pos}(Y:X.N.Nodup)(hi:X.N[i]?=some x)(Z:Loc X.env.scope x)(O:j∈M:=by decide)(q:i∉M:=by decide)(F:i∉S:=by decide)(I:X.N[j]?=some y:=by rfl)(hv:Vis X.env.scope y:=by walk_at "v")(hd:(y==("__debug__" : Str))=false:=by decide)(J:(y==("__classdict__" : Str))=false:=by decide)(hs:swapsWith (.Name y L) (some (.Name x px)) sp.line X.env=pure false:=by rfl)(hf:X.fn x=true\/X.env.scope.names.lookup x=some .local:=by walk_at "l"):JS X Pn S M fr (.Assign [.Name x px] (.Name y L) sp) (zoV i j):=by
 refine⟨_,x5 (i:=i) Y hi Z (qv j I hv hd J) hs hf,⟨ ?_⟩⟩;rintro B A σ H ρ n k D a kk ⟨w,e,r⟩;obtain⟨v,U,_,s3⟩:=a.env.val j w e;obtain⟨ad,rfl,hA,_,_⟩:=s3 O;exact⟨.ref ad,U,kk.nx _ _ H _ n (a.move O q F e U) r⟩
end
open PySem PySem.Spec L2
end L3
namespace L3
open PySem PySem.Spec L2
structure StOk (rm st:List Int):Prop where
 len:st.length=rm.length
 box:∀b:Int,0<=b->b<rm.length->0<=yV st b/\yV st b<yV rm b
def xm:∀ (ns:List Int),(∀n∈ns,1<=n)->((yh (ns.map zj)).length:Int)=yu ns:=by
 have:∀ (k:Nat) (ns:List Int),ns.length=k->(∀n∈ns,1<=n)->((yh (ns.map zj)).length:Int)=yu ns:=by
  intro k
  induction k with
  | zero=>intro ns e _;rw[bh e];rfl
  | succ k B=>
   intro ns e h
   obtain⟨m,x,rfl⟩:∃m x,ns=m++[x]:=by
    have q:ns≠[]:=by intro z;rw[z] at e;cases e
    exact⟨ns.dropLast,ns.getLast q,(bj q).symm⟩
   rw[aD] at e;rw[aE,aC,dQ,yW,uh,xN,yP];have h1:=B m (by simpa using e) λn D=>h n (bE _ D);have h2:=h x (aL _ (by simp));rw[eF,h1,eJ (by lia)]
 simp_all
def zaV:∀ {ns:List Int},(∀n∈ns,1<=n)->1<=yu ns:=λ{ns} h=>by
 have h1:=xm ns h
 have:∀ (ns:List Int) (a:Int),1<=a->(∀n∈ns,1<=n)->1<=ns.foldl (· * ·) a:=by
  intro ns
  induction ns with
  | nil=>intro a q _;exact q
  | cons n ns D=>
   intro a q B;refine D (a * n) ?_ λm F=>B m (ao _ F);have:=B n ak;exact Int.le_trans (by decide) (c6 q this (by decide) (by lia))
 exact this ns 1 (by decide) h
def zfy {ns:List Int}(q:ns≠[])(h:∀n∈ns,2<=n):2<=yu ns:=by
 obtain⟨m,x,rfl⟩:∃m x,ns=m++[x]:=⟨ns.dropLast,ns.getLast q,(bj q).symm⟩;rw[xN];have h1:=zaV (ns:=m) λn B=>by have:=h n (bE _ B);lia
 have h2:=h x (aL _ (by simp));exact Int.le_trans (by simp) (c6 h1 h2 (by decide) (by lia))
def zlE (a b:List Int)(k:Nat):Wi:=⟨((List.range a.length).filter λi=>!decide (i=k)).map λi:Nat=>((i:Int),a.getD i 0),(k:Int),b.getD k 0,a.getD k 0⟩
def zlF {rm a b:List Int}{k:Nat}(I:StOk rm a)(J:StOk rm b)(L:k<a.length)(D:a.getD k 0≠b.getD k 0):WishOk rm (zlE a b k):=by
 have O:=I.len
 have A:∀i:Nat,i<rm.length->0<=a.getD i 0/\a.getD i 0<yV rm (i:Int):=λi hi=>by have:=I.box (i:Int) (by lia) (by lia);rwa[yj] at this
 have Bb:∀i:Nat,i<rm.length->0<=b.getD i 0/\b.getD i 0<yV rm (i:Int):=λi hi=>by have:=J.box (i:Int) (by lia) (by lia);rwa[yj] at this
 have B:k<rm.length:=by lia
 refine⟨⟨λq F=>?_,?_⟩,by show (0:Int)<=(k:Int);lia,by show (k:Int)<_;lia,λq F=>?_,(Bb k B).1,(Bb k B).2,(A k B).1,(A k B).2,λz=>D z.symm⟩
 ·obtain⟨i,hi,rfl⟩:=az.mp F
  simp_all
 ·show List.Pairwise (λa b:Int×Int=>a.1<b.1) (((List.range a.length).filter λi=>!decide (i=k)).map λi:Nat=>((i:Int),a.getD i 0));rw[bS];refine List.Pairwise.imp (R:=λi j:Nat=>i<j) (λ{i j} h=>?_) (List.Pairwise.filter _ List.pairwise_lt_range)
  grind
 ·obtain⟨i,hi,rfl⟩:=az.mp F;have:=(bv.mp hi).2;show (i:Int)≠(k:Int)
  grind
def zuc (rm:List Int)(bk:List Wi)(g:List (Int×Int)):List (List Int):=(zuQ rm g).filter λst=>decide (zaF bk st (g.map (·.1))=[])
abbrev xi (bk:List Wi):Dt:=.tup (bk.map yw)
def xl (rm:List Int)(bk:List Wi):Prop:=∀x∈bk,WishOk rm x
abbrev F_bett:FV:=λ_ q n R=>∃rm bk st hs,q=[.d (stD rm),.d (xi bk),.d (stD st),.d (stD hs)]/\RoomOk rm/\xl rm bk/\st.length=rm.length/\R (.d (xL (zaz bk st hs))) n
abbrev ztE:FV:=λ_ q n R=>∃rm bk g,q=[.d (stD rm),.d (xi bk),.d (zeG g)]/\RoomOk rm/\xl rm bk/\Giv rm g/\R (.d (xL (zuc rm bk g))) n
def zak (r:Nat):zii 0 r=(List.range r).map λk:Nat=>W.d (.int (k:Int)):=by
 unfold zii
 simp_all
def zdF {ns:List Int}(F:ns.length<=8)(q:∀m∈ns,2<=m/\m<=4)(k:Nat):(yh ((ns.take k).map zj)).length<=65536:=by
 have:=zgS (cs:=ns.map zj) (by simp_all) (λc B=>by obtain⟨m,D,rfl⟩:=az.mp B;have:=q m D;rw[yP];lia) k
 simp_all
def zcc{q:List (List Int)}(h:i<q.length):q.getD i []∈q:=by simp_all
def zqH {L:List Dt}{a:Int}{G:Dt->Prop}(q:0<=a)(h1:a<L.length)(h:∀x∈L,G x):∃x,atI L a=some x/\G x:=by obtain⟨d,h2,B⟩:=zqI q h1;exact⟨d,h2,h d B⟩
def zbw:∀ {rm:List Int},(∀r∈rm,2<=r/\r<=4)->yu rm<=256->rm.length<=8:=λ{rm} B I=>by
 have:∀ (k:Nat) (rm:List Int),rm.length=k->(∀r∈rm,2<=r/\r<=4)->(2:Int) ^ k<=yu rm:=by
  intro k
  induction k with
  | zero=>intro rm e _;rw[bh e];decide
  | succ k F=>
   intro rm e B
   obtain⟨m,x,rfl⟩:∃m x,rm=m++[x]:=by
    have q:rm≠[]:=by intro z;rw[z] at e;cases e
    exact⟨rm.dropLast,rm.getLast q,(bj q).symm⟩
   rw[aD] at e;have h1:=F m (by simpa using e) λn D=>B n (bE _ D);have h2:=B x (aL _ (by simp));rw[xN,Int.pow_succ];have J:(0:Int)<=2 ^ k:=Int.pow_nonneg (by decide);exact c6 h1 h2.1 (by decide) (by lia)
 apply bJ;intro D;have h1:=this _ rm rfl B
 have h2:(2:Int) ^ 9<=2 ^ rm.length:=by
  have:(2:Nat) ^ 9<=2 ^ rm.length:=cE (by decide) (by lia)
  exact_mod_cast this
 grind
def zi7 {a b:List Int}(B:a.length=b.length)(q:a≠b):∃k zR,((List.range a.length).filter λk=>!decide (a.getD k 0=b.getD k 0))=k::zR/\k<a.length/\a.getD k 0≠b.getD k 0:=by
 cases h:(List.range a.length).filter λk=>!decide (a.getD k 0=b.getD k 0) with
 | nil=>
  exfalso;apply q;apply fH B
  simp_all
 | cons k zR=>
  have D:k∈(List.range a.length).filter λk=>!decide (a.getD k 0=b.getD k 0):=by rw[h];simp
  obtain⟨h1,h2⟩:=bv.mp D
  simp_all
def StOk.snoc {rm st:List Int}{w v:Int}(h:StOk rm st)(F:0<=v)(I:v<w):StOk (rm++[w]) (st++[v]):=by
 have J:=h.len;refine⟨by simp_all,λb q B=>?_⟩;rw[aD] at B;by_cases D:b<(rm.length:Int)
 ·rw[zbs q (by lia),zbs q D];exact h.box b q D
 ·have e:b=(rm.length:Int):=by
   have:b<(rm.length:Int)+1:=by simpa using B
   lia
  subst e;rw[zbr,<- J,zbr];exact⟨F,I⟩
def zil {sts q B:List (List Int)}{k w:Nat}(F:k<sts.length)(Y:sts.Nodup)(h1:q.Nodup)(h2:∀x∈q,∃a∈sts.take k,∃v:Int,0<=v/\v<w/\x=a++[v])(Z:q.length=k * w)(I:B.Perm ((List.range w).map λv:Nat=>sts.getD k []++[(v:Int)])) :
  (q++B).Nodup/\(∀x∈q++B,∃a∈sts.take (k+1),∃v:Int,0<=v/\v<w/\x=a++[v])/\(q++B).length=(k+1) * w:=by
 have J:sts.getD k []=sts[k]:=by simp[F]
 have ht:sts.take (k+1)=sts.take k++[sts[k]]:=zh (ah F)
 have L:∀x∈B,∃v:Int,0<=v/\v<w/\x=sts[k]++[v]:=λx D=>by
  obtain⟨v,hv,rfl⟩:=az.mp (I.mem_iff.mp D)
  simp_all
 have nB:B.Nodup:=by
  refine I.nodup_iff.mpr ?_;show List.Pairwise _ _;rw[bS];refine List.Pairwise.imp (λ{a b} h e=>h ?_) dX;have:=List.append_cancel_left e
  grind
 have ad:sts[k]∉sts.take k:=λz=>by have O:=Y;rw[<- dU k sts,c9 F] at O;exact (cr.mp O).2.2 _ z _ ak rfl
 refine⟨cr.mpr ⟨h1,nB,λx D y hy e=>?_⟩,λx D=>?_,?_⟩
 ·obtain⟨a,U,v,_,_,rfl⟩:=h2 x D;obtain⟨u,_,_,rfl⟩:=L y hy
  simp_all
 ·rw[ht];rcases aH.mp D with z | z
  ·obtain⟨a,U,r⟩:=h2 x z;exact⟨a,bE _ U,r⟩
  ·obtain⟨v,r⟩:=L x z;exact⟨_,aL _ (by simp),v,r⟩
 ·rw[aD,Z,I.length_eq,ab,aA,Nat.succ_mul]
def x9 {α q:Type}(f:α->q)(l:List α)(lo hi:Option Int):xE (l.map f) lo hi=(xE l lo hi).map f:=by
 unfold xE
 simp_all
def zb6 {α:Type}(l:List α)(lo hi:Option Int):(xE l lo hi).length<=l.length:=by unfold xE;rw[aQ,fG];lia
def zqS {st:List Int}{b w:Int}(q:0<=b):xE st none (some b)++[w]++xE st (some (b+1)) none=chg st b w:=by
 have h:=zn2 st (w:=w) q;have B:zcW (st.map V.int) none (some b)=(xE st none (some b)).map V.int:=by rw[<- x9];rfl
 have D:zcW (st.map V.int) (some (b+1)) none=(xE st (some (b+1)) none).map V.int:=by rw[<- x9];rfl
 rw[B,D] at h;have F:(xE st none (some b)).map V.int++[V.int w]++(xE st (some (b+1)) none).map V.int=(xE st none (some b)++[w]++xE st (some (b+1)) none).map V.int:=by rw[aE,aE];rfl
 rw[F] at h;exact List.map_inj_right (by grind) |>.mp h
def zic {l:List (List Int)}(h:l.Nodup){k:Nat}(q:k+1<l.length):l.getD k []≠l.getD (k+1) []:=by have:=b8.mp h k (k+1) (by lia) q (by lia);simpa [show k<l.length by lia,q] using this
def xl.app{rm:List Int}(h:xl rm bk)(h':xl rm q):xl rm (bk++q):=λx B=>(aH.mp B).elim (h x) (h' x)
def xl.set{rm:List Int}(h:xl rm bk)(q:WishOk rm x)(i:Nat):xl rm (bk.set i x):=λy B=>(List.mem_or_eq_of_mem_set B).elim (h y) λe=>e ▸ q
def xl.ins{rm:List Int}(h:xl rm bk)(q:WishOk rm x)(i:Nat):xl rm (znm bk i x):=λy B=>by
 rcases aH.mp B with z | z
 ·exact h y (bX z)
 ·rcases aG.mp z with rfl | z
  ·exact q
  ·exact h y (List.mem_of_mem_drop z)
def zoA {α q:Type}(f:α->q)(l:List α)(i:Nat)(x:α):znm (l.map f) i (f x)=(znm l i x).map f:=by
 unfold znm
 simp_all
def zoz {α:Type}(l:List α)(i:Nat)(x:α):(znm l i x).length=l.length+1:=by
 unfold znm
 grind
def zlL (n:Nat):List Int:=(List.range n).map λi:Nat=>(i:Int)
def zkE (n:Nat):zeu n=(zlL n).map Dt.int:=by unfold zeu zlL;rw[au];rfl
def unI:Dt->Int
 | .int i=>i
 | _=>0
def zbS {α:Type}(l:List α)(k:Nat):xE l none (some (k:Int))=l.take k:=by
 unfold xE;rw[HT.sIx_none,HT.sIx_nat,eW,fO]
 grind
def zat:∀ (ns st:List Int),st∈yh (ns.map zj)->StOk ns st:=by
 have:∀ (k:Nat) (ns:List Int),ns.length=k->∀st,st∈yh (ns.map zj)->StOk ns st:=by
  intro k
  induction k with
  | zero=>
   intro ns e st q;rw[bh e] at q ⊢;rw[aw.mp q];exact⟨rfl,λb O D=>absurd D (by simp;lia)⟩
  | succ k F=>
   intro ns e st q
   obtain⟨m,x,rfl⟩:∃m x,ns=m++[x]:=by
    have B:ns≠[]:=by intro z;rw[z] at e;cases e
    exact⟨ns.dropLast,ns.getLast B,(bj B).symm⟩
   rw[aD] at e;rw[aE,aC,dQ,yW] at q;obtain⟨r,I,q⟩:=fM.mp q;obtain⟨v,J,rfl⟩:=az.mp q;obtain⟨j,L,rfl⟩:=az.mp J;have:=aW.mp L;exact (F m (by simpa using e) r I).snoc (by lia) (by lia)
 simp_all
def zhL:∀ (B st:List Int),ziW (B.map Dt.int) (st.map Dt.int)=(B.zip st).map λq=>W.d (zan q)
 | [],_=>by cases ‹List Int› <;> rfl
 | _::_,[]=>rfl
 | q::B,s::st=>by show _::ziW (B.map Dt.int) (st.map Dt.int)=_::_;rw[zhL B st];rfl
def zgB {κ:Type}[DecidableEq κ](kvs:List (κ×Dt))(k:κ)(d:Dt):(zeI kvs k d).length<=kvs.length+1:=by
 unfold zeI;split
 all_goals simp_all
def zdi (bk:List Wi)(x:Wi)(st hs:List Int):zaF (bk++[x]) st hs=zaF bk st hs++(if (zbc st x&&!hs.contains x.b)=true then [chg st x.b x.r] else []):=by
 unfold zaF
 grind
def zn1{st:List Int}{b x:Int}(q:0<=b)(B:st.length<=1000)(h:Q (.d (stD (chg st b x))) n):zf5 (.d (.tup (xE (st.map Dt.int) none (some b)))) (.d (.tup [.int x])) n λw m=>zf5 w (.d (.tup (xE (st.map Dt.int) (some (b+1)) none))) m Q:=by
 have D:=zb6 st none (some b);have F:=zb6 st (some (b+1)) none;rw[x9,x9];refine⟨_,_,rfl,rfl,by rw[ab];exact ay (by simp;lia:_<=1001) (by decide),_,_,rfl,rfl,by rw[aD,ab,ab];exact ay (by simp;lia:_<=2001) (by decide),?_⟩
 have e:(xE st none (some b)).map Dt.int++[Dt.int x]++(xE st (some (b+1)) none).map Dt.int=(chg st b x).map Dt.int:=by rw[<- zqS q,aE,aE];rfl
 rw[e];exact h
section
variable {X:Cx}{Pn:Option zr}{M S:List Nat}{fr fr':Bool}{e a b c:Expr}{es:List Expr}{f fa fb fc:Ev->Mo W}{pos p:Pos}
def zjY (t:Ev->Mo Bool)(fb:Ms):Ms:=λρ n k=>∃I:Nat->Ev->Nat->Prop,(∃m,I m ρ n)/\
 ∀m q J,I m q J->t q J λb L=>if b=true then fb q L { k with nx:=λB F=>∃D,D<m/\I D B F,ct:=λB F=>∃D,D<m/\I D B F,bk:=k.nx } else k.nx q L
def zhd {body:List Stmt}{t:Ev->Mo Bool}{fb:Ms}(hp:PassesOwn (model X.prog X.w) X.A X.env X.xe)(hc:JT X Pn M c t)(hb:JSs X Pn S M fr body fb):JS X Pn S M fr (.While c body [] pos) (zjY t fb):=by
 obtain⟨tc,qc,rc⟩:=hc.ex;obtain⟨tb,qb,rb⟩:=hb.ex;refine⟨_,⟨zmt hp qc.run qb.run⟩,⟨ ?_⟩⟩;rintro B A σ H ρ n k D a kk ⟨I,⟨m0,i0⟩,it⟩;refine⟨λm F H'=>∃A' q O,At3 Pn B S M A' F H' q O/\I m q O,⟨m0,A,ρ,n,a,i0⟩,?_⟩;rintro m F H' ⟨A',q,O,a',hI⟩;refine rc.run A' F H' q O _ _ a'.env a'.pn (it m q O hI) λb n2 H2 r g=>?_;have a2:=a'.step g
 cases b with
 | false=>
  rw[if_neg (by decide)] at r ⊢;exact kk.nx A' F H2 q n2 a2 r
 | true=>
  rw[if_pos rfl] at r ⊢;refine⟨λZ H3=>∃A' q O,At3 Pn B S M A' Z H3 q O/\∃L,L<m/\I L q O,λZ H3 ⟨A3,ad,n3,a3,L,hm,h⟩=>⟨L,hm,A3,ad,n3,a3,h⟩,?_⟩;refine rb.run B A' F H2 q n2 { k with nx:=λU n3=>∃L,L<m/\I L U n3,ct:=λU n3=>∃L,L<m/\I L U n3,bk:=k.nx } _ a2 ⟨?_,?_,?_,kk.fc,?_⟩ r
  ·exact λA4 Y H4 J n4 a4 r4=>⟨A4,J,n4,a4,r4⟩
  ·exact λA4 Y H4 J n4 a4 r4=>kk.nx A4 Y H4 J n4 a4 r4
  ·exact λA4 Y H4 J n4 a4 r4=>⟨A4,J,n4,a4,r4⟩
  ·exact kk.rt
def zk8{t:Ev->Mo Bool}{fb:Ms}{ρ:Ev}{k:Kt}(I:Nat->Ev->Nat->Prop)(J:Nat)(U:I J ρ n)(h:∀m q L,I m q L->t q L λb O=>if b=true then fb q O { k with nx:=λB F=>∃D,D<m/\I D B F,ct:=λB F=>∃D,D<m/\I D B F,bk:=k.nx } else k.nx q O):zjY t fb ρ n k:=⟨I,⟨J,U⟩,h⟩
end
end L3
namespace L2
open PySem PySem.Spec PyProof.Rows
def zcZ(ke ve gens scope pos):eval (.DictComp ke ve gens scope pos) env=comprehension (.DictComp ke ve gens scope pos) scope env (firstIterPos gens pos) newDict (firstAsync gens) (firstIter gens env):=rfl
def zdQ (ke ve target iter:Expr)(ifs:List Expr)(scope:Scope)(pos:Pos)(it:Value)(d:Addr)(env:Env) :
  compTurn (.DictComp ke ve [⟨target,iter,ifs,0⟩] scope pos) 0 it (.ref d) env=(do
   standAt iter.pos
   match <- pyNext it with
   | none=>pure (.done .next)
   | some v=>
    letOwnedTupleGo target it v
    assign target env v
    let mut ok:=true
    for c in ifs do
     if ok then ok <- isTrue c env (eval c env)
    if ok then
     (do
      let kv <- eval ke env
      let vv <- holding [kv] (eval ve env)
      standAt { ke.pos with endLine:=ve.pos.endLine,endCol:=ve.pos.endCol }
      holding [kv,vv] (dictSet d kv vv))
    again (.compLoop (.DictComp ke ve [⟨target,iter,ifs,0⟩] scope pos) 0 it (.ref d) env)):=by rfl
section
variable {prog:Program}{w:World}{A:Around}{E:Value->Shared->Prop}{R:Result->Shared->Prop}{s:Shared}
def uS {ke ve target iter ifs zR scope pos it acc env}
  (h0:codeAny (model prog w) A (.compLoop (.DictComp ke ve (⟨target,iter,ifs,0⟩::zR) scope pos) 0 it acc env) R s)
  (h:wpAny (model prog w) A (pyIter it) (λit' s'=>codeAny (model prog w) A (.compLoop (.DictComp ke ve (⟨target,iter,ifs,0⟩::zR) scope pos) 0 it' acc env) R s')
   (notedBy (model prog w) A env λx s'=>R (.error x) s') s) :
  codeAny (model prog w) A (.compStart (.DictComp ke ve (⟨target,iter,ifs,0⟩::zR) scope pos) 0 it acc env) R s:=by
 refine dr ?_;show wpAny _ _ ((compStart (.DictComp ke ve (⟨target,iter,ifs,0⟩::zR) scope pos) 0 it acc env).onRaise (λx=>do noteFrame x env;standAt theWindowsPlace)) _ _ s;refine wpAny_notedAt ?_;unfold compStart;show wpAny _ _ (ask >>= _) _ _ s;refine aa (bm (wpAny_ite ?_));split
 ·first
   | exact aa (by grind)
   | exact ae (And.intro rfl h0)
 ·first
   | exact aa (by grind)
   | (refine aa (dG ?_);show wpAny _ _ (standAt iter.pos >>= _) _ _ s;exact aa (bM (aa (aU h (λit' s' h'=>ae (And.intro rfl h')) λ_ _ x=>x))))
def zbb(I:Nat->Shared->Prop)(turn:∀n s,I n s->wpAny (model prog w) A (pyNext it) (λr s₁=>match r with
   | none=>R (.ok .next) s₁
   | some v=>wpAny (model prog w) A (letOwnedTupleGo target it v) (λ_ s₂=>wpAny (model prog w) A (assign target env v) (λ_ s₃=>
     wpAny (model prog w) A (forIn ifs true λc r=>if r=true then do let ok <- isTrue c env (eval c env);pure (ForInStep.yield ok) else pure (ForInStep.yield r)) (λok s₄=>
      if ok=true then wpAny (model prog w) A (eval ke env) (λx s₅=>wpAny (model prog w) A (eval ve env) (λy s₆=>
       wpAny (model prog w) A (dictSet d x y) (λ_ s₇=>∃m,m<n/\I m s₇) (λ_ _=>False) s₆) (λ_ _=>False) s₅) (λ_ _=>False) s₄
      else ∃m,m<n/\I m s₄) (λ_ _=>False) s₃) (λ_ _=>False) s₂) (λ_ _=>False) s₁) (λ_ _=>False) s)(n:Nat)(h:I n s) :
  codeAny (model prog w) A (.compLoop (.DictComp ke ve [⟨target,iter,ifs,0⟩] scope pos) 0 it (.ref d) env) R s:=by
 refine eQ rfl I (λn s hI=>?_) n h;show wpAny _ A ((compTurn (.DictComp ke ve [⟨target,iter,ifs,0⟩] scope pos) 0 it (.ref d) env).onRaise (λx=>do noteFrame x env;theTreesLotGoes x)) _ _ s;refine fj ?_;rw[zdQ];refine aa (bM (aa (aU (turn n s hI) (λr s₁ h₁=>?_) λ_ _ h'=>h'.elim)))
 cases r with
 | none=>exact ae h₁
 | some v=>
  refine aa (aU h₁ (λ_ s₂ h₂=>?_) λ_ _ h'=>h'.elim);refine aa (aU h₂ (λ_ s₃ h₃=>aa (aU h₃ (λok s₄ h₄=>?_) λ_ _ h'=>h'.elim)) λ_ _ h'=>h'.elim)
  cases ok with
  | false=>exact ae ⟨rfl,h₄⟩
  | true=>
   refine aa (aa (aU h₄ (λx s₅ h₅=>?_) λ_ _ h'=>h'.elim));refine aa (be (aU h₅ (λy s₆ h₆=>?_) λ_ _ h'=>h'.elim));refine aa (bM (be (aU h₆ (λ_ s₇ h₇=>?_) λ_ _ h'=>h'.elim)));exact ae ⟨rfl,h₇⟩
def zh9(h:Q (.ref s.heap.objs.size) { s with heap:=s.heap.push { cls:=.type "dict",data:=.dict #[] } }):wpAny (model prog w) A (newDict) Q E s:=by simp only[newDict,newObj];exact aa (wpAny_alloc (ae h))
end
section
variable {X:Cx}{pins:List (Addr×Obj)}{σ:St}{H:Hp}{s:Shared}{a:Addr}{y v:V}{u r:Value}{o:Option V}{A:Around}{E:Value->Shared->Prop}
def zeU(hu:A.units+1<cLine)(I:Inv X pins σ H s)(g:zcT H a y v H')(Y:yG y u)(Z:yG v r)(h:∀s',Inv X pins σ H' s'->Q () s') :
  wpAny (model X.prog X.w) A (dictSet a u r) Q E s:=by
 rcases g with ⟨kvs,k,e,ey,l,eH⟩ | ⟨kvs,k,b,e,ey,eb,l,eH⟩
 ·subst ey eH;obtain⟨z,J,vs,B,L⟩:=zoc I.hok e;have O:vs.length<=sizeLine:=by rw[<- B.length];exact z
  have U:(zao kvs k v).length<=sizeLine:=by have:=xQ kvs k v;lia
  refine wpAny_dictSet_pairs (hsz:=O) (zjH Y) L λh' D hs=>h _ ?_;have he:∃q,h'.get? a=some q:=let ⟨q,_,_,F,_⟩:=D;⟨q,F⟩;exact zb8 I (by rw[e];exact True.intro) hs he (zi8 U J (B.put k Z) D)
 ·subst ey eH;cases (show u=Value.ref b from Y);obtain⟨z,J,xs,B,L⟩:=zq9 I.hok e;have O:xs.length<=sizeLine:=by rw[<- eh B];exact z
  have U:(zao kvs k v).length<=sizeLine:=by have:=xQ kvs k v;lia
  refine wpAny_dictSet_heap (hsz:=O) (Nat.lt_of_succ_lt hu) (zhj I.hok eb) L λh' D hs=>h _ ?_;obtain⟨q,es,ep,F,h2,h3,h4,_,h5⟩:=D;refine zb8 I (by rw[e];exact True.intro) hs ⟨q,F⟩ ⟨U,J,_,(B.put k eb Z).keeps λc ys ec=>?_,q,es,ep,F,h2,h3,h4,h5⟩;rw[zg (by grind)];exact ec
end
def zur (g:TG)(ti:TT)(tk tv:TE)(acc:Addr)(N:St->Hp->Prop)(x:V)(σ:St)(H:Hp):Prop:=
 g x σ H λq H3=>ti q H3 λB H4=>if B=true then tk q H4 λy H5=>tv q H5 λv H6=>∃H7,zcT H6 acc y v H7/\N q H7 else N q H4
def zuq (J:It)(g:TG)(ti:TT)(tk tv:TE)(acc:Addr)(Q:VK)(σ:St)(H:Hp):Prop:=∃W:Nat->Nat->St->Hp->Prop,(∃m,W 0 m σ H)/\
 ∀i m q H',W i m q H'->(J.stop i H'/\Q (.ref acc) H')\/(J.go i H'/\∃N:St->Hp->Prop,(∀ B H2,N B H2->∃D,D<m/\W (i+1) D B H2)/\∀x H2,J.yld i H' x H2->zur g ti tk tv acc N x q H2)
def zhH (o0:HO)(wi:TI)(g:TG)(ti:TT)(tk tv:TE)(cix:List (Option Nat)):TE:=λσ H Q=>wi σ H λJ H1=>∀acc,H1 acc=none->zuq J g ti tk tv acc Q (zaB σ cix) (upd H1 acc o0)
section
variable {X:Cx}{Fam:Cx->Prop}{scope:Scope}{N:List Str}{cix:List (Option Nat)}{z:Str}{use:Option (Value->Sem Unit)}{Qp:Value->Shared->Prop}{elt ke ve tg iter tg2 iter2:Expr}{ifs ifs2:List Expr}{pos ipos spos px:Pos}{wi wi2:TI}{g g2:TG}{ti ti2:TT}{te tk tv:TE}{pins:List (Addr×Obj)}{σ:St}{H:Hp}{s:Shared}{Q:VK}{o0:HO}
def zeX (U:o0 = .dK []\/o0 = .dT [])(hu:X.A.units+1<cLine)(O:Opn X scope cix Fam)(hc:X.calm=true)(hi:PI X tg iter wi)(hg:∀X',Fam X'->PG X' tg g)(ht:∀X',Fam X'->PTs X' ifs ti)(hk:∀X',Fam X'->PE X' ke tk)(hv:∀X',Fam X'->PE X' ve tv)(hs:∀x,foldedSetIterable iter X.env x=pure x)(I:Inv X pins σ H s)
  (h:zhH o0 wi g ti tk tv cix σ H Q) (D:zt4 X pins σ use Qp Q) :
  wpAny (model X.prog X.w) X.A (comprehension (.DictComp ke ve [⟨tg,iter,ifs,0⟩] scope pos) scope X.env ipos newDict false (eval iter X.env) use) Qp X.xe s:=
 zaD (ob:={ cls:=.type "dict",data:=.dict #[] }) (o0:=λ_=>o0) (Fin:=λacc H=>Q (.ref acc) H) (B:=λX' acc P s=>wpAny (model X'.prog X'.w) X'.A (eval ke X'.env) (λx s5=>wpAny (model X'.prog X'.w) X'.A (eval ve X'.env) (λy s6=>wpAny (model X'.prog X'.w) X'.A (dictSet acc x y) (λ_ s7=>P s7) (λ_ _=>False) s6) (λ_ _=>False) s5) (λ_ _=>False) s) (tb:=λacc Nx σ H=>tk σ H λy H5=>tv σ H5 λv H6=>∃H7,zcT H6 acc y v H7/\Nx σ H7) O hc rfl hs (λ_ _ _ _ _ h0 h1=>uS h0 h1) (λ_ _ _ _ _ _ I F n h=>zbb I F n h) (λs Q h=>zh9 h) (λ{_ _ _ s} I _=>by
  rcases U with rfl | rfl
  ·exact zdT s.heap I.big
  ·exact zg2 s.heap I.big) hi hg ht (λX' hF pX wX AX _ xX acc pl s σ H Nx P I q k=>by
  have e9:=hk X' hF pl s σ H _ I q;rw[xX] at e9;refine thn e9 ?_;rintro u2 Y ⟨y,H10,I10,Z,ad⟩;have L:=hv X' hF pl Y σ H10 _ I10 ad;rw[xX] at L;refine thn L ?_;rintro u3 al ⟨v,H11,I11,ag,H12,dp,nx⟩;exact zeU (by rw[AX];exact hu) I11 dp Z ag λs' I'=>k _ _ _ I' nx) I h (λJ H1 acc q hn=>q acc hn) D
end
def zgC{X:Cx}{tk tv:TE}{ifs:List Expr}{scope:Scope}{wi:TI}{g:TG}{ti:TT}{N:List Str}{o0:HO}(B:o0 = .dK []\/o0 = .dT [])(D:X.A.units+1<cLine)(F:X.calm=true)(c:CompOk X scope N cix)(hi:QI X tg iter wi)(J:∀C s H ex,QG (zw X scope N C s H ex) tg g)(L:∀C s H ex,QTs (zw X scope N C s H ex) ifs ti)(O:∀C s H ex,QE (zw X scope N C s H ex) ke tk)(U:∀C s H ex,QE (zw X scope N C s H ex) ve tv)(hs:∀x,foldedSetIterable iter X.env x=pure x:=by intro _;rfl):QE X (.DictComp ke ve [⟨tg,iter,ifs,0⟩] scope pos) (zhH o0 wi g ti tk tv cix):=⟨λpins s σ H Q I h=>by
 rw[zcZ];exact zeX B D (ut c) F hi.run (zbT λC s H ex=>(J C s H ex).run) (zbT λC s H ex=>(L C s H ex).run) (zbT λC s H ex=>(O C s H ex).run) (zbT λC s H ex=>(U C s H ex).run) hs I h λ_ _ _ _ _ Y Z q=>zdU Y Z q⟩
def zff:typeLookup (.type "list") "keys" = pure none:=by rw[typeLookup_type,dS];kernel_rfl
def zcV {prog:Program}{w:World}{A:Around}{E:Value->Shared->Prop}{s:Shared}{a:Addr}{xs:Array Value}{k:Nat}{name:Str}{Q:Option Value->Shared->Prop}
  (hx:s.heap.get? a=some { cls:=.type "list",data:=.seq xs k }) (hmiss:typeLookup (.type "list") name=pure none) (hname:(["__module__","__name__","__qualname__","__doc__","__annotations__"]:List Str).contains name=false) (hA:A.handled=none)
  (h:∀h' tk e,Heap.NewExcOf s.heap h' e "AttributeError" -> Q none { s with heap:=h',toks:=tk }) (hsz:name.length+100<=sizeLine:=by size_fits) :
  wpAny (model prog w) A (getAttr? (.ref a) name) Q E s:=by
 obtain⟨hp,g,d,tk,os⟩:=s;have hT:∀tk',(⟨hp,g,d,tk',os⟩:Shared).TypeIs (.ref a) "list" := λ_=>⟨_,hx,rfl⟩;have f1:=sub_AttributeError;have f3:=F.slot_list_getattribute.lookup;have f4:=F.slot_list_getattribute.bind (.ref a);have f5:=am_list_getattr_none;unfold getAttr? getAttrBy? getAttrBy
 repeat (any_goals (first | assumption | exact hT _ | ((with_reducible show wpAny _ _ (call (Value.builtin "list.__getattribute__") _ _) _ _ _);refine dF F.slot_list_getattribute (hT _) am_entry_list_getattribute (F.args_list_getattribute_2 _ _) (meets_getattribute_miss_list a xs k #[] name _ hmiss hname hsz) ⟨hx,hA,λh' tk e hx'=>?_⟩) | wp_step))
 obtain⟨t',u',he⟩:=hx'.there;show wpAny _ _ (getattributeRaised _ _ _ _ _ _ _) _ _ _;unfold getattributeRaised
 repeat (any_goals (first | assumption | wp_step))
 exact h _ _ _ hx'.of
section
variable {X:Cx}{pins:List (Addr×Obj)}{σ:St}{H:Hp}{A:Around}
abbrev Pr:=Addr×Addr×List Int×V
structure PrL (H:Hp)(l:Addr)(ps:List Pr):Prop where
 at':H l=some (.lst (ps.map λq=>V.ref q.1))
 one:∀q∈ps,H q.1=some (.tup [.ref q.2.1,q.2.2.2])/\H q.2.1=some (.tup (q.2.2.1.map V.int))
 nd:(ps.map (·.2.2.1)).Nodup
 few:ps.length<=500000
def prK (ps:List Pr):List (List Int×V):=ps.map λq=>(q.2.2.1,q.2.2.2)
def zpu(h:q.2.2.1∉ps.map (·.2.2.1)):zao (prK ps) q.2.2.1 q.2.2.2=prK (ps++[q]):=by
 rw[zmw]
 ·unfold prK;rw[aE];rfl
 ·unfold za6 prK;rw[eU.mpr]
  ·rfl
  ·intro x B;obtain⟨y,D,rfl⟩:=az.mp B;intro e;exact h (az.mpr ⟨y,D,b7 e⟩)
def zhW(hh:A.in1.handled=none)(hu:A.in1.units+1<cLine)(J:PrL H l ps)(hD:H D=none)(hf:zeF X pins H F)(L:F≠D) :
  ∀ (k i:Nat) (s:Shared) (j:Int) (Z:Tok),ps.length - i=k->i<=ps.length->s.heap.IsListIter F l i->Inv X pins σ (upd H D (dtO (prK (ps.take i)))) s->
   (∀s',Inv X pins σ (upd H D (dtO (prK ps))) s'->R (.ok (.ret .none)) s')->
   codeAny (model X.prog X.w) A (.builtin "dict.update.loop" ⟨[.ref D,.ref F,.int j Z,.none],[]⟩) R s:=by
 have Y:∀ {b o},H b=some o->b≠D:=λ{b o} e z=>by rw[z,hD] at e;cases e
 obtain⟨f0,f1,f2,f3,f4,f5⟩:=hf;intro k
 induction k with
 | zero=>
  intro i s j Z hk hi hI I hR;have ad:i=ps.length:=by lia
  subst ad;rw[aK] at I;obtain⟨its,rv,p,hz⟩:=I.list (show SqL X.K _ l (ps.map λq=>V.ref q.1) from .of (by rw[zg (Y J.at')];exact J.at'));refine cU xk ?_;rw[cF z9 _];show wpAny _ A.in1 (pyNext (.ref F) >>= _) _ _ s;have hl:=rv.length;rw[ab] at hl;refine aa (dO hh hI p.isList (by simp;lia) λh' hx=>?_);show wpAny _ A.in1 (Builtin.Dict.addKeywords D [] >>= _) _ _ _;refine aa (ae (ae (hR _ (I.turned (t':=s.toks) (λb o U e=>hx b o U e) (by rw[zg L];exact f0) f1 f3 f4 f5))))
 | succ k ih=>
  intro i s j Z hk hi hI I hR;have B:i<ps.length:=by lia
  have ag:ps[i]∈ps:=bO B;obtain⟨o1,o2⟩:=J.one _ ag;obtain⟨its,rv,p,hz⟩:=I.list (show SqL X.K _ l (ps.map λq=>V.ref q.1) from .of (by rw[zg (Y J.at')];exact J.at'));have al:(ps.map λq=>V.ref q.1)[i]?=some (V.ref ps[i].1):=by rw[am,ah B];rfl
  obtain⟨u,an,ru⟩:=rv.get al;cases ru;refine cU xk ?_;rw[cF z9 _];show wpAny _ A.in1 (pyNext (.ref F) >>= _) _ _ s;refine aa (dA hI p.isList (x:=.ref ps[i].1) (by simpa using an) λh1 ap as=>?_);have I1:Inv X pins σ (upd H D (dtO (prK (ps.take i)))) { s with heap:=h1 }:=I.turned (t':=s.toks) (λb o U e=>(as.2 b U).trans e) (by rw[zg L];exact f0) f1 f3 f4 f5;obtain⟨_,us,O,ob,ho,hc,⟨n,hd⟩,_⟩:=(show yp X.prog X.w _ h1 ps[i].1 (.tup [.ref ps[i].2.1,ps[i].2.2.2]) from I1.hok _ _ (by rw[zg (Y o1)];exact o1))
  cases O with
  | cons rk O=>
   cases O with
   | @cons _ uv _ _ ru rn=>
    cases rn;cases rk;have hT:Shared.TypeIs { s with heap:=h1 } (.ref ps[i].1) "tuple" := ⟨ob,ho,hc⟩;refine aa (be ?_);refine aa (wpAny_tryCatch ?_);unfold Builtin.Dict.pairItems;refine aa (cC hT ?_);rw[if_pos (by decide)];refine aa (zcP ho hd ?_);refine ae ?_;show wpAny _ _ (holding [Value.ref ps[i].2.1,uv] (dictSet D (Value.ref ps[i].2.1) uv)) _ _ _;refine be ?_;have a1:zeF X pins (upd H D (dtO (prK (ps.take i)))) F:=⟨by rw[zg L];exact f0,f1,f2,f3,f4,f5⟩;obtain⟨oi,oe,oc,od⟩:=id ap;have I2:=I1.pinned (fp:=[F]) (λb U=>by simp_all) (λb U=>by simp_all);have av:(prK (ps.take i)).length<sizeLine:=by unfold prK;rw[ab,aQ,bQ];have:=J.few;lia
    refine zeU hu I2 (zcT.i (st:=ps[i].2.2.1) zk (by rw[zg (Y o2)];exact o2) av) rfl ru λs3 I3=>?_;rw[zqr,zpu (ps:=ps.take i) (q:=ps[i]),<- zh (ah B)] at I3
    ·refine ae ⟨fE z9 _,ih (i+1) _ (j+1) _ (by lia) B ?_ I3.unpinned hR⟩;exact⟨oi,(I3.pin (F,oi) (aL _ (aL _ (zai (by simp) oe)))).1,oc,od⟩
    ·have:=J.nd;intro z;obtain⟨y,hy,e⟩:=az.mp z;obtain⟨j,hj,e2⟩:=bz.mp hy;rw[aQ] at hj;have a0:j<ps.length:=by lia
     have e3:ps[j]=y:=by rw[<- e2,dN]
     have:=(cg (h₀:=by rw[ab];exact a0) (h₁:=by rw[ab];exact B) J.nd).mp (by simp_all);lia
def znB:List V->Hp->VK->Prop:=λxs H Q=>∃ (l:Addr) (ps:List Pr),xs=[.ref l]/\PrL H l ps/\New H (dtO (prK ps)) Q
def zls (hc:X.calm=true)(hu:X.A.units+64<cLine):CallQ X (.type "dict") znB:=⟨by
 intro pins s σ H xs us Q I rr U;obtain⟨l,ps,rfl,Y,q⟩:=U;obtain⟨u,rfl,ru⟩:=zay rr;cases ru;have Z:H s.heap.objs.size=none:=I.hok.fresh (ai _);refine callType_codes (Q₁:=λJ B=>J = .ref s.heap.objs.size/\B={ s with heap:=s.heap.push { cls:=.type "dict",data:=.dict #[] } }) F.kt_called_dict (F.kt_typeCall_dict_1 _) F.entry_dict_init (kt_code_dict_new _ ⟨rfl,rfl⟩) ?_;rintro J B ⟨rfl,rfl⟩;have D:(s.heap.push { cls:=.type "dict",data:=.dict #[] }).get? s.heap.objs.size=some { cls:=.type "dict",data:=.dict #[] }:=aq _ rfl;have L:Shared.TypeIs { s with heap:=s.heap.push { cls:=.type "dict",data:=.dict #[] } } (.ref s.heap.objs.size) "dict" := ⟨_,D,rfl⟩;have nD:∀ {b o},H b=some o->b≠s.heap.objs.size:=λ{b o} e z=>by rw[z,Z] at e;cases e
 have I1:Inv X pins σ (upd H s.heap.objs.size (dtO [])) { s with heap:=s.heap.push { cls:=.type "dict",data:=.dict #[] } }:=I.laid (t':=s.toks) (λb o e=>af _ e) (ai _) ⟨aN _,eA.mpr (Ne.symm (aJ I.big)),[],.nil,_,#[],0,D,⟨rfl,rfl,rfl⟩,rfl,rfl,.nil⟩;obtain⟨hz,its,n,rv,ho⟩:=(show yp X.prog X.w _ _ l (.lst _) from I1.hok l _ (by rw[zg (nD Y.at')];exact Y.at'));have ad:Shared.TypeIs { s with heap:=s.heap.push { cls:=.type "dict",data:=.dict #[] } } (.ref l) "list" := ⟨_,ho,rfl⟩;refine⟨L,F.args_dict_init_2 _ _,?_⟩;unfold Builtin.«dict.__init__»;refine aa ?_;unfold Builtin.Dict.selfAndRest;refine aa (wpAny_notOrdered_dict L ?_);show wpAny _ _ (pure (s.heap.objs.size,[Value.ref l])) _ _ _;refine ae ?_;show wpAny _ _ (Builtin.Dict.updateFrom "dict.__init__" s.heap.objs.size (.ref l) [] .none) _ _ _;unfold Builtin.Dict.updateFrom;refine aa (cC ad ?_);rw[if_pos (by decide)];have U:X.A.handled=none:=I.ok.hd hc;refine aa (zcV ho zff (by decide) (by simp[U]) (λh2 tk e hx=>?_) (by decide));rw[if_pos (by rfl)];refine aa (dG ?_);have I2:Inv X pins σ (upd H s.heap.objs.size (dtO [])) { s with heap:=h2,toks:=tk }:=I1.kept (t':=tk) hx.keeps;refine aa (cV (s:={ s with heap:=h2,toks:=tk }) (items:=its.toArray) ⟨_,hx.keeps _ _ ho,rfl,n,rfl⟩ ?_);have I3:Inv X pins σ (upd H s.heap.objs.size (dtO (prK (ps.take 0)))) _:=I2.kept (t':=tk) (h':=h2.push { cls:=.type "list_iterator",data:=.fields #[.ref l,.int 0 0] }) λb o e=>af _ e;have O:s.heap.objs.size<h2.objs.size:=ax (hx.keeps _ _ D);refine ae ⟨fE z9 _,?_⟩;refine zhW (X:=X) (pins:=pins) (σ:=σ) (H:=H) (A:=X.A.in1) (ps:=ps) (l:=l) (by simp[U]) (by lia) Y Z ?_ (Ne.symm (aJ O)) (ps.length - 0) 0 _ _ _ rfl (aN _) ⟨_,aq _ rfl,rfl,rfl⟩ I3 λs' I'=>⟨rfl,?_⟩
 ·have:=I2.fpOk (H':=H) (b:=h2.objs.size) (ai _) ?_
  ·exact this
  ·have:=I2.hok.fresh (ai h2.objs.size);rwa[zg (Ne.symm (aJ O))] at this
 ·exact⟨.ref s.heap.objs.size,_,I',rfl,q.at Z⟩⟩
end
def zmG{X:Cx}{ifs:List Expr}{scope:Scope}{pos spos:Pos}{wi:TI}{g:TG}{ti:TT}{tk tv:TE}{o0:HO}{N:List Str}{nx:Str}(q:o0 = .dK []\/o0 = .dT [])(Y:X.A.units+1<cLine)(B:X.N.Nodup)(F:X.N[ix]?=some nx)(J:X.env.scope.names.lookup nx=some .local)(Z:X.calm=true)(c:CompOk X scope N cix)(hi:QI X tg iter wi)(hg:∀C s H ex,QG (zw X scope N C s H ex) tg g)(ht:∀C s H ex,QTs (zw X scope N C s H ex) ifs ti)(hk:∀C s H ex,QE (zw X scope N C s H ex) ke tk)(hv:∀C s H ex,QE (zw X scope N C s H ex) ve tv)(L:swapsWithSole [.Name nx px] (.DictComp ke ve [⟨tg,iter,ifs,0⟩] scope pos) spos.line X.env=pure true:=by rfl)(hs:∀x,foldedSetIterable iter X.env x=pure x:=by intro _;rfl)(O:(assignEach [.Name nx px] X.env).map (·.2)=[assign (.Name nx px) X.env]:=by rfl):QS X (.Assign [.Name nx px] (.DictComp ke ve [⟨tg,iter,ifs,0⟩] scope pos) spos) (zfP (zhH o0 wi g ti tk tv cix) (uW ix)):=⟨λpins s σ H D I h=>zdG B F J L O (λ_=>rfl) λU Qp hf=>zeX (Q:=λv H=>D.nx (σ.set ix (some v)) H) q Y (ut c) Z hi.run (zbT λC s H ex=>(hg C s H ex).run) (zbT λC s H ex=>(ht C s H ex).run) (zbT λC s H ex=>(hk C s H ex).run) (zbT λC s H ex=>(hv C s H ex).run) hs I h hf⟩
end L2
namespace L3
open PySem PySem.Spec L2
section
variable {X:Cx}{Pn:Option zr}{M S:List Nat}{fr fr':Bool}{e a b c:Expr}{es:List Expr}{f fa fb fc:Ev->Mo W}{pos p:Pos}
def zj9 (ks:List (List Int×V)):NP (dtO ks):=λ_ e=>by cases e
def zng (mg:W->Ev->(Ev->Prop)->Prop)(L:Ev->Mo Bool)(fk fv:Ev->Mo W)(F:Ev)(Q:W->Nat->Prop):List W->Nat->Prop:=λl O=>l.length<=lim/\∃I:Nat->Ev->Nat->List (List Int×Dt)->Prop,I 0 F O []/\
 (∀i w B D acc,l[i]?=some w->I i B D acc->mg w B λq=>L q D λb J=>if b=true then fk q J λy U=>fv q U λx Y=>∃st d,y = .d (stD st)/\x = .d d/\I (i+1) q Y (zeI acc st d) else I (i+1) q J acc)/\
 ∀ B D acc,I l.length B D acc->Q (.dt acc) D
abbrev zgn (q:Ev->Mo (List W)) (mg:W->Ev->(Ev->Prop)->Prop) (B:Ev->Mo Bool) (fk fv:Ev->Mo W) (cix:List (Option Nat)):Ev->Mo W:=λρ n Q=>q ρ n (zng mg B fk fv (zcR ρ cix) Q)
def zq8 (mg:W->Ev->(Ev->Prop)->Prop)(L:Ev->Mo Bool)(fk fv:Ev->Mo W)(F:Ev)(Q:W->Nat->Prop):List W->Nat->Prop:=λl O=>l.length<=lim/\∃I:Nat->Ev->Nat->List (Key×Dt)->Prop,I 0 F O []/\
 (∀i w B D acc,l[i]?=some w->I i B D acc->mg w B λq=>L q D λb J=>if b=true then fk q J λy U=>fv q U λx Y=>∃ (j:Int) (d:Dt),y = .d (.int j)/\x = .d d/\I (i+1) q Y (zeI acc (Sum.inl j) d) else I (i+1) q J acc)/\
 ∀ B D acc,I l.length B D acc->Q (.dk acc) D
abbrev zuT (q:Ev->Mo (List W)) (mg:W->Ev->(Ev->Prop)->Prop) (B:Ev->Mo Bool) (fk fv:Ev->Mo W) (cix:List (Option Nat)):Ev->Mo W:=λρ n Q=>q ρ n (zq8 mg B fk fv (zcR ρ cix) Q)
def zfB{wi:TI}{g:TG}{ti:TT}{tk tv:TE}{cix:List (Option Nat)}{fi:Ev->Mo (List W)}{mg:W->Ev->(Ev->Prop)->Prop}{ft:Ev->Mo Bool}{fk fv:Ev->Mo W}(hn:(cix.filterMap id).Nodup)(hi:RI Pn M ow wi fi)(hg:RG (yX M cix) (yX M cix) g mg)(ht:RT Pn (yX M cix) ti ft)(hk:RB Pn (yX M cix) tk fk)(he:RE Pn (yX M cix) fr' tv fv):RE Pn M true (zhH (.dT []) wi g ti tk tv cix) (zgn fi mg ft fk fv cix):=⟨λA σ H ρ n Q R E P hf k=>by
 refine hi.run A σ H ρ n _ _ E P hf λl m J H1 ⟨hz,I,i0,it,ie⟩ iv g1=>λacc B=>?_;have E1:=E.stay g1.st;have E2:=(E1.cap hn).more (zB.upd (o:=.dT []) B) (Fr.of B) zk (zj9 []) (by lia);have P2:xu Pn (λb=>A b\/b=acc) m (L2.upd H1 acc (.dT [])):=g1.pn.grow (g1.pn.same (xh.upd B)) (Fr.of B) zk (zj9 [])
 have a2:∀k w,k∈yX M cix->(zcR ρ cix)[k]?=some (some w)->(zaB σ cix)[k]?≠some (some (.ref acc)):=λk w hk hw z=>by obtain⟨v,s1,_,s3⟩:=(E1.cap hn).val k w hw;obtain⟨a,e,hA,_⟩:=s3 hk;rw[z] at s1;cases s1;cases e;exact E1.new B hA
 have key:∀ F D H',EnvR (λb=>A b\/b=acc) (yX M cix) F H' D->(∀k∈yX M cix,F[k]?=(zaB σ cix)[k]?/\D[k]?=(zcR ρ cix)[k]?)->∀k w,k∈yX M cix->D[k]?=some (some w)->F[k]?≠some (some (.ref acc)):=λF D H' E' an k w hk hw z=>by simp_all
 refine⟨λi mm F H'=>mm=l.length - i/\i<=l.length/\∃ D n' q xs,EnvR (λb=>A b\/b=acc) (yX M cix) F H' D/\xu Pn (λb=>A b\/b=acc) n' H'/\I i D n' q/\H' acc=some (dtO xs)/\uK (z8 (λb=>A b\/b=acc) H') q xs/\q.length<=i/\zB (z8 A H1) (z8 (λb=>A b\/b=acc) H')/\zB H1 H'/\(∀k∈yX M cix,F[k]?=(zaB σ cix)[k]?/\D[k]?=(zcR ρ cix)[k]?),
  ⟨l.length,by simp,aN _,_,m,[],[],E2,P2,i0,zk,rfl,ai _,yI (zB.upd B) (Fr.of B),zB.upd B,λk hk=>⟨rfl,rfl⟩⟩,?_⟩
 rintro i mm F H' ⟨rfl,a3,D,n',q,xs,E',P',hI,ad,O,a4,st,s1,an⟩;by_cases as:i<l.length
 ·right;have al:l[i]?=some l[i]:=ah as;obtain⟨go,yl⟩:=iv.one i l[i] _ H' al st (λ_=>s1) λp hp=>E'.new hp
  refine⟨go,λap H2=>∃ D n' q xs,EnvR (λb=>A b\/b=acc) (yX M cix) ap H2 D/\xu Pn (λb=>A b\/b=acc) n' H2/\I (i+1) D n' q/\H2 acc=some (dtO xs)/\uK (z8 (λb=>A b\/b=acc) H2) q xs/\q.length<=i+1/\zB (z8 A H1) (z8 (λb=>A b\/b=acc) H2)/\zB H1 H2/\(∀k∈yX M cix,ap[k]?=(zaB σ cix)[k]?/\D[k]?=(zcR ρ cix)[k]?),
   λap H2 h=>⟨l.length - (i+1),by lia,rfl,as,h⟩,λx H2 hy=>?_⟩
  obtain⟨S2,V2⟩:=yl x H2 hy;refine hg.run _ F H2 D x l[i] _ _ (E'.stay (zB.same S2)) V2 (it i l[i] D n' q al hI) λU L r3 E3 f3=>?_;have Y:∀k∈yX M cix,U[k]?=(zaB σ cix)[k]?/\L[k]?=(zcR ρ cix)[k]?:=λk hk=>⟨(f3 k hk).1.trans (an k hk).1,(f3 k hk).2.trans (an k hk).2⟩;refine ht.run _ U H2 L n' _ _ E3 (P'.same S2) r3 λb m3 H4 r4 g4=>?_;have Z:=(zB.same S2).trans g4.st
  cases b with
  | false=>
   rw[if_neg (by decide)] at r4 ⊢;exact⟨L,m3,q,xs,E3.stay g4.st,g4.pn,r4,Z _ _ ad (zj9 _),O.stay (zQ Z),by lia,st.trans (zQ Z),s1.trans Z,Y⟩
  | true=>
   rw[if_pos rfl] at r4 ⊢;refine hk.run _ U H4 L m3 _ _ (E3.stay g4.st) g4.pn r4 λy5 m5 u5 H5 r5 B5 g5=>?_;refine he.run _ U H5 L m5 _ _ ((E3.stay g4.st).stay g5.st) g5.pn r5  ?_;rintro w6 m6 v6 H6 ⟨ky,d,ey,e6,r6⟩ V6 g6 _;subst ey e6;have ag:=(Z.trans g5.st).trans g6.st;have E6:=((E3.stay g4.st).stay g5.st).stay g6.st;have av:H6 acc=some (dtO xs):=ag _ _ ad (zj9 _);obtain⟨bd,zs,rfl,a0,hx⟩:=xb (B5.stay g6.st);obtain rfl:=hx.of_ints;have a5:=zgB q ky d;refine⟨_,zcT.i av a0 (zdo (by rw[O.len];lia)),L,m6,zeI q ky d,zao xs ky v6,E6.upd (.inr rfl) (key U L H6 E6 Y) (zj9 _) (by intro xs z;cases z),g6.pn.upd (.inr rfl),r6,zk,?_,by lia,?_,?_,Y⟩
   ·rw[yq (.inr rfl)];exact (O.stay (zQ ag)).put V6.is
   ·rw[yq (.inr rfl)];exact st.trans (zQ ag)
   ·exact λb o e nn=>by rw[zg (zc e B)];exact s1.trans ag b o e nn
 ·refine Or.inl ?_;have a1:i=l.length:=by lia
  subst a1;refine⟨iv.stop _ H' st (λ_=>s1),k _ n' _ H' (ie D n' q hI) ⟨acc,xs,rfl,zG (E1.new B) ad,O.stay (zB.same (xx λb z=>.inl z))⟩ (g1.trans ⟨s1,P'.less λa z=>.inl z⟩) λ_=>⟨acc,rfl,(Fr.of B).back g1.st,acc,xs,rfl,ad,O⟩⟩⟩
def ztr(h:∀C s H ex,JB (zw X scope N C s H ex) Pn M e f):∃te,(∀C s H ex,QE (zw X scope N C s H ex) e te)/\RB Pn M te f:=
 ⟨λσ H Q=>∀C s H0 ex,(h C s H0 ex).ex.choose σ H Q,λC s H0 ex=>⟨λpins s' σ H Q I z=>(h C s H0 ex).ex.choose_spec.1.run pins s' σ H Q I (z C s H0 ex)⟩,
  ⟨λA σ H ρ n Q R E P q k C s H0 ex=>(h C s H0 ex).ex.choose_spec.2.run A σ H ρ n Q R E P q k⟩⟩
def zhc(F:X.A.units+1<cLine)(I:X.calm=true)(J:CompOk X scope N cix)(hi:JI X Pn M D tg iter q)(L:∀C s H ex,JG (zw X scope N C s H ex) (yX M cix) (yX M cix) tg mg)(O:∀C s H ex,JTs (zw X scope N C s H ex) Pn (yX M cix) ifs B)(U:∀C s H ex,JB (zw X scope N C s H ex) Pn (yX M cix) ke fk)(Y:∀C s H ex,JE (zw X scope N C s H ex) Pn (yX M cix) fr' ve fv)(Z:(cix.filterMap id).Nodup:=by decide)(hs:∀x,foldedSetIterable iter X.env x=pure x:=by intro _;rfl):JE X Pn M true (.DictComp ke ve [⟨tg,iter,ifs,0⟩] scope pos) (zgn q mg B fk fv cix):=by
 obtain⟨ti,qi,ri⟩:=hi.ex;obtain⟨g,qg,rg⟩:=zk4 L;obtain⟨tt,qt,rt⟩:=zk5 O;obtain⟨tk,qk,rk⟩:=ztr U;obtain⟨te,qe,re⟩:=zk3 Y;exact⟨_,zgC (o0:=.dT []) (by simp) F I J qi qg qt qk qe hs,zfB Z ri rg rt rk re⟩
def zh6{ifs:List Expr}{scope:Scope}{N:List Str}{cix:List (Option Nat)}{J:Ev->Mo (List W)}{mg:W->Ev->(Ev->Prop)->Prop}{L:Ev->Mo Bool}{fk fv:Ev->Mo W}{nx:Str}{px spos:Pos}(U:X.A.units+1<cLine)(q:X.N.Nodup)(B:X.N[ix]?=some nx)(D:X.env.scope.names.lookup nx=some .local)(Y:X.calm=true)(Z:CompOk X scope N cix)(hi:JI X Pn M O tg iter J)(hg:∀C s H ex,JG (zw X scope N C s H ex) (yX M cix) (yX M cix) tg mg)(ht:∀C s H ex,JTs (zw X scope N C s H ex) Pn (yX M cix) ifs L)(hk:∀C s H ex,JB (zw X scope N C s H ex) Pn (yX M cix) ke fk)(he:∀C s H ex,JE (zw X scope N C s H ex) Pn (yX M cix) fr' ve fv)(hn:(cix.filterMap id).Nodup:=by decide)(F:swapsWithSole [.Name nx px] (.DictComp ke ve [⟨tg,iter,ifs,0⟩] scope pos) spos.line X.env=pure true:=by rfl)(hs:∀x,foldedSetIterable iter X.env x=pure x:=by intro _;rfl)(I:(assignEach [.Name nx px] X.env).map (·.2)=[assign (.Name nx px) X.env]:=by rfl):∃te,QS X (.Assign [.Name nx px] (.DictComp ke ve [⟨tg,iter,ifs,0⟩] scope pos) spos) (zfP te (uW ix))/\RE Pn M true te (zgn J mg L fk fv cix):=by
 obtain⟨ti,qi,ri⟩:=hi.ex;obtain⟨g,qg,rg⟩:=zk4 hg;obtain⟨tt,qt,rt⟩:=zk5 ht;obtain⟨tk,qk,rk⟩:=ztr hk;obtain⟨te,qe,re⟩:=zk3 he;exact⟨_,zmG (o0:=.dT []) (by simp) U q B D Y Z qi qg qt qk qe F hs I,zfB hn ri rg rt rk re⟩
end
open PySem PySem.Spec L2
abbrev onI (w:W) (P:Int->Prop):Prop:=match w with | .d (.int i)=>P i | _=>False
abbrev onB (w:W) (P:Bool->Prop):Prop:=match w with | .d (.bl i)=>P i | _=>False
abbrev onT (w:W) (P:List Dt->Prop):Prop:=match w with | .d (.tup i)=>P i | _=>False
abbrev onL (w:W) (P:List Dt->Prop):Prop:=match w with | .d (.lst i)=>P i | _=>False
abbrev onS (w:W) (P:List Dt->Prop):Prop:=match w with | .d (.lst i)=>P i | .d (.tup i)=>P i | _=>False
abbrev onD (w:W) (P:Dt->Prop):Prop:=match w with | .d i=>P i | _=>False
abbrev onK (w:W) (P:List (Key×Dt)->Prop):Prop:=match w with | .dk i=>P i | _=>False
abbrev onE (w:W) (P:List (List Int×Dt)->Prop):Prop:=match w with | .dt i=>P i | _=>False
abbrev onO {α:Type} (o:Option α) (P:α->Prop):Prop:=match o with | some i=>P i | none=>False
abbrev onC (c:Bool) (A B:Prop):Prop:=match c with | true=>A | false=>B
abbrev on1 (l:List W) (P:W->Prop):Prop:=match l with | [a]=>P a | _=>False
abbrev on2 (l:List W) (P:W->W->Prop):Prop:=match l with | [a,b]=>P a b | _=>False
abbrev onV:Ev->Nat->(W->Prop)->Prop
 | [],_,_=>False
 | a::_,0,P=>onO a P
 | _::r,i+1,P=>onV r i P
abbrev onP:Ev->Nat->W->(Ev->Prop)->Prop
 | [],_,_,Q=>Q []
 | _::r,0,w,Q=>Q (some w::r)
 | a::r,i+1,w,Q=>onP r i w λq=>Q (a::q)
abbrev onN:Ev->Nat->(Ev->Prop)->Prop
 | [],_,Q=>Q []
 | _::r,0,Q=>Q (none::r)
 | a::r,i+1,Q=>onN r i λq=>Q (a::q)
abbrev zda {α:Type}:Nat->List α->Prop->Prop
 | 0,[],P=>P
 | k+1,_::r,P=>zda k r P
 | _,_,_=>False
def xG{P:Int->Prop}:onI w P = ∃i,w = .d (.int i)/\P i:=propext ⟨λh=>by rcases w with (x|x|x|x|_|_) <;> first | exact False.elim h | (cases x <;> first | exact False.elim h | exact⟨_,rfl,h⟩),by simp_all⟩
def zfq:onB w P = ∃i,w = .d (.bl i)/\P i:=propext ⟨λh=>by rcases w with (x|x|x|x|_|_) <;> first | exact False.elim h | (cases x <;> first | exact False.elim h | exact⟨_,rfl,h⟩),by rintro⟨i,e,h⟩;subst e;exact h⟩
def zbv:onT w P = ∃i,w = .d (.tup i)/\P i:=propext ⟨λh=>by rcases w with (x|x|x|x|_|_) <;> first | exact False.elim h | (cases x <;> first | exact False.elim h | exact⟨_,rfl,h⟩),by simp_all⟩
def xH:onL w P = ∃i,w = .d (.lst i)/\P i:=propext ⟨λh=>by rcases w with (x|x|x|x|_|_) <;> first | exact False.elim h | (cases x <;> first | exact False.elim h | exact⟨_,rfl,h⟩),by simp_all⟩
def zke:onS w P = ∃i,(w = .d (.lst i)\/w = .d (.tup i))/\P i:=propext ⟨λh=>by rcases w with (x|x|x|x|_|_) <;> first | exact False.elim h | (cases x <;> first | exact False.elim h | exact⟨_,.inl rfl,h⟩ | exact⟨_,.inr rfl,h⟩),by rintro⟨i,e,h⟩;rcases e with e | e <;> subst e <;> exact h⟩
def x4:onD w P = ∃i,w = .d i/\P i:=propext ⟨λh=>by cases w <;> first | exact False.elim h | exact⟨_,rfl,h⟩,by simp_all⟩
def zhr{P:List (List Int×Dt)->Prop}:onE w P = ∃i,w = .dt i/\P i:=propext ⟨λh=>by cases w <;> first | exact False.elim h | exact⟨_,rfl,h⟩,by simp_all⟩
def zbu {α:Type}{w:Option α}{P:α->Prop}:onO w P = ∃i,w=some i/\P i:=propext ⟨λh=>by cases w <;> first | exact False.elim h | exact⟨_,rfl,h⟩,by simp_all⟩
def u9{A B:Prop}:onC c A B=if c=true then A else B:=by cases c <;> simp[onC]
def u8:on1 l P = ∃a,l=[a]/\P a:=propext ⟨λh=>by rcases l with (_|⟨a,_|⟨b,l⟩⟩) <;> first | exact False.elim h | exact⟨_,rfl,h⟩,by simp_all⟩
def zhq:on2 l P = ∃a b,l=[a,b]/\P a b:=propext ⟨λh=>by rcases l with (_|⟨a,_|⟨b,_|⟨c,l⟩⟩⟩) <;> first | exact False.elim h | exact⟨_,_,rfl,h⟩,by simp_all⟩
def zaq:∀ {ρ:Ev} {i:Nat} {P:W->Prop},onV ρ i P = ∃w,ρ[i]?=some (some w)/\P w
 | [],i,P=>by simp[onV]
 | some w::r,0,P=>by simp[onV]
 | none::r,0,P=>by simp[onV]
 | some w::r,i+1,P=>by simpa [onV] using zaq (ρ:=r) (i:=i) (P:=P)
 | none::r,i+1,P=>by simpa [onV] using zaq (ρ:=r) (i:=i) (P:=P)
def ur:∀ {ρ:Ev} {i:Nat} {w:W} {Q:Ev->Prop},onP ρ i w Q=Q (ρ.set i (some w))
 | [],i,w,Q=>rfl
 | a::r,0,w,Q=>rfl
 | a::r,i+1,w,Q=>by rw[onP,ur];rfl
def znv:∀ {ρ:Ev} {i:Nat} {Q:Ev->Prop},onN ρ i Q=Q (ρ.set i none)
 | [],i,Q=>rfl
 | a::r,0,Q=>rfl
 | a::r,i+1,Q=>by rw[onN,znv];rfl
def zbW {α:Type}:∀ {k:Nat} {l:List α} {P:Prop},zda k l P=(l.length=k/\P)
 | 0,[],P=>by simp[zda]
 | 0,a::r,P=>by simp[zda]
 | k+1,[],P=>by simp[zda]
 | k+1,a::r,P=>by simp[zda,zbW (l:=r)]
def yU {P:Prop}[Decidable P]{A B:Prop}(h1:P->A)(h2:¬ P->B):onC (decide P) A B:=by
 by_cases h:P
 all_goals simp_all
def zef {P:Prop}[Decidable P]{A B:Prop}(h1:¬ P->A)(h2:P->B):onC (!decide P) A B:=by
 by_cases h:P
 all_goals simp_all
def zgx{A B:Prop}(h1:c=true->A)(h2:c=false->B):onC c A B:=by
 cases c
 ·exact h2 rfl
 ·exact h1 rfl
def znu{A B:Prop}(h1:c=false->A)(h2:c=true->B):onC (!c) A B:=by
 cases c
 ·exact h1 rfl
 ·exact h2 rfl
def zo7{A B:Prop}(h:c=true)(h1:A):onC c A B:=by subst h;exact h1
def zo6{A B:Prop}(h:c=false)(h1:B):onC c A B:=by subst h;exact h1
def y4 {α:Type}{o:Option α}{a:α}{P:α->Prop}(e:o=some a)(h:P a):onO o P:=by subst e;exact h
def onA{st:List Int}{b:Int}(q:0<=b)(h1:b<st.length)(h:P (.int (yV st b))):onO (atI (st.map Dt.int) b) P:=y4 (znX q h1) h
def zkd {L:List Dt}{a:Int}{P:Dt->Prop}(q:0<=a)(h1:a<L.length)(h:∀x∈L,P x):onO (atI L a) P:=by obtain⟨x,e,B⟩:=zqH q h1 h;exact y4 e B
section
variable {X:Cx}{Pn:Option zr}{M S:List Nat}{fr fr':Bool}{e a b c:Expr}{es:List Expr}{f fa fb fc g:Ev->Mo W}{pos p:Pos}{t u:Ev->Mo Bool}{fs gs:Ev->Mo (List W)}
def wE (h:f=g)(j:JE X Pn M fr e f):JE X Pn M fr e g:=h ▸ j
def wB (h:f=g)(j:JB X Pn M e f):JB X Pn M e g:=h ▸ j
def wT (h:t=u)(j:JT X Pn M e t):JT X Pn M e u:=h ▸ j
def wW (h:t=u)(j:JW X Pn M e t):JW X Pn M e u:=h ▸ j
def wO {f g:Ev->Mo (Option Int)}{e:Option Expr}(h:f=g)(j:JO X Pn M e f):JO X Pn M e g:=h ▸ j
def wG {f g:W->Ev->(Ev->Prop)->Prop}(h:f=g)(j:JG X S M e f):JG X S M e g:=h ▸ j
def wH {f g:List Dt->Ev->(Ev->Prop)->Prop}(h:f=g)(j:JGs X S M es f):JGs X S M es g:=h ▸ j
def wI(h:fs=gs)(j:JI X Pn M q tg e fs):JI X Pn M q tg e gs:=h ▸ j
def wS {s:Stmt}{f g:Ms}(h:f=g)(j:JS X Pn S M fr s f):JS X Pn S M fr s g:=h ▸ j
abbrev zfZ (i:Nat):Ev->Mo W:=λρ n Q=>onV ρ i λw=>Q w n
def zjX:zrM i=zfZ i:=by funext ρ n Q;exact zaq.symm
def kv (i:Nat){x:Str}(hi:i∉M:=by decide)(B:X.N[i]?=some x:=by rfl)(D:Vis X.env.scope x:=by walk_at "v")(F:(x==("__debug__" : Str))=false:=by decide)
  (q:(x==("__classdict__" : Str))=false:=by decide):JE X Pn M false (.Name x pos) (zfZ i):=wE zjX (zuN i hi B D F q)
def kb(i:Nat)(B:X.N[i]?=some x:=by rfl)(D:Vis X.env.scope x:=by walk_at "v")(F:(x==("__debug__" : Str))=false:=by decide)(q:(x==("__classdict__" : Str))=false:=by decide):JB X Pn M (.Name x pos) (zfZ i):=wB zjX (zuI i B D F q)
abbrev zq6 (fa:Ev->Mo W):Ev->Mo Bool:=λρ n Q=>fa ρ n λx m=>onB x λc=>Q c m
def zo:zo4 fa=zq6 fa:=by funext ρ n Q;simp only[zo4,zq6,zfq]
abbrev ztL (t u:Ev->Mo Bool):Ev->Mo Bool:=λρ n Q=>t ρ n λc m=>onC c (u ρ m Q) (Q false m)
def u6:ztS t u=ztL t u:=by funext ρ n Q;simp only[ztS,ztL,u9]
abbrev dOr (t u:Ev->Mo Bool):Ev->Mo Bool:=λρ n Q=>t ρ n λc m=>onC c (Q true m) (u ρ m Q)
def zhk:mOr t u=dOr t u:=by funext ρ n Q;simp only[mOr,dOr,u9]
abbrev dNot (t:Ev->Mo Bool):Ev->Mo Bool:=λρ n Q=>t ρ n λc m=>onC c (Q false m) (Q true m)
def zd8:zu2 t=dNot t:=by funext ρ n Q;simp only[zu2,dNot];congr 1;funext c m;cases c <;> rfl
abbrev zqT (fa fb:Ev->Mo W):Ev->Mo W:=λρ n Q=>fa ρ n λx m=>onB x λc=>onC c (fb ρ m Q) (Q (.d (.bl false)) m)
def zl3:zoM fa fb=zqT fa fb:=by funext ρ n Q;simp only[zoM,zqT,u9,zfq]
abbrev dOrV (fa fb:Ev->Mo W):Ev->Mo W:=λρ n Q=>fa ρ n λx m=>onB x λc=>onC c (Q (.d (.bl true)) m) (fb ρ m Q)
abbrev zq0 (fa:Ev->Mo W):Ev->Mo W:=λρ n Q=>fa ρ n λx m=>onB x λc=>Q (.d (.bl (!c))) m
def zl7:zoX fa=zq0 fa:=by funext ρ n Q;simp only[zoX,zq0,zfq]
abbrev dIf (t:Ev->Mo Bool) (fa fb:Ev->Mo W):Ev->Mo W:=λρ n Q=>t ρ n λc m=>onC c (fa ρ m Q) (fb ρ m Q)
def zrI:mIf t fa fb=dIf t fa fb:=by funext ρ n Q;simp only[mIf,dIf,u9]
abbrev dI (C:Int->Int->Prop) (g:Int->Int->Dt):W->W->Mo W:=λx y n Q=>onI x λi=>onI y λj=>C i j/\Q (.d (g i j)) n
def zlB {C:Int->Int->Prop}{g:Int->Int->Dt}:fI C g=dI C g:=by funext x y n Q;simp only[dI,xG];exact propext ⟨by rintro⟨i,j,q,B,h⟩;exact⟨i,q,j,B,h⟩,by rintro⟨i,q,j,B,h⟩;exact⟨i,j,q,B,h⟩⟩
abbrev dI0 (g:Int->Int->Dt):W->W->Mo W:=λx y n Q=>onI x λi=>onI y λj=>Q (.d (g i j)) n
def ze2 {g:Int->Int->Dt}:fI0 g=dI0 g:=by funext x y n Q;simp only[dI0,xG];exact propext ⟨by rintro⟨i,j,q,B,h⟩;exact⟨i,q,j,B,h⟩,by rintro⟨i,q,j,B,h⟩;exact⟨i,j,q,B,h⟩⟩
def uz:F2 Pn false (rI0 λi j=>.int (i+j)) (dI0 λi j=>.int (i+j)):=ze2 ▸ zvR
def zk1:F2 Pn false (rI0 λi j=>.int (i - j)) (dI0 λi j=>.int (i - j)):=ze2 ▸ zv3
def zqn:F2 Pn false (rI zm3 λi j=>.int (i * j)) (dI zm3 λi j=>.int (i * j)):=zlB ▸ zv0
def ztm:F2 Pn false (rI zqx λi j=>.int (i / j)) (dI zqx λi j=>.int (i / j)):=zlB ▸ ztw
def ztp:F2 Pn false (rI (λ_ j=>0<j) λi j=>.int (i % j)) (dI (λ_ j=>0<j) λi j=>.int (i % j)):=zlB ▸ zvZ
def zqo:F2 Pn false (rI zqy λi j=>.int (i ^ j.toNat)) (dI zqy λi j=>.int (i ^ j.toNat)):=zlB ▸ zv2
def zvP:F2 Pn false (rI0 λi j=>.bl (decide (i<j))) (dI0 λi j=>.bl (decide (i<j))):=ze2 ▸ v_lt
def zt3:F2 Pn false (rI0 λi j=>.bl (decide (i<=j))) (dI0 λi j=>.bl (decide (i<=j))):=ze2 ▸ v_le
def zvM:F2 Pn false (rI0 λi j=>.bl (decide (i > j))) (dI0 λi j=>.bl (decide (j<i))):=ze2 ▸ v_gt
abbrev zuo:W->Mo W:=λx n Q=>onI x λi=>Q (.d (.int (-i))) n
def zmX:F1 Pn false (rU λi=>.int (-i)) zuo:=(show zuA=zuo by funext x n Q;simp only[zuA,zuo,xG]) ▸ zv1
abbrev dEq:W->W->Mo W:=λx y n Q=>onD x λa=>onD y λb=>onO (sEq a b) λr=>Q (.d (.bl r)) n
def zrc:fEq=dEq:=by
 funext x y n Q;simp only[fEq,dEq,x4,zbu]
 simp_all
abbrev dNe:W->W->Mo W:=λx y n Q=>onD x λa=>onD y λb=>onO (sEq a b) λr=>Q (.d (.bl (!r))) n
def zre:fNe=dNe:=by
 funext x y n Q;simp only[fNe,dNe,x4,zbu]
 simp_all
def za4:F2 Pn false rEq dEq:=zrc ▸ v_eq
def zmW:F2 Pn false rNe dNe:=zre ▸ v_ne
abbrev zug:W->W->Mo W:=λx y n Q=>onD x λa=>onD y λb=>a.eqOk/\b.eqOk/\∀r:Bool,(r=true↔a=b)->Q (.d (.bl r)) n
abbrev dNeD:W->W->Mo W:=λx y n Q=>onD x λa=>onD y λb=>a.eqOk/\b.eqOk/\∀r:Bool,(r=true↔a=b)->Q (.d (.bl (!r))) n
def zok:zuu=zug:=by
 funext x y n Q;simp only[zuu,zug,x4]
 simp_all
def zvL:F2 Pn false ztX zug:=zok ▸ zvT
abbrev dIsB:W->W->Mo W:=λx y n Q=>onB x λa=>onB y λb=>Q (.d (.bl (a==b))) n
abbrev zfY:W->W->Mo W:=λx y n Q=>onB x λa=>onB y λb=>Q (.d (.bl (a != b))) n
def zhZ:zf6=zfY:=by
 funext x y n Q;simp only[zf6,zfY,zfq]
 simp_all
def zir:F2 Pn false (λx y H Q=>∃a b,x = .bl a/\y = .bl b/\Q (.bl (a != b)) H) zfY:=zhZ ▸ zis
abbrev dInI:W->W->Mo W:=λx y n Q=>onI x λb=>onS y λl=>∃ns:List Int,l=ns.map .int/\Q (.d (.bl (ns.contains b))) n
abbrev zdR:W->W->Mo W:=λx y n Q=>onI x λb=>onS y λl=>∃ns:List Int,l=ns.map .int/\Q (.d (.bl (!ns.contains b))) n
def zh0:zf7=zdR:=by funext x y n Q;simp only[zf7,zdR,xG,zke];exact propext ⟨by rintro⟨a,b,q,B,h⟩;exact⟨a,q,_,B,b,rfl,h⟩,by rintro⟨a,q,l,B,b,e,h⟩;subst e;exact⟨a,b,q,B,h⟩⟩
def zmY:F2 Pn false (rIn K true) zdR:=zh0 ▸ zm0
abbrev xr:Bool->Bool->Bool
 | false,b=>b
 | true,b=>!b
abbrev zui (q:Bool):W->W->Mo W:=λx y n Q=>onD x λd=>onS y λds=>d.eqOk/\(Dt.lst ds).eqOk/\∀b:Bool,(b=true↔d∈ds)->Q (.d (.bl (xr q b))) n
def zv4 {q b:Bool}:(if q then !b else b)=xr q b:=by cases q <;> rfl
def zol:zuv q=zui q:=by
 funext x y n Q;simp only[zuv,zui,x4,zke,zv4]
 simp_all
def ztn:F2 Pn false (zvu q) (zui q):=zol ▸ zvU
abbrev ztM:W->W->Mo W:=λx y n Q=>onT x λl=>onI y λi=>onO (atI l i) λd=>Q (.d d) n
abbrev zuk:W->W->Mo W:=λx y n Q=>onL x λl=>onI y λi=>onO (atI l i) λd=>Q (.d d) n
def zon:zux=ztM:=by
 funext x y n Q;simp only[zux,ztM,zbv,xG,zbu]
 simp_all
def zom:zuw=zuk:=by
 funext x y n Q;simp only[zuw,zuk,xH,xG,zbu]
 simp_all
def xC:F2 Pn false (ztZ K) ztM:=zon ▸ zvW
def zbP:F2 Pn false (ztY K) zuk:=zom ▸ zvV
abbrev zlx:W->W->Mo W:=λx y n Q=>onT x λl=>onT y λm=>l.length+m.length<=lim/\Q (.d (.tup (l++m))) n
abbrev zn9:W->W->Mo W:=λx y n Q=>onL x λl=>onL y λm=>l.length+m.length<=lim/\Q (.d (.lst (l++m))) n
def zlA:zf5=zlx:=by
 funext x y n Q;simp only[zf5,zlx,zbv]
 simp_all
def zlz:zoj=zn9:=by
 funext x y n Q;simp only[zoj,zn9,xH]
 simp_all
def yE:F2 Pn false (zkv K) zlx:=zlA ▸ ztv
def ztl:F2 Pn true zpU zn9:=zlz ▸ ztu
abbrev dRepT:W->W->Mo W:=λx y n Q=>onT x λl=>onI y λj=>(1<=j/\j<=1000000/\l.length * j.toNat<=lim)/\Q (.d (.tup (List.replicate j.toNat l).flatten)) n
abbrev zob:W->W->Mo W:=λx y n Q=>onL x λl=>onI y λj=>(0<=j/\j<=1000000/\l.length * j.toNat<=lim)/\Q (.d (.lst (List.replicate j.toNat l).flatten)) n
def zlC:zoq=zob:=by
 funext x y n Q;simp only[zoq,zob,xH,xG,and_assoc]
 simp_all
def znP:F2 Pn true zt0 zob:=zlC ▸ zty
abbrev zul:List W->Mo W:=λq n Q=>on1 q λx=>onO (lenD x) λk=>Q (.d (.int (k:Int))) n
def zoo:zuy=zul:=by
 funext ws n Q;simp only[zuy,zul,u8,zbu]
 simp_all
def uT:FL Pn false (λxs H Q=>∃x n,xs=[x]/\zqC K x H n/\Q (.int n) H) zul:=zoo ▸ zvX
abbrev dAbs:List W->Mo W:=λq n Q=>on1 q λx=>onI x λi=>Q (.d (.int (if i<0 then -i else i))) n
abbrev dMin:List W->Mo W:=λq n Q=>on2 q λx y=>onI x λi=>onI y λj=>Q (.d (.int (if j<i then j else i))) n
abbrev zun:List W->Mo W:=λq n Q=>on2 q λx y=>onI x λi=>onI y λj=>Q (.d (.int (if j > i then j else i))) n
def zop:zuz=zun:=by funext ws n Q;simp only[zuz,zun,zhq,xG];exact propext ⟨by rintro⟨x,y,e,h⟩;exact⟨_,_,e,x,rfl,y,rfl,h⟩,by rintro⟨x,y,e,k,q,l,B,h⟩;subst q B;exact⟨k,l,e,h⟩⟩
def zvQ:FL Pn false (λxs H Q=>∃i j,xs=[.int i,.int j]/\Q (.int (if j > i then j else i)) H) zun:=zop ▸ zvY
abbrev zuf:List W->Mo W:=λB n Q=>on1 B λx=>onL x λl=>∃q:List Bool,l=q.map .bl/\Q (.d (.bl (q.all id))) n
def zoi:zut=zuf:=by funext ws n Q;simp only[zut,zuf,u8,xH];exact propext ⟨by rintro⟨x,e,h⟩;exact⟨_,e,_,rfl,x,rfl,h⟩,by simp_all⟩
def zvK:FL Pn false (λxs H Q=>∃ (p:Addr) (q:List Bool),xs=[.ref p]/\H p=some (.lst (q.map V.bl))/\Q (.bl (q.all id)) H) zuf:=zoi ▸ zvS
abbrev zqY:List W->Mo W:=λq n Q=>on1 q λx=>onS x λl=>Q (.d (.lst l)) n
abbrev znf:List W->Mo W:=λq n Q=>on1 q λx=>onS x λl=>Q (.d (.tup l)) n
def zs5:(∃l,(q=[.d (.lst l)]\/q=[.d (.tup l)])/\P l)=on1 q λx=>onS x P:=by
 simp only[u8,zke]
 grind
def zto:FL Pn true (zkw K) zqY:=(show zrd=zqY by funext ws n Q;exact zs5) ▸ ztx
def zax:FL Pn false (zgF K) znf:=(show znj=znf by funext ws n Q;exact zs5) ▸ zqu
abbrev dDictT:List W->Mo W:=λq n Q=>on1 q λx=>onT x λl=>∃ps:List (Int×Dt),l=ps.map prD/\(ps.map (·.1)).Nodup/\ps.length<=1000/\Q (.dk (ps.map kvD)) n
abbrev dInt1:List W->Mo W:=λq n Q=>on1 q λx=>match x with
 | .d (.int i)=>Q (.d (.int i)) n
 | .d (.bl b)=>Q (.d (.int (if b then 1 else 0))) n
 | _=>False
abbrev zi2:List W->Mo W:=λB n Q=>on1 B λx=>onL x λl=>∃ns:List Int,l=ns.map .int/\ns.length<64/\∀q:List Int,q.Perm ns->q.Pairwise (·<=·)->Q (.d (.lst (q.map .int))) n
def zjc:zjb=zi2:=by funext ws n Q;simp only[zjb,zi2,u8,xH];exact propext ⟨by rintro⟨x,e,h⟩;exact⟨_,e,_,rfl,x,rfl,h⟩,by simp_all⟩
def zqp:FL Pn true zkx zi2:=zjc ▸ zqs
abbrev zi3:List W->Mo W:=λB n Q=>on1 B λx=>onL x λl=>∃ (sts:List (List Int)) (m:Nat),l=sts.map stD/\sts.length<64/\1<=m/\(∀st∈sts,st.length=m)/\sts.Nodup/\∀q:List (List Int),q.Perm sts->(q.Pairwise λa b=>HT.lexLt a b=true)->Q (.d (xL q)) n
def zje:zjd=zi3:=by funext ws n Q;simp only[zjd,zi3,u8,xH];exact propext ⟨by rintro⟨x,m,e,h⟩;exact⟨_,e,_,rfl,x,m,rfl,h⟩,by simp_all⟩
def zqq:FL Pn true zpY zi3:=zje ▸ zqt
abbrev dListD:List W->Mo W:=λq n Q=>on1 q λx=>onE x λkvs=>((kvs.map (·.1)).Nodup->Q (.d (.lst ((kvs.map (·.1)).map stD))) n)
end
open PySem PySem.Spec L2
section
variable {fa fb fc f fk fd fv:Ev->Mo W}{t u:Ev->Mo Bool}{fs gs:Ev->Mo (List W)}
abbrev zq1 (fa:Ev->Mo W):Ev->Mo (Option Int):=λρ n Q=>fa ρ n λx m=>onI x λi=>Q (some i) m
def zC:zoY fa=zq1 fa:=by funext ρ n Q;simp only[zoY,zq1,xG]
abbrev dSlT (fa:Ev->Mo W) (fl q:Ev->Mo (Option Int)):Ev->Mo W:=λρ n Q=>fa ρ n λx B=>fl ρ B λlo D=>q ρ D λhi F=>onT x λl=>Q (.d (.tup (xE l lo hi))) F
def zT {fl q:Ev->Mo (Option Int)}:zu5 fa fl q=dSlT fa fl q:=by funext ρ n Q;simp only[zu5,dSlT,zbv]
abbrev dSlL (fa:Ev->Mo W) (fl q:Ev->Mo (Option Int)):Ev->Mo W:=λρ n Q=>fa ρ n λx B=>fl ρ B λlo D=>q ρ D λhi F=>onL x λl=>Q (.d (.lst (xE l lo hi))) F
def zbe {fl q:Ev->Mo (Option Int)}:zu4 fa fl q=dSlL fa fl q:=by funext ρ n Q;simp only[zu4,dSlL,xH]
abbrev zq4 (fa:Ev->Mo W):Ev->Mo W:=λρ n Q=>fa ρ n λx m=>onT x λl=>Q (.d (.tup l.reverse)) m
abbrev zq3 (fa:Ev->Mo W):Ev->Mo W:=λρ n Q=>fa ρ n λx m=>onL x λl=>Q (.d (.lst l.reverse)) m
def zl9:zo2 fa=zq4 fa:=by funext ρ n Q;simp only[zo2,zq4,zbv]
def zhl:zo1 fa=zq3 fa:=by funext ρ n Q;simp only[zo1,zq3,xH]
abbrev dDGet (fd fk:Ev->Mo W):Ev->Mo W:=λρ n Q=>fd ρ n λx q=>fk ρ q λy B=>onK x λkvs=>onO (zuR y) λk=>onO (yy kvs k) λd=>Q (.d d) B
abbrev dDIn (q:Bool) (fk fd:Ev->Mo W):Ev->Mo W:=λρ n Q=>fk ρ n λy B=>fd ρ B λx D=>onK x λkvs=>onO (zuR y) λk=>Q (.d (.bl (xr q (yy kvs k).isSome))) D
abbrev dFn (k:Nat) (F:List W->Mo W) (fs:Ev->Mo (List W)):Ev->Mo W:=λρ n Q=>fs ρ n λq m=>zda k q (F q m Q)
def zq:mFn k F fs=dFn k F fs:=by funext ρ n Q;simp only[mFn,dFn,zbW]
abbrev dFnB (k:Nat) (fr:Bool) (F:List W->Mo W) (fs:Ev->Mo (List W)):Ev->Mo W:=λρ n Q=>fs ρ n λq m=>zda k q (F q m λw B=>W.flat fr w=true/\Q w B)
abbrev eN (i:Nat):W->Ev->(Ev->Prop)->Prop:=λw ρ Q=>onP ρ i w Q
def zF:gN i=eN i:=by funext w ρ Q;exact ur.symm
abbrev eNl:List Dt->Ev->(Ev->Prop)->Prop:=λds ρ Q=>match ds with | []=>Q ρ | _=>False
def ui:gNl=eNl:=by
 funext ds ρ Q
 cases ds with
 | nil=>simp[gNl,eNl]
 | cons _ _=>simp[gNl,eNl]
abbrev eCn (g:W->Ev->(Ev->Prop)->Prop) (u:List Dt->Ev->(Ev->Prop)->Prop):List Dt->Ev->(Ev->Prop)->Prop:=λds ρ Q=>match ds with | d::r=>g (.d d) ρ λq=>u r q Q | []=>False
def zV {g:W->Ev->(Ev->Prop)->Prop}{u:List Dt->Ev->(Ev->Prop)->Prop}:gCn g u=eCn g u:=by
 funext ds ρ Q
 cases ds with
 | nil=>simp[gCn,eCn]
 | cons d r=>exact propext ⟨by rintro⟨d',q,e,h⟩;cases e;exact h,λh=>⟨d,r,rfl,h⟩⟩
abbrev eTp (n:Nat) (u:List Dt->Ev->(Ev->Prop)->Prop):W->Ev->(Ev->Prop)->Prop:=λw ρ Q=>onT w λds=>zda n ds (u ds ρ Q)
def uj {n:Nat}{u:List Dt->Ev->(Ev->Prop)->Prop}:gTp n u=eTp n u:=by funext w ρ Q;simp only[gTp,eTp,zbv,zbW]
abbrev dItL (fa:Ev->Mo W):Ev->Mo (List W):=λρ n Q=>fa ρ n λx m=>onL x λl=>Q (l.map W.d) m
abbrev dItT (fa:Ev->Mo W):Ev->Mo (List W):=λρ n Q=>fa ρ n λx m=>onT x λl=>Q (l.map W.d) m
def yT:zuX fa=dItL fa:=by funext ρ n Q;simp only[zuX,dItL,xH]
def xD:zuZ fa=dItT fa:=by funext ρ n Q;simp only[zuZ,dItT,zbv]
abbrev dItR (fs:Ev->Mo (List W)):Ev->Mo (List W):=λρ n Q=>fs ρ n λq m=>on1 q λx=>onI x λj=>(j<=1000000/\-1000000<=j)/\Q (zii 0 j.toNat) m
def xS:zuY fs=dItR fs:=by funext ρ n Q;simp only[zuY,dItR,u8,xG];congr 1;funext ws m;exact propext ⟨by simp_all,by simp_all⟩
abbrev dItR2 (fs:Ev->Mo (List W)):Ev->Mo (List W):=λρ n Q=>fs ρ n λq m=>on2 q λx y=>onI x λi=>onI y λj=>(j<=1000000/\-1000000<=j/\i<=1000000/\-1000000<=i)/\Q (zii i (j - i).toNat) m
abbrev dItE (fs:Ev->Mo (List W)):Ev->Mo (List W):=λρ n Q=>fs ρ n λq m=>on1 q λx=>onT x λl=>Q (enW 0 l) m
abbrev zqV (fs:Ev->Mo (List W)):Ev->Mo (List W):=λρ n Q=>fs ρ n λq m=>on1 q λx=>onL x λl=>Q (enW 0 l) m
def zd5:zoR fs=zqV fs:=by funext ρ n Q;simp only[zoR,zqV,u8,xH];congr 1;funext ws m;exact propext ⟨by simp_all,by simp_all⟩
abbrev dItZ (fs:Ev->Mo (List W)):Ev->Mo (List W):=λρ n Q=>fs ρ n λq m=>on2 q λx y=>onT x λl=>onT y λk=>l.length=k.length/\Q (ziW l k) m
abbrev zqX (fs:Ev->Mo (List W)):Ev->Mo (List W):=λρ n Q=>fs ρ n λq m=>on2 q λx y=>onL x λl=>onT y λk=>l.length=k.length/\Q (ziW l k) m
abbrev zqW (fs:Ev->Mo (List W)):Ev->Mo (List W):=λρ n Q=>fs ρ n λq m=>on2 q λx y=>onL x λl=>onL y λk=>Q (ziW l k) m
def zoU:zu0 fs=dItZ fs:=by funext ρ n Q;simp only[zu0,dItZ,zhq,zbv];congr 1;funext ws m;exact propext ⟨by rintro⟨i,j,e,h⟩;exact⟨_,_,e,i,rfl,j,rfl,h⟩,by rintro⟨x,y,e,i,q,j,B,h⟩;subst q B;exact⟨i,j,e,h⟩⟩
def zl6:zoT fs=zqX fs:=by funext ρ n Q;simp only[zoT,zqX,zhq,zbv,xH];congr 1;funext ws m;exact propext ⟨by rintro⟨i,j,e,h⟩;exact⟨_,_,e,i,rfl,j,rfl,h⟩,by rintro⟨x,y,e,i,q,j,B,h⟩;subst q B;exact⟨i,j,e,h⟩⟩
def zl5:zoS fs=zqW fs:=by funext ρ n Q;simp only[zoS,zqW,zhq,xH];congr 1;funext ws m;exact propext ⟨by rintro⟨i,j,e,h⟩;exact⟨_,_,e,i,rfl,j,rfl,h⟩,by rintro⟨x,y,e,i,q,j,B,h⟩;subst q B;exact⟨i,j,e,h⟩⟩
abbrev dIfS (t:Ev->Mo Bool) (f g:Ms):Ms:=λρ n k=>t ρ n λc m=>onC c (blk f ρ m k) (blk g ρ m k)
def zz {f g:Ms}:zuV t f g=dIfS t f g:=by funext ρ n k;simp only[zuV,dIfS,u9]
abbrev zup (i:Nat):Ms:=λρ n k=>onV ρ i λw=>k.rt w n
def zaO:zo0 i=zup i:=by funext ρ n k;exact zaq.symm
abbrev dSet (i:Nat) (f:Ev->Mo W):Ms:=λρ n k=>f ρ n λw m=>onP ρ i w λq=>k.nx q m
def zl:zoN f (gN i)=dSet i f:=by show zoN f (gN i)=zoN f (eN i);rw[zF]
abbrev dOwn (i:Nat) (f:Ev->Mo W):Ms:=λρ n k=>f ρ n λw m=>onC (W.mut w) (onP ρ i w λρ'=>k.nx ρ' m) False
def yt:zrK i f=dOwn i f:=by funext ρ n k;simp only[zrK,dOwn,ur (Q:=λρ'=>k.nx ρ' _)];congr 1;funext w m;cases h:W.mut w <;> simp
abbrev dApp (i:Nat) (f:Ev->Mo W):Ms:=λρ n k=>onV ρ i λv=>onL v λl=>f ρ n λw m=>onD w λd=>l.length<lim/\onP ρ i (.d (.lst (l++[d]))) λq=>k.nx q m
def zcn:(onV ρ i λv=>onL v P) = ∃l,ρ[i]?=some (some (.d (.lst l)))/\P l:=by simp only[zaq,xH];exact propext ⟨by simp_all,by simp_all⟩
def zra{P:List (List Int×Dt)->Prop}:(onV ρ i λv=>onE v P) = ∃l,ρ[i]?=some (some (.dt l))/\P l:=by simp only[zaq,zhr];exact propext ⟨by simp_all,by simp_all⟩
def u7:ztT i f=dApp i f:=by
 funext ρ n k;simp only[ztT,dApp,zcn,x4,ur (Q:=λq=>k.nx q _)];refine propext ⟨λ⟨⟨l,e⟩,h⟩=>⟨l,e,?_⟩,λ⟨l,e,h⟩=>⟨⟨l,e⟩,?_⟩⟩
 all_goals
  simp_all
abbrev dExt (i:Nat) (f:Ev->Mo W):Ms:=λρ n k=>onV ρ i λv=>onL v λl=>f ρ n λw m=>onL w λB=>l.length+B.length<=lim/\onP ρ i (.d (.lst (l++B))) λq=>k.nx q m
def zgo:zuU i f=dExt i f:=by
 funext ρ n k;simp only[zuU,dExt,zcn];simp only[xH,ur (Q:=λq=>k.nx q _)];refine propext ⟨λ⟨⟨l,e⟩,h⟩=>⟨l,e,?_⟩,λ⟨l,e,h⟩=>⟨⟨l,e⟩,?_⟩⟩
 all_goals
  simp_all
abbrev dIns (i:Nat) (fk f:Ev->Mo W):Ms:=λρ n k=>onV ρ i λv=>onL v λl=>fk ρ n λy m=>f ρ m λw B=>onD w λd=>onI y λj=>(0<=j/\j<=l.length/\l.length<lim)/\onP ρ i (.d (.lst (znm l j.toNat d))) λq=>k.nx q B
def zoP:zuW i fk f=dIns i fk f:=by
 funext ρ n k;simp only[zuW,dIns,zcn,x4,xG,ur (Q:=λq=>k.nx q _)];refine propext ⟨λ⟨⟨l,e⟩,h⟩=>⟨l,e,?_⟩,λ⟨l,e,h⟩=>⟨⟨l,e⟩,?_⟩⟩
 all_goals
  refine (congrArg (fk ρ n) ?_).mp h;funext y m;refine congrArg (f ρ m) ?_;funext w m2;refine propext ?_;simp[e,and_assoc]
abbrev zq2 (i:Nat) (fk:Ev->Mo W):Ms:=λρ n k=>onV ρ i λv=>onL v λl=>fk ρ n λy m=>onI y λj=>(0<=j/\j<l.length/\l.length<=lim)/\onP ρ i (.d (.lst (l.eraseIdx j.toNat))) λq=>k.nx q m
def zl8:zoZ i fk=zq2 i fk:=by
 funext ρ n k;simp only[zoZ,zq2,zcn,xG,ur (Q:=λq=>k.nx q _)];refine propext ⟨λ⟨⟨l,e⟩,h⟩=>⟨l,e,?_⟩,λ⟨l,e,h⟩=>⟨⟨l,e⟩,?_⟩⟩
 all_goals
  refine (congrArg (fk ρ n) ?_).mp h;funext y m;refine propext ?_;simp[e,and_assoc]
abbrev ztN (i:Nat):Ms:=λρ n k=>onV ρ i λv=>onL v λl=>onP ρ i (.d (.lst l.reverse)) λq=>k.nx q n
abbrev dPut (i:Nat) (fk f:Ev->Mo W):Ms:=λρ n k=>onV ρ i λv=>onL v λl=>f ρ n λw m=>fk ρ m λy B=>onD w λd=>onI y λj=>(0<=j/\j<l.length)/\onP ρ i (.d (.lst (l.set j.toNat d))) λq=>k.nx q B
def zjV:zu3 i fk f=dPut i fk f:=by
 funext ρ n k;simp only[zu3,dPut,zcn,x4,xG,ur (Q:=λq=>k.nx q _)];refine propext ⟨λ⟨⟨l,e⟩,h⟩=>⟨l,e,?_⟩,λ⟨l,e,h⟩=>⟨⟨l,e⟩,?_⟩⟩
 all_goals
  refine (congrArg (f ρ n) ?_).mp h;funext y m;refine congrArg (fk ρ m) ?_;funext w m2;refine propext ?_;simp[e,and_assoc]
abbrev onSt (w:W) (P:List Int->Prop):Prop:=∃st,w = .d (stD st)/\P st
abbrev znc (fd fk:Ev->Mo W):Ev->Mo W:=λρ n Q=>fd ρ n λx q=>fk ρ q λy B=>onE x λkvs=>∃st,y = .d (stD st)/\onO (yy kvs st) λd=>Q (.d d) B
def yM:zjT fd fk=znc fd fk:=by
 funext ρ n Q;simp only[zjT,znc,zhr,zbu]
 grind
abbrev znd (i:Nat) (fk f:Ev->Mo W):Ms:=λρ n k=>onV ρ i λv=>onE v λkvs=>f ρ n λw m=>fk ρ m λy B=>onD w λd=>∃st,y = .d (stD st)/\kvs.length<lim/\onP ρ i (.dt (zeI kvs st d)) λq=>k.nx q B
def zco:zjU i fk f=znd i fk f:=by
 funext ρ n k;simp only[zjU,znd,zra,x4,ur (Q:=λB=>k.nx B _)];refine propext ⟨λ⟨⟨l,e⟩,h⟩=>⟨l,e,?_⟩,λ⟨l,e,h⟩=>⟨⟨l,e⟩,?_⟩⟩
 all_goals
  refine (congrArg (f ρ n) ?_).mp h;funext y m;refine congrArg (fk ρ m) ?_;funext w m2;refine propext ?_;constructor
 ·rintro⟨kvs,st,d,q,D,F,h1,h2⟩;rw[e] at q;cases q;exact⟨d,D,st,F,h1,h2⟩
 ·simp_all
 ·simp_all
 ·rintro⟨kvs,st,d,q,D,F,h1,h2⟩;rw[e] at q;cases q;exact⟨d,D,st,F,h1,h2⟩
abbrev zqZ (i j:Nat):Ms:=λρ n k=>onV ρ j λw=>onN ρ j λq=>onP q i w λB=>k.nx B n
def zd7:zoV i j=zqZ i j:=by funext ρ n k;simp only[zoV,zqZ,zaq,ur (Q:=λq=>k.nx q _),znv (Q:=λB=>k.nx (B.set i (some _)) n)]
abbrev dPar (i j:Nat) (fs:Ev->Mo (List W)):Ms:=λρ n k=>fs ρ n λD m=>on2 D λw u=>onP ρ i w λq=>onP q j u λB=>k.nx B m
abbrev dIsi (B:Dt->Bool) (f:Ev->Mo W):Ev->Mo W:=λρ n Q=>f ρ n λw m=>onD w λd=>Q (.d (.bl (B d))) m
def zcp:zoQ B f=dIsi B f:=by funext ρ n Q;simp only[zoQ,dIsi,x4]
abbrev zg0 (fs:Ev->Mo (List W)):Ev->Mo W:=λρ n Q=>fs ρ n λq m=>on1 q λx=>onI x λj=>(0<=j/\j<=1000)/\Q (.d (.lst (zeu j.toNat))) m
abbrev zq7 (fs:Ev->Mo (List W)):Ev->Mo W:=λρ n Q=>fs ρ n λq m=>on1 q λx=>onI x λj=>(0<=j/\j<=1000)/\Q (.d (.tup (zeu j.toNat))) m
def zsS {q:List W}{P:Nat->Prop}:(∃j:Nat,q=[.d (.int (j:Int))]/\j<=1000/\P j)=on1 q λx=>onI x λj=>(0<=j/\j<=1000)/\P j.toNat:=by simp only[u8,xG];exact propext ⟨by rintro⟨j,e,h1,h⟩;exact⟨_,e,_,rfl,⟨by lia,by lia⟩,by simpa using h⟩,by rintro⟨x,e,j,B,⟨h1,h2⟩,h⟩;exact⟨j.toNat,by grind,by lia,h⟩⟩
def xT:zd6 fs=zg0 fs:=by funext ρ n Q;simp only[zd6,zg0];congr 1;funext ws m;exact zsS (P:=λj=>Q (.d (.lst (zeu j))) m)
abbrev dTru (f:Ev->Mo W):Ev->Mo Bool:=λρ n Q=>f ρ n λw m=>onO (truD w) λb=>Q b m
def zo3:zu6 f=dTru f:=by funext ρ n Q;simp only[zu6,dTru,zbu]
abbrev dChain (F G:W->W->Mo W) (fa fb fc:Ev->Mo W):Ev->Mo W:=λρ n Q=>fa ρ n λx B=>fb ρ B λy D=>F x y D λz q=>onB z λk=>onC k (fc ρ q λu I=>G y u I Q) (Q (.d (.bl false)) q)
def zgY{α:Type}(xs:List α)(D:α->W)(Z:l=xs.map D)(L:xs.length<=lim)(I:Nat->Ev->Nat->List Dt->Prop)(h0:I 0 J n [])(h:∀i a q F acc,xs[i]?=some a->I i q F acc->∀C:Ev->Nat->List Dt->Prop,(∀ {ρ m l},I (i+1) ρ m l->C ρ m l)->mg (D a) q λB=>O B F λb Y=>onC b (U B Y λx n3=>onD x λd=>C B n3 (acc++[d])) (C B Y acc))(fin:∀ q F acc,I xs.length q F acc->Q (.d (.lst acc)) F):zeS mg O U J Q l n:=by
 refine zlq xs D Z L I h0 (λi a q F acc ha hI C hC=>?_) fin;have:=h i a q F acc ha hI C hC;simp only[u9,x4] at this;exact this
def zdN{α:Type}(xs:List α)(D:α->W)(Y:l=xs.map D)(J:Ev->Prop)(P:α->Bool)(E:α->Dt)(I:xs.length<=lim)(Z:J F)(h:∀a∈xs,∀ B,J B->∀C:Ev->Nat->Option Dt->Prop,(∀ {q},P a=true->J q->C q n (some (E a)))->(∀ {q},P a=false->J q->C q n none)->mg (D a) B λq=>L q n λb U=>onC b (O q U λx n3=>onD x λd=>C q n3 (some d)) (C q U none))(fin:Q (.d (.lst ((xs.filter P).map E))) n):zeS mg L O F Q l n:=by
 refine ziT xs D Y J P E I Z (λa ha B hj C hC=>?_) fin;have:=h a ha B hj C (λ{q} e z=>by simp_all) λ{q} e z=>by have:=hC q z;rwa[if_neg (by rw[e];decide)] at this
 simp only[u9,x4] at this;exact this
def zaC{α:Type}(xs:List α)(D:α->W)(O:l=xs.map D)(J:Ev->Prop)(E:α->Dt)(I:xs.length<=lim)(U:J F)(h:∀a∈xs,∀ B,J B->∀C:Ev->Nat->Dt->Prop,(∀ {q},J q->C q n (E a))->mg (D a) B λq=>L q n λx Y=>onD x λd=>C q Y d)(fin:Q (.d (.lst (xs.map E))) n):zeS mg ztU L F Q l n:=by
 refine zlr xs D O J E I U (λa Z B hj C hC=>?_) fin;have:=h a Z B hj C λ{q} z=>hC q z;simp only[x4] at this;exact this
def znQ{t:Ev->Mo Bool}{fb:Ms}{ρ:Ev}{k:Kt}(I:Nat->Ev->Nat->Prop)(L:Nat)(U:I L ρ n)(h:∀m q F,I m q F->∀ (C B:Ev->Nat->Prop) (E:W->Nat->Prop),(∀ {ρ n} (D:Nat),D<m->I D ρ n->C ρ n)->(∀ {ρ n},k.nx ρ n->B ρ n)->(∀ {w n},k.rt w n->E w n)->t q F λb O=>onC b (blk fb q O { rt:=E,nx:=C,ct:=C,bk:=B }) (B q O)):zjY t fb ρ n k:=by
 refine zk8 I L U λm q F Y=>?_;have:=h m q F Y (λJ Z=>∃D,D<m/\I D J Z) k.nx k.rt (λD a b=>⟨D,a,b⟩) (λz=>z) λz=>z;simp only[u9,zqM] at this;exact this
end
open PySem PySem.Spec L2
abbrev rep:Nat->(Ev->Prop)->Prop
 | 0,Q=>Q []
 | k+1,Q=>rep k λρ=>Q (none::ρ)
abbrev beg:List W->Nat->(Ev->Prop)->Prop
 | [],r,Q=>rep r Q
 | w::q,r,Q=>beg q r λρ=>Q (some w::ρ)
def zkD:∀ {r:Nat} {Q:Ev->Prop},rep r Q=Q (List.replicate r none)
 | 0,Q=>rfl
 | r+1,Q=>by rw[rep,zkD];rfl
def ziI:∀ {q:List W} {r:Nat} {Q:Ev->Prop},beg q r Q=Q (q.map some++List.replicate r none)
 | [],r,Q=>by rw[beg,zkD];rfl
 | w::q,r,Q=>by rw[beg,ziI];rfl
def znt {P:Program}{w:World}{K:PySem.W.Frag}{mg:Str->Option Value}{base:Heap}{D:Str}{st:Stmt}{f:Addr}{fd:FuncData}{N ps:List Str}{k m:Nat}{fr:Bool}{F:Option zr->List W->Mo W}(M:List Nat)(r:Nat)(L:(∀vs H Q E,spV m fr F vs H Q E->vs.length=ps.length)->(∀ (B:Value) (A:Around) (q:List Env) (s:Shared) (H:Hp) (vs:List V) (Q:VK) (E:XK),Room k (A.deeper (PyProof.Rows.envOfC D (zf st) s.heap.objs.size f B))->spV m fr F vs H Q E->
   ∃t,QSs (zcX CX0 P w K mg base N D (zf st) f B A q s H E).nox (zP st) t/\t { nx:=λ_ H'=>Q .non H',rt:=Q } (L2.xj N vs) H)->FnOk P w K mg base CX0 (k+1) f fd ps (spV m fr F)) (O:m=ps.length) (U:∀i∈M,m<=i) (Y:N.length=m+r)
  (I:∀ (B:Value) (A:Around) (q:List Env) (s:Shared) (H:Hp) (E:XK) (Pn:Option zr),Room k (A.deeper (PyProof.Rows.envOfC D (zf st) s.heap.objs.size f B))->
   ∃fs,JSs (zcX CX0 P w K mg base N D (zf st) f B A q s H E).nox Pn [] M fr (zP st) fs/\∀J n R,F Pn J n R->beg J r λρ=>fs ρ n { nx:=λ_ Z=>onC fr False (R (.d .non) Z),rt:=R }):FnOk P w K mg base CX0 (k+1) f fd ps (spV m fr F):=by
 refine zrP M L O U λB A q s H E Pn hr=>?_;obtain⟨fs,h1,h2⟩:=I B A q s H E Pn hr;refine⟨fs,h1,λJ n R hl hF=>?_⟩;have:=h2 J n R hF;rw[ziI] at this;have e:xB N J=J.map some++List.replicate r none:=by unfold xB;rw[Y,hl,Nat.add_sub_cancel_left]
 grind
def Fun.okW(M:List Nat)(r:Nat)(Fu:Fun K x q st f fd)(S:FnScope N ps (zf st))(L:m=ps.length)(O:∀i∈M,m<=i)(U:N.length=m+r)(B:∀ (I:Value) (A:Around) (D:List Env) (s:Shared) (H:Hp) (E:XK) (Pn:Option zr),Room k (A.deeper (PyProof.Rows.envOfC q (zf st) s.heap.objs.size f I))->
   ∃fs,JSs (zcX CX0 P w K mg base N q (zf st) f I A D s H E).nox Pn [] M fr (zP st) fs/\∀J n R,F Pn J n R->beg J r λρ=>fs ρ n { nx:=λ_ Y=>onC fr False (R (.d .non) Y),rt:=R }):FnOk P w K mg base CX0 (k+1) f fd ps (spV m fr F):=znt M r (λl b=>Fun.okQ Fu S l b) L O U B
def FunD.okW(M:List Nat)(r:Nat)(Fu:FunD K x q st f fd)(S:FnScope N ps (zf st))(L:m=ps.length)(O:∀i∈M,m<=i)(U:N.length=m+r)(B:∀ (I:Value) (A:Around) (D:List Env) (s:Shared) (H:Hp) (E:XK) (Pn:Option zr),Room k (A.deeper (PyProof.Rows.envOfC q (zf st) s.heap.objs.size f I))->
   ∃fs,JSs (zcX CX0 P w K mg base N q (zf st) f I A D s H E).nox Pn [] M fr (zP st) fs/\∀J n R,F Pn J n R->beg J r λρ=>fs ρ n { nx:=λ_ Y=>onC fr False (R (.d .non) Y),rt:=R }):FnOk P w K mg base CX0 (k+1) f fd ps (spV m fr F):=znt M r (λl b=>FunD.okQ Fu S l b) L O U B
abbrev dItS (i:Nat):Ev->Mo (List W):=λρ n Q=>onV ρ i λx=>onS x λl=>Q (l.map W.d) n
def zsP{fs:Ms}(h:rep r λρ=>fs (a::b::ρ) n k):fs (a::b::List.replicate r none) n k:=by rw[zkD] at h;exact h
def zu9 {G:Prop}(P:W->Prop)(h:(∀a,P a)->G)(r:∀a,P a):G:=h r
def len1 {st:List Int}{x:Dt}(h:st.length<=1000):(st.map Dt.int).length+[x].length<=lim:=by rw[ab];exact ay (by simp;lia:_<=1001) (by decide)
def cat1 {st:List Int}{x:Int}:st.map Dt.int++[Dt.int x]=(st++[x]).map Dt.int:=by simp_all
def zfU {st:List Int}{b x:Int}(q:0<=b)(B:st.length<=1000):xE (st.map Dt.int) none (some b)++[Dt.int x]++xE (st.map Dt.int) (some (b+1)) none=(chg st b x).map Dt.int:=by
 have key:∀z:W,zf5 (.d (.tup (xE (st.map Dt.int) none (some b)))) (.d (.tup [.int x])) 0 (λw m=>zf5 w (.d (.tup (xE (st.map Dt.int) (some (b+1)) none))) m λw' _=>w' = .d (stD (chg st b x))):=λz=>zn1 q B rfl;obtain⟨l,m,D,F,_,I,J,L,O,_,h⟩:=key (.d .non)
 grind
def zdK {st:List Int}{b:Int}{x:Dt}(q:st.length<=1000):(xE (st.map Dt.int) none (some b)).length+[x].length<=lim:=by have:=zb6 (st.map Dt.int) none (some b);rw[ab] at this;exact ay (by simp;lia:_<=1001) (by decide)
def zdL{st:List Int}{b c:Int}(q:st.length<=1000):(xE (st.map Dt.int) none (some b)++[x]).length+(xE (st.map Dt.int) (some c) none).length<=lim:=by have h1:=zb6 (st.map Dt.int) none (some b);have h2:=zb6 (st.map Dt.int) (some c) none;rw[ab] at h1 h2;rw[aD];exact ay (by simp;lia:_<=2001) (by decide)
def scR (mg:W->Ev->(Ev->Prop)->Prop)(L:Ev->Mo Bool)(O:Ev->Mo W)(F:Ev)(Q:List (List Int)->Nat->Prop):List W->Nat->Prop:=λl U=>∃I:Nat->Ev->Nat->List (List Int)->Prop,I 0 F U []/\
 (∀i w q D acc,l[i]?=some w->I i q D acc->mg w q λB=>L B D λb J=>if b=true then O B J λx Y=>∃st,x = .d (stD st)/\I (i+1) B Y (acc++[st]) else I (i+1) B J acc)/\
 (∀i q D acc ks,I i q D acc->List.Nodup ks->(∀z∈ks,z∈acc)->ks.length<300)/\
 ∀ q D acc ks,I l.length q D acc->List.Nodup ks->(∀z,z∈ks↔z∈acc)->Q ks D
abbrev zjW (q:Ev->Mo (List W)) (mg:W->Ev->(Ev->Prop)->Prop) (B:Ev->Mo Bool) (D:Ev->Mo W) (cix:List (Option Nat)):Ev->Mo W:=λρ n Q=>q ρ n (scR mg B D (zcR ρ cix) λks F=>∃m,ks.length<64/\1<=m/\(∀st∈ks,st.length=m)/\∀l':List (List Int),l'.Perm ks->(l'.Pairwise λa b=>HT.lexLt a b=true)->Q (.d (xL l')) F)
def zka:NP (zhB P w a xs):=λ_ e=>by cases e
def zp7{ks:List (List Int)}(S:zeM P w (upd H acc o) acc ks):NP o/\∀xs,o≠.tup xs:=by obtain⟨xs,h1,_⟩:=S;rw[zk] at h1;cases h1;exact⟨zka,λ_ e=>by cases e⟩
section
variable {X:Cx}{Pn:Option zr}{M S:List Nat}{fr fr':Bool}{pos p:Pos}
def zkC{P:Program}{w:World}{wi:TI}{g:TG}{ti:TT}{te:TE}{cix:List (Option Nat)}{fi:Ev->Mo (List W)}{mg:W->Ev->(Ev->Prop)->Prop}{ft:Ev->Mo Bool}{fe:Ev->Mo W}(hn:(cix.filterMap id).Nodup)(hi:RI Pn M ow wi fi)(hg:RG (yX M cix) (yX M cix) g mg)(ht:RT Pn (yX M cix) ti ft)(he:RE Pn (yX M cix) fr' te fe):RE Pn M true (tCB (znE P w) (zcN (zqi P w wi g ti te cix) znO)) (zjW fi mg ft fe cix):=⟨λA σ H ρ n Q R E Pp hf k=>by
 refine hi.run A σ H ρ n _ _ E Pp hf λl m J H1 ⟨I,i0,it,ib,ie⟩ iv g1=>λacc D S0=>?_;have E1:=E.stay g1.st;have E2:=(E1.cap hn).more (zB.upd (o:=zhB P w acc []) D) (Fr.of D) zk zka (by intro xs z;cases z);have P2:xu Pn (λb=>A b\/b=acc) m (L2.upd H1 acc (zhB P w acc [])):=g1.pn.grow (g1.pn.same (xh.upd D)) (Fr.of D) zk zka
 have bx:∀k w,k∈yX M cix->(zcR ρ cix)[k]?=some (some w)->(zaB σ cix)[k]?≠some (some (.ref acc)):=λk w hk hw z=>by obtain⟨v,Z,_,s3⟩:=(E1.cap hn).val k w hw;obtain⟨a,e,hA,_⟩:=s3 hk;rw[z] at Z;cases Z;cases e;exact E1.new D hA
 have key:∀ F q H',EnvR (λb=>A b\/b=acc) (yX M cix) F H' q->(∀k∈yX M cix,F[k]?=(zaB σ cix)[k]?/\q[k]?=(zcR ρ cix)[k]?)->∀k w,k∈yX M cix->q[k]?=some (some w)->F[k]?≠some (some (.ref acc)):=λF q H' E' ap k w hk hw z=>by simp_all
 refine⟨λi mm F H'=>mm=l.length - i/\i<=l.length/\∃ q O B ks,EnvR (λb=>A b\/b=acc) (yX M cix) F H' q/\xu Pn (λb=>A b\/b=acc) O H'/\I i q O B/\zeM P w H' acc ks/\(∀z,z∈ks↔z∈B)/\zB (z8 A H1) (z8 (λb=>A b\/b=acc) H')/\zB H1 H'/\(∀k∈yX M cix,F[k]?=(zaB σ cix)[k]?/\q[k]?=(zcR ρ cix)[k]?),
  ⟨l.length,by simp,aN _,_,m,[],[],E2,P2,i0,S0,λ_=>Iff.rfl,yI (zB.upd D) (Fr.of D),zB.upd D,λk hk=>⟨rfl,rfl⟩⟩,?_⟩
 rintro i mm F H' ⟨rfl,b0,q,O,B,ks,E',P',hI,hS,hm,st,Z,ap⟩;have a0:ks.Nodup:=hS.choose_spec.2.2.2;by_cases a1:i<l.length
 ·right;have an:l[i]?=some l[i]:=ah a1;obtain⟨go,yl⟩:=iv.one i l[i] _ H' an st (λ_=>Z) λp hp=>E'.new hp
  refine⟨go,λas H2=>∃ q O B ks,EnvR (λb=>A b\/b=acc) (yX M cix) as H2 q/\xu Pn (λb=>A b\/b=acc) O H2/\I (i+1) q O B/\zeM P w H2 acc ks/\(∀z,z∈ks↔z∈B)/\zB (z8 A H1) (z8 (λb=>A b\/b=acc) H2)/\zB H1 H2/\(∀k∈yX M cix,as[k]?=(zaB σ cix)[k]?/\q[k]?=(zcR ρ cix)[k]?),
   λas H2 h=>⟨l.length - (i+1),by lia,rfl,a1,h⟩,λx H2 hy=>?_⟩
  obtain⟨S2,V2⟩:=yl x H2 hy;refine hg.run _ F H2 q x l[i] _ _ (E'.stay (zB.same S2)) V2 (it i l[i] q O B an hI) λad L r3 E3 f3=>?_;have U:∀k∈yX M cix,ad[k]?=(zaB σ cix)[k]?/\L[k]?=(zcR ρ cix)[k]?:=λk hk=>⟨(f3 k hk).1.trans (ap k hk).1,(f3 k hk).2.trans (ap k hk).2⟩;refine ht.run _ ad H2 L O _ _ E3 (P'.same S2) r3 λb m3 H4 r4 g4=>?_;have ag:=(zB.same S2).trans g4.st
  cases b with
  | false=>
   rw[if_neg (by decide)] at r4 ⊢;exact⟨L,m3,B,ks,E3.stay g4.st,g4.pn,r4,hS.stay ag,hm,st.trans (zQ ag),Z.trans ag,U⟩
  | true=>
   rw[if_pos rfl] at r4 ⊢;refine he.run _ ad H4 L m3 _ _ (E3.stay g4.st) g4.pn r4  ?_;rintro w5 m5 v5 H5 ⟨d,e5,r5⟩ V5 g5 _;subst e5;have av:=ag.trans g5.st;have E5:=(E3.stay g4.st).stay g5.st;obtain⟨b,rfl,hb⟩:=ztB V5;refine⟨b,d,ks,rfl,hb,hS.stay av,ib i q O B ks hI a0 λz hz=>(hm z).mp hz,λo a7 S' bb b1=>?_⟩;obtain⟨np,nt⟩:=zp7 S';refine⟨L,m5,B++[d],a7,E5.upd (.inr rfl) (key ad L H5 E5 U) np nt,g5.pn.upd (.inr rfl),r5,S',λz=>?_,?_,?_,U⟩
   ·rw[bb z,aH,aw,hm z,or_comm]
   ·rw[yq (.inr rfl)];exact st.trans (zQ av)
   ·exact λb o e nn=>by rw[zg (zc e D)];exact Z.trans av b o e nn
 ·refine Or.inl ?_;have bd:i=l.length:=by lia
  subst bd;refine⟨iv.stop _ H' st (λ_=>Z),?_⟩;obtain⟨ml,bk,h1,bl,hq⟩:=ie q O B ks hI a0 hm;refine⟨acc,ks,ml,rfl,hS,bk,h1,bl,λys Y bn hp hu=>λp H3 a2 gp S3=>?_⟩;have bo:=Z.trans (zB.same S3);have a3:Al A H':=E1.al.stay Z;have bs:xu Pn A O H3:=(P'.same S3).less λa z=>.inl z;have a4:=a3.stay (zB.same S3);have a5:=bn.stay (zB.same S3);refine k _ O _ H3 (hq Y hp hu) (Val.of ⟨p,ys,rfl,zG (a3.new a2) gp,zaw a4.noT (uF Y) a5⟩) (g1.trans ⟨bo,bs⟩) λ_=>⟨p,rfl,((Fr.of a2).back Z).back g1.st,p,ys,rfl,gp,zaw (λb xs z e=>?_) (uF Y) a5⟩;rcases z with z | z
  ·exact a4.noT b xs z e
  ·subst z;rw[gp] at e;cases e⟩
def zlS {elt tg iter:Expr}{ifs:List Expr}{scope:Scope}{N:List Str}{cix:List (Option Nat)}{I:Ev->Mo (List W)}{mg:W->Ev->(Ev->Prop)->Prop}{J:Ev->Mo Bool}{L:Ev->Mo W}{U:Bool}{sp:Pos}(B:X.mg "sorted" = none)(Y:X.A.units+1<cLine)(O:X.calm=true)(Z:CompOk X scope N cix)
  (hi:JI X Pn M U tg iter I) (hg:∀C s H ex,JG (zw X scope N C s H ex) (yX M cix) (yX M cix) tg mg) (ht:∀C s H ex,JTs (zw X scope N C s H ex) Pn (yX M cix) ifs J) (he:∀C s H ex,JE (zw X scope N C s H ex) Pn (yX M cix) fr' elt L)
  (hn:(cix.filterMap id).Nodup:=by decide) (hs:∀x,foldedSetIterable iter X.env x=pure x:=by intro _;rfl) (D:Gl X "sorted" := by rfl) (q:starEach [.SetComp elt [⟨tg,iter,ifs,0⟩] scope sp] X.env=[(false,eval (.SetComp elt [⟨tg,iter,ifs,0⟩] scope sp) X.env)]:=by rfl) (F:(backTo pos (starEach [] X.env)).any (·.1)=false:=by rfl) :
  JE X Pn M true (.Call (.Name "sorted" p) [.SetComp elt [⟨tg,iter,ifs,0⟩] scope sp] [] pos) (zjW I mg J L cix):=by
 obtain⟨ti,qi,ri⟩:=hi.ex;obtain⟨g,qg,rg⟩:=zk4 hg;obtain⟨tt,qt,rt⟩:=zk5 ht;obtain⟨te,qe,re⟩:=zk3 he;exact⟨_,xq (zlv O) D B dl (zO (zig Y O Z qi qg qt qe hs) yC q) (by decide) (by decide) q F,zkC hn ri rg rt re⟩
end
def zqb{α:Type}{Q:List (List Int)->Nat->Prop}(xs:List α)(I:α->W)(hl:l=xs.map I)(J:Ev->Prop)(P:α->Bool)(E:α->List Int)(j0:J F)(h:∀a∈xs,∀ B,J B->∀C:Ev->Nat->Option (List Int)->Prop,(∀ {q},P a=true->J q->C q n (some (E a)))->(∀ {q},P a=false->J q->C q n none)->mg (I a) B λq=>ft q n λb n2=>onC b (fe q n2 λx O=>∃st,x = .d (stD st)/\C q O (some st)) (C q n2 none))(U:∀ks,List.Nodup ks->(∀z∈ks,z∈(xs.filter P).map E)->ks.length<300)(fin:∀ks,List.Nodup ks->(∀z,z∈ks↔z∈(xs.filter P).map E)->Q ks n):scR mg ft fe F Q l n:=by
 subst hl;refine⟨λi B L acc=>J B/\L=n/\acc=((xs.take i).filter P).map E,⟨j0,rfl,by simp⟩,?_,?_,?_⟩
 ·rintro i w B L acc hw ⟨hj,rfl,rfl⟩;rw[am] at hw;obtain⟨a,Y,rfl⟩:=aB.mp hw
  have:=h a (aj Y) B hj (λq O o=>match o with
   | some d=>J q/\O=L/\((xs.take i).filter P).map E++[d]=((xs.take (i+1)).filter P).map E
   | none=>J q/\O=L/\((xs.take i).filter P).map E=((xs.take (i+1)).filter P).map E) (λ{q} Z D=>by
    rw[zh Y,cR,aE]
    exact⟨D,rfl,by simp[Z]⟩) (λ{q} Z D=>by
    rw[zh Y,cR,aE];exact⟨D,rfl,by simp[Z]⟩)
  simp only[u9] at this;exact this
 ·rintro i B L acc ks ⟨_,rfl,rfl⟩ hn hk;refine U ks hn λz hz=>?_
  grind
 ·simp_all
open PySem PySem.Spec L2
abbrev dGetI (fd fk q:Ev->Mo W):Ev->Mo W:=λρ n Q=>fd ρ n λx B=>onK x λkvs=>fk ρ B λy D=>q ρ D λz F=>onO (zuR y) λk=>onI z λi=>Q (.d ((yy kvs k).getD (.int i))) F
section
variable {X:Cx}{Pn:Option zr}{M:List Nat}{a b c:Expr}{fa fb fc:Ev->Mo W}{apos cpos:Pos}
end
end L3
namespace L2
open PySem PySem.Spec PyProof.Rows
section
variable {X:Cx}{e lo st:Expr}{te tl tk:TE}{pos p2:Pos}
end
end L2
namespace L3
open PySem PySem.Spec L2
abbrev dFromL (fa fl fk:Ev->Mo W):Ev->Mo W:=λρ n Q=>fa ρ n λx q=>onL x λl=>fl ρ q λy B=>onI y λc=>fk ρ B λz D=>onI z λk=>(0<=c/\1<=k)/\∀ys:List Dt,ys.Sublist (l.drop c.toNat)->Q (.d (.lst ys)) D
section
variable {X:Cx}{Pn:Option zr}{M:List Nat}{e lo st:Expr}{f fl fk:Ev->Mo W}{pos p2:Pos}
end
open PySem PySem.Spec L2
def zgm (A:Addr->Prop)(a:Addr):Addr->Prop:=λb=>A b/\b≠a
def zou:HO:=.dK [(Sum.inr "at",.non)]
def zjm:¬ NP zou:=λh=>by have:=h _ rfl;rw[xt (p:=((Sum.inr "at" : Key),V.non)) rfl] at this;cases this
abbrev zjj (H:Hp)(a:Addr):Hp:=L2.upd H a zou
def zjk:zjj H a a=some zou:=zk
def zcf(h:b≠a):zjj H a b=H b:=zg h
def zjl:Fr (zjj H a) a:=λo e=>by rw[zjk] at e;cases e;exact zjm
def zaH(B:A a):zB (z8 A H) (z8 (zgm A a) (zjj H a)):=λb o e D=>by
 obtain⟨h1,h2⟩:=yJ.mp e;by_cases q:b=a
 ·simp_all
 ·exact zG (λz=>h1 z.1) (by rw[zcf q];exact h2)
def ziF(q:Al A H):Al (zgm A a) (zjj H a):=λb z=>by obtain⟨o,h1,h2⟩:=q b z.1;exact⟨o,by rw[zcf z.2];exact h1,h2⟩
def WAt.top(h:WAt T G u (.ref c))(e:T' c=T c)(hm:u.mut=true):WAt T' G u (.ref c):=by
 cases u with
 | d x=>
  cases x with
  | lst l=>obtain⟨a2,xs,e2,g1,g2⟩:=h;cases e2;exact⟨c,xs,rfl,by rw[e];exact g1,g2⟩
  | dct=>obtain⟨a2,xs,e2,g1,g2⟩:=h;cases e2;exact⟨c,xs,rfl,by rw[e];exact g1,g2⟩
  | _=>cases hm
 | pen p=>cases hm
 | dk kvs=>obtain⟨a2,xs,e2,g1,g2,g3⟩:=h;cases e2;exact⟨c,xs,rfl,by rw[e];exact g1,g2,g3⟩
 | dt kvs=>obtain⟨a2,xs,e2,g1,g2⟩:=h;cases e2;exact⟨c,xs,rfl,by rw[e];exact g1,g2⟩
 | ss P w kvs=>obtain⟨a2,xs,e2,g1,g2⟩:=h;cases e2;exact⟨c,xs,rfl,by rw[e];exact g1,g2⟩
 | df kvs=>obtain⟨a2,ob,xs,e2,g1,g2⟩:=h;cases e2;exact⟨c,ob,xs,rfl,by rw[e];exact g1,g2⟩
 | kf kvs=>obtain⟨a2,ob,xs,e2,g1,g2⟩:=h;cases e2;exact⟨c,ob,xs,rfl,by rw[e];exact g1,g2⟩
section
variable {X:Cx}{Pn:Option zr}{M S:List Nat}{fr fr':Bool}{pos p:Pos}
def At3.put(a:At3 Pn B S M A σ H ρ n)(hi:i∈M)(hs:i∉S)(g':Go Pn A H m H')(hF:Fr H ad)(hb:WAt H' (z8 (λb=>A b\/b=ad) H') w (.ref ad))(hm:w.mut=true) :
  At3 Pn B S M (λb=>A b\/b=ad) (σ.set i (some (.ref ad))) H' (ρ.set i (some w)) m:=by
 obtain⟨a2,o,e2,ho,np,nt⟩:=zj3 hb hm;cases e2;have E1:=a.env.more g'.st hF ho np nt;have hnA:¬ A ad:=a.env.newF hF;refine⟨⟨?_,?_,?_,E1.al⟩,⟨λb z=>.inl (a.frm.sub b z),λb z=>?_,λb o e n c=>g'.st b o (a.frm.st b o e n c) n,a.frm.al,a.frm.cn,λb z=>let ⟨o,e,n⟩:=a.frm.cs b z;⟨o,g'.st b o e n,n⟩⟩,a.pn.grow' g'.pn hF ho np,a.prot.trans (yI g'.st hF),λj hj=>?_,λj u b hj e s=>?_⟩
 ·rw[bc,bc];exact a.env.len
 ·intro j u e;by_cases hj:j=i
  ·subst hj
   have hl:j<ρ.length:=by
    have:=(ac.mp e).1
    simp_all
   rw[aM hl] at e;cases e;exact⟨.ref ad,aM (by rw[a.env.len];exact hl),λz=>absurd hi z,λ_=>⟨ad,rfl,.inr rfl,hb,hm⟩⟩
  ·rw[ar (Ne.symm hj)] at e ⊢;exact E1.val j u e
 ·intro j l u u' b hj hl hne e1 e2 s1 s2
  have own:∀q u,q∈M->q≠i->ρ[q]?=some (some u)->σ[q]?≠some (some (.ref ad)):=λq u hq hqi eq sq=>by
   obtain⟨v,s,_,s3⟩:=a.env.val q u eq;obtain⟨c,ec,hc,_⟩:=s3 hq
   simp_all
  have len:∀q (u:W),(ρ.set i (some w))[q]?=some (some u)->q<σ.length:=λq u e=>by have:=(ac.mp e).1;rw[bc] at this;rw[a.env.len];exact this
  by_cases hji:j=i
  ·subst hji;rw[aM (len _ _ e1)] at s1;cases s1;rw[ar hne] at e2 s2;exact own l u' hl (Ne.symm hne) e2 s2
  ·rw[ar (Ne.symm hji)] at e1 s1;by_cases hli:l=i
   ·simp_all
   ·rw[ar (Ne.symm hli)] at e2 s2;exact a.env.dis j l u u' b hj hl hne e1 e2 s1 s2
 ·rcases z with z | z
  ·exact a.frm.new b z
  ·subst z;exact .inr (.inl (a.frm.back hF hnA))
 ·rw[ar λ(z:i=j)=>hs (by rw[z];exact hj)];exact a.fix j hj
 ·by_cases hji:j=i
  ·subst hji
   have hl:j<σ.length:=by
    have:=(ac.mp s).1
    simp_all
   rw[aM hl] at s;cases s;exact .inl (a.frm.back hF hnA)
  ·rw[ar (Ne.symm hji)] at e s;exact a.mine j u b hj e s
def At3.let'(a:At3 Pn B S M A σ H ρ n)(I:∀b,¬ B.ca b)(hi:i∈M)(e:ρ[i]?=some (some w))(s:σ[i]?=some (some (.ref F)))(J:A F) :
  At3 Pn B S M (zgm A F) σ (zjj H F) (ρ.set i none) n:=by
 have Z:Fr B.H0 F:=(a.mine i w F hi e s).resolve_right (I F)
 have O:∀ {j:Nat} {u:W},(ρ.set i none)[j]?=some (some u)->j≠i/\ρ[j]?=some (some u):=λ{j u} h=>by
  by_cases D:j=i
  ·subst D;rw[aM (ac.mp e).1] at h;cases h
  ·rw[ar (Ne.symm D)] at h;exact⟨D,h⟩
 refine⟨⟨?_,?_,?_,ziF a.env.al⟩,⟨λb z=>?_,λb z=>a.frm.new b z.1,λb o e' np nc=>?_,a.frm.al,a.frm.cn,λb z=>absurd z (I b)⟩,(a.pn.upd J).less λ_ z=>z.1,a.prot.trans (zaH J),a.fix,?_⟩
 ·rw[bc];exact a.env.len
 ·intro j u h;obtain⟨D,h⟩:=O h;obtain⟨v,U,s2,s3⟩:=a.env.val j u h;refine⟨v,U,λz=>WAt.up (zaH J) (zaH J) (s2 z),λz=>?_⟩;obtain⟨c,rfl,hc,hb,hm⟩:=s3 z
  have L:c≠F:=λq=>by subst q;exact a.env.dis i j w u c hi z (Ne.symm D) e h s U
  refine⟨c,rfl,⟨hc,L⟩,?_,hm⟩;exact WAt.top (WAt.up (zB.refl _) (zaH J) hb) (zcf L) hm
 ·intro j l u u' b D hl Y e1 e2;exact a.env.dis j l u u' b D hl Y (O e1).2 (O e2).2
 ·refine⟨a.frm.sub b z,λq=>?_⟩;subst q;obtain⟨o,o1,o2,_⟩:=a.frm.al b z;exact Z o o1 o2
 ·rw[zcf λq=>by subst q;exact Z o e' np];exact a.frm.st b o e' np nc
 ·intro j u b D h U;exact a.mine j u b D (O h).2 U
def spG (k:Nat)(fr:Bool)(F:Option zr->List W->Mo W):Sp:=λvs H Q _=>∃Pn A us zs w a n R,vs=us++[.ref a]/\Al A H/\A a/\zbQ A H zs us/\Bor A H w (.ref a)/\w.mut=true/\zs.length+1=k/\xu Pn A n H/\F Pn (zs++[w]) n R/\
 ∀w' m v H',R w' m->Val (zgm A a) H' w' v->zB (zjj H a) H'->xu Pn (zgm A a) m H'->(fr=true->FrV (zgm A a) (zjj H a) H' w' v)->Q v H'
abbrev dGiv (i:Nat) (F:List W->Mo W) (f1 f2:Ev->Mo W):Ms:=λρ n k=>f1 ρ n λw1 m1=>f2 ρ m1 λw2 m2=>onV ρ i λw=>F [w1,w2,w] m2 λw' m'=>onC (W.mut w') (onP ρ i w' λρ'=>k.nx ρ' m') False
def zsV(h1:RE Pn M b1 t1 f1)(h2:RE Pn M b2 t2 f2)(hi:i∈M)(hs:i∉S) :
  RS Pn S M fr (zfP (zfJ (spG 3 true F) [] E0 (zcN t1 (zcN t2 (zcN (zmU i) znO)))) (uW i)) (dGiv i (F Pn) f1 f2):=⟨λB A σ H ρ n k D a kk hf=>by
 refine h1.run A σ H ρ n _ _ a.env a.pn hf λw1 m1 v1 H1 r1 V1 g1 _=>?_;refine h2.run A σ H1 ρ m1 _ _ (a.env.stay g1.st) g1.pn r1 λw2 m2 v2 H2 r2 V2 g2 _=>?_;rw[zaq] at r2;obtain⟨w,ew,r2⟩:=r2;have a2:=(a.step g1).step g2;obtain⟨v,s1,_,s3⟩:=a2.env.val i w ew;obtain⟨ad,rfl,hA,hb,hm⟩:=s3 hi;refine⟨.ref ad,s1,?_⟩;show spG 3 true F ([v1,v2,.ref ad]++[]) H2 (λx H1=>uW i x σ H1 D.nx) E0;rw[et];refine⟨Pn,A,[v1,v2],[w1,w2],w,ad,m2,_,rfl,a2.env.al,hA,⟨v1,_,rfl,V1.stay g2.st,v2,_,rfl,V2,rfl⟩,hb,hm,rfl,g2.pn,r2,λw' m' v' H' r' hv st pn hfr=>?_⟩;rw[u9] at r'
 cases hm':W.mut w' with
 | false=>rw[hm'] at r';exact r'.elim
 | true=>
  rw[hm',if_pos rfl,ur] at r';obtain⟨a',rfl,hF,hb'⟩:=hfr rfl;have av:=a2.let' kk.fc hi ew s1 hA;have:=av.put hi hs ⟨st,pn⟩ hF hb' hm';rw[List.set_set] at this;exact kk.nx _ _ H' _ m' this r'⟩
def zrz{x y:Str}{st:Stmt}{ps:List Str}{fA:Addr}{fd:FuncData}{F:Option zr->List W->Mo W}{f1 f2:Ev->Mo W}{p3 px spos:Pos}(D:Dfn X.K X.mg y st ps fA fd)(G:FnOk X.prog X.w X.K X.mg X.base CX0 j fA fd ps (spG 3 true F))(hr:Room Z X.A)(h1:JE X Pn M b1 B f1)(h2:JE X Pn M b2 q f2)(hN:X.N.Nodup)(hi:X.N[i]?=some x)(hx:Loc X.env.scope x)(I:i∈M:=by decide)(J:i∉S:=by decide)(L:j<=Z:=by decide)(hg:Gl X y:=by rfl)(O:(y==("__debug__" : Str))=false:=by decide)(hv:Vis X.env.scope x:=by walk_at "v")(hd:(x==("__debug__" : Str))=false:=by decide)(U:(x==("__classdict__" : Str))=false:=by decide)(q1:starEach [B,q,.Name x p3] X.env=(false,eval B X.env)::starEach [q,.Name x p3] X.env:=by rfl)(q2:starEach [q,.Name x p3] X.env=(false,eval q X.env)::starEach [.Name x p3] X.env:=by rfl)(q3:starEach [.Name x p3] X.env=(false,eval (.Name x p3) X.env)::starEach [] X.env:=by rfl)(Y:(backTo pos (starEach [q,.Name x p3] X.env)).any (·.1)=false:=by rfl)(hs:swapsWith (.Call (.Name y p) [B,q,.Name x p3] [] pos) (some (.Name x px)) spos.line X.env=pure false:=by rfl)(hf:X.fn x=true\/X.env.scope.names.lookup x=some .local:=by walk_at "l") :
  JS X Pn S M fr (.Assign [.Name x px] (.Call (.Name y p) [B,q,.Name x p3] [] pos) spos) (dGiv i (F Pn) f1 f2):=by
 obtain⟨t1,p1,r1⟩:=h1.ex;obtain⟨t2,p2,r2⟩:=h2.ex;exact⟨_,x5 hN hi hx (zmz D G hr (zO p1 (zO p2 (zO (qv i hi hv hd U) yC q3) q2) q1) L hg O q1 Y) hs hf,zsV r1 r2 I J⟩
def zhX {A:Addr->Prop}{H:Hp}{N:List Str}{zs:List W}{us:List V}{w:W}{a:Addr}(al:Al A H)(hA:A a)(h:zbQ A H zs us)(hb:Bor A H w (.ref a))(hm:w.mut=true)(hg:zs.length∈M)(hM:∀i∈M,zs.length<=i) :
  EnvR A M (L2.xj N (us++[.ref a])) H (xB N (zs++[w]))/\∀i u,i∈M->(xB N (zs++[w]))[i]?=some (some u)->(L2.xj N (us++[.ref a]))[i]?=some (some (.ref a)):=by
 have hl:=h.len
 have few:∀i u,(xB N (zs++[w]))[i]?=some (some u)->i<zs.length+1/\(zs++[w])[i]?=some u:=λi u e=>by
  unfold xB at e
  have hi:i<(zs++[w]).length:=by
   apply bJ;intro z;rw[bg (by simp_all)] at e;obtain⟨_,q⟩:=ac.mp e
   simp_all
  rw[a8 (by simp_all),am] at e
  simp_all
 have at':∀i v,(us++[V.ref a])[i]?=some v->(L2.xj N (us++[.ref a]))[i]?=some (some v):=λi v e=>by unfold L2.xj;rw[a8 (by rw[ab];exact (ac.mp e).1),am,e];rfl
 have last:(us++[V.ref a])[zs.length]?=some (.ref a):=by rw[<- hl];simp
 refine⟨⟨?_,λi u e=>?_,λi j u u' b hi hj hne e1 e2=>?_,al⟩,λi u hi e=>?_⟩
 ·unfold L2.xj xB;simp[hl]
 ·obtain⟨h1,h2⟩:=few i u e;by_cases hi:i<zs.length
  ·rw[a8 hi] at h2;obtain⟨v,v1,v2⟩:=h.get h2;exact⟨v,at' i v (by grind),λ_=>v2,by grind⟩
  ·have hie:i=zs.length:=by lia
   subst hie;have:u=w:=by simpa using h2.symm
   subst this;exact⟨.ref a,at' _ _ last,λz=>absurd hg z,λ_=>⟨a,rfl,hA,hb,hm⟩⟩
 ·have h1:=(few i u e1).1;have h2:=(few j u' e2).1;have h3:=hM i hi;have h4:=hM j hj;exact absurd (show i=j by lia) hne
 ·have h1:=(few i u e).1;have h3:=hM i hi;have:i=zs.length:=by lia
  subst this;exact at' _ _ last
def zrO(M:List Nat)(r:Nat)(U:(∀vs H Q E,spG m fr F vs H Q E->vs.length=ps.length)->(∀ (D:Value) (A:Around) (B:List Env) (s:Shared) (H:Hp) (vs:List V) (Q:VK) (E:XK),Room k (A.deeper (PyProof.Rows.envOfC I (zf st) s.heap.objs.size f D))->spG m fr F vs H Q E->
   ∃t,QSs (zcX CX0 P w K mg base N I (zf st) f D A B s H E).nox (zP st) t/\t { nx:=λ_ H'=>Q .non H',rt:=Q } (L2.xj N vs) H)->FnOk P w K mg base CX0 (k+1) f fd ps (spG m fr F))(hm:m=ps.length)(hg:m - 1∈M)(hM:∀i∈M,m - 1<=i)(hN:N.length=m+r)(L:∀ (D:Value) (A:Around) (B:List Env) (s:Shared) (H:Hp) (E:XK) (Pn:Option zr),Room k (A.deeper (PyProof.Rows.envOfC I (zf st) s.heap.objs.size f D))->
   ∃fs,JSs (zcX CX0 P w K mg base N I (zf st) f D A B s H E).nox Pn [] M fr (zP st) fs/\∀ws n R,F Pn ws n R->beg ws r λρ=>fs ρ n { nx:=λ_ n'=>False,rt:=R }):FnOk P w K mg base CX0 (k+1) f fd ps (spG m fr F):=by
 refine U (λvs H Q E h=>?_) (λD A B s H vs Q E hr h=>?_)
 ·obtain⟨Pn,A,Y,zs,w,a,n,R,rfl,_,_,Z,_,_,hl,_⟩:=h;rw[aD,Z.len,<- hm,<- hl];rfl
 ·obtain⟨Pn,A3,Y,zs,w,a,n,R,rfl,al,hA,Z,O,ad,hl,hp,hF,q⟩:=h;obtain⟨fs,⟨t,qs,rs⟩,ag⟩:=L D A B s H E Pn hr;obtain⟨ev,mi⟩:=zhX (N:=N) (M:=M) al hA Z O ad (by grind) (by grind);have J:=ag (zs++[w]) n R hF;rw[ziI] at J
  have e:xB N (zs++[w])=(zs++[w]).map some++List.replicate r none:=by
   unfold xB
   simp_all
  rw[<- e] at J;refine⟨t,qs,rs.run { A0:=zgm A3 a,H0:=zjj H a,G0:=z8 A3 H,σ0:=L2.xj N (Y++[.ref a]) } A3 (L2.xj N (Y++[.ref a])) H (xB N (zs++[w])) n _ _ ⟨ev,⟨λ_ z=>z.1,λb z=>?_,λb o e np _=>?_,ziF al,λ_ z=>z.elim,λ_ z=>z.elim⟩,hp,zB.refl _,λi hi=>rfl,λi u b hi e1 s1=>?_⟩ ⟨?_,?_,?_,λ_ z=>z,?_⟩ J⟩
  ·by_cases O:b=a
   ·subst O;exact .inr (.inl zjl)
   ·exact .inl ⟨z,O⟩
  ·by_cases O:b=a
   ·subst O;have e:zjj H b b=some o:=e;rw[zjk] at e;cases e;exact absurd np zjm
   ·have e:zjj H a b=some o:=e;rwa[zcf O] at e
  ·have:=mi i u hi e1;rw[s1] at this;cases this;exact .inl zjl
  ·simp_all
  ·simp_all
  ·simp_all
  ·intro w n' v H' an st pn ap r;exact q w n' v H' r an st.stay pn ap
def Fun.okG(M:List Nat)(r:Nat)(Fu:Fun K x q st f fd)(S:FnScope N ps (zf st))(L:m=ps.length)(O:m - 1∈M)(U:∀i∈M,m - 1<=i)(Y:N.length=m+r)(B:∀ (I:Value) (A:Around) (D:List Env) (s:Shared) (H:Hp) (E:XK) (Pn:Option zr),Room k (A.deeper (PyProof.Rows.envOfC q (zf st) s.heap.objs.size f I))->
   ∃fs,JSs (zcX CX0 P w K mg base N q (zf st) f I A D s H E).nox Pn [] M fr (zP st) fs/\∀J n R,F Pn J n R->beg J r λρ=>fs ρ n { nx:=λ_ Z=>False,rt:=R }):FnOk P w K mg base CX0 (k+1) f fd ps (spG m fr F):=zrO M r (λl b=>Fun.okQ Fu S l b) L O U Y B
end
end L3
namespace L2
open PySem PySem.Spec PyProof.Rows PySem.W PySem.SeqAt
section
variable {X:Cx}
end
end L2
namespace L3
open PySem PySem.Spec L2
section
variable {X:Cx}{Pn:Option zr}{M S:List Nat}{fr fr':Bool}{e o:Expr}{f fo:Ev->Mo W}{pos p:Pos}
abbrev dLenK:List W->Mo W:=λq n Q=>on1 q λx=>onK x λkvs=>Q (.d (.int (kvs.length:Nat))) n
abbrev dListK:List W->Mo W:=λq n Q=>on1 q λx=>onK x λkvs=>∃ns:List Int,kvs.map (·.1)=ns.map Sum.inl/\Q (.d (.lst (ns.map .int))) n
abbrev dIndex (fo f:Ev->Mo W):Ev->Mo W:=λρ n Q=>fo ρ n λx q=>onL x λl=>f ρ q λy B=>onI y λk=>∃ns:List Int,l=ns.map .int/\k∈ns/\Q (.d (.int (ns.idxOf k:Nat))) B
abbrev zum (f:Ev->Mo W):Ev->Mo W:=λρ n Q=>f ρ n λx q=>onL x λl=>∃ns:List Int,l=ns.map .int/\ns.Nodup/\ns.length<=1000/\Q (.d (.int (ns.length:Nat))) q
end
end L3
namespace L2
def us_1 {α:Type}{q:List α}(h:q.length=1):∃a,q=[a]:=match q,h with | [a],_=>⟨a,rfl⟩
def us_2 {α:Type}{q:List α}(h:q.length=2):∃a b,q=[a,b]:=match q,h with | [a,b],_=>⟨a,b,rfl⟩
def us_3 {α:Type}{q:List α}(h:q.length=3):∃a b c,q=[a,b,c]:=match q,h with | [a,b,c],_=>⟨a,b,c,rfl⟩
def us_4 {α:Type}{q:List α}(h:q.length=4):∃a b c d,q=[a,b,c,d]:=match q,h with | [a,b,c,d],_=>⟨a,b,c,d,rfl⟩
open PySem PySem.Spec PyProof.Rows PySem.W PySem.Calls
end L2
namespace L3
open PySem PySem.Spec L2
section
variable {X:Cx}{Pn:Option zr}{M S:List Nat}{fr fr':Bool}{e a b c:Expr}{es:List Expr}{f fa fb fc:Ev->Mo W}{pos p:Pos}
end
open PySem PySem.Spec L2
def zjx:∀ {q:List Bool} {xs:List V},IsL G (q.map .bl) xs->xs=q.map V.bl
 | [],_,h=>h
 | b::q,xs,h=>by obtain⟨x,r,rfl,h1,h2⟩:=h;have e:x = .bl b:=h1;rw[e,zjx h2];rfl
def zjo:∀q:List Bool,inV (.bl b) (q.map V.bl)=q.contains b
 | []=>rfl
 | c::q=>by have:=zjo (b:=b) q;unfold inV at this ⊢;rw[aC,cB,this,List.contains_cons];cases b <;> cases c <;> rfl
def zg4:∀q:List Bool,(q.map V.bl).all zc0=true
 | []=>rfl
 | _::q=>by rw[aC,cN,zg4 q];rfl
section
variable {Pn:Option zr}{K:PySem.W.Frag}
abbrev dInB:W->W->Mo W:=λx y n Q=>onB x λb=>onL y λl=>∃q:List Bool,l=q.map .bl/\Q (.d (.bl (q.contains b))) n
def zvN:F2 Pn false (rIn K false) dInB:=⟨λA H x y J L n Q R O B q P h k=>by simp only[dInB,zfq,xH] at h;obtain⟨b,rfl,l,rfl,D,rfl,h⟩:=h;obtain⟨a,xs,rfl,F,I⟩:=yR q;obtain rfl:=zjx I;have e:x = .bl b:=B;subst e;exact⟨a,_,rfl,.inl (.of F),rfl,zg4 D,k _ n _ H h (Val.of (by rw[zjo];rfl)) (Go.refl P) λz=>by cases z⟩⟩
end
end L3
namespace L2
open PySem PySem.Spec PyProof.Rows PySem.W PySem.Calls
section
variable {prog:Program}{w:World}{A:Around}{E:Value->Shared->Prop}{s:Shared}
end
section
variable {X:Cx}
end
end L2
namespace L3
open PySem PySem.Spec L2
section
variable {X:Cx}{Pn:Option zr}{M S:List Nat}{fr fr':Bool}{pos p:Pos}{e:Expr}{f:Ev->Mo W}
def zqd{ks:List (List Int)}(h:Bor A H (.ss P w ks) v):∃a,v = .ref a/\zeM P w H a ks:=by obtain⟨a,xs,e,B,g2,D,F⟩:=h;exact⟨a,e,xs,B,λq I=>zp _ _ (D q I),g2,F⟩
abbrev dSAdd (P:Program) (w:World) (i:Nat) (f:Ev->Mo W):Ms:=λρ n k=>onV ρ i λv=>∃ks,v = .ss P w ks/\f ρ n λx m=>∃st:List Int,x = .d (stD st)/\ks.length<300/\
 ∀q:List (List Int),(∀y,y∈q↔y=st\/y∈ks)->q.length<=ks.length+1->q.Nodup->onP ρ i (.ss P w q) λB=>k.nx B m
abbrev dSortS (P:Program) (w:World):List W->Mo W:=λB n Q=>on1 B λx=>∃ (ks:List (List Int)) (m:Nat),x = .ss P w ks/\ks.length<64/\1<=m/\(∀st∈ks,st.length=m)/\∀q:List (List Int),q.Perm ks->(q.Pairwise λa b=>HT.lexLt a b=true)->Q (.d (xL q)) n
end
open PySem PySem.Spec L2
def zhC {α:Type}{p:List α->Prop}(q:p [])(hs:∀l x,p l->p (l++[x]))(l:List α):p l:=by
 have h:∀l:List α,p l.reverse:=λl=>by
  induction l with
  | nil=>exact q
  | cons x l B=>rw[b5];exact hs _ _ B
 have:=h l.reverse
 grind
def zg7 {α:Type}(a b:List α)(i:Nat)(d:α)(h:i<a.length):(a++b).getD i d=a.getD i d:=by grind
def zma:∀ {cs:List (List Int)} {st:List Int},st∈yh cs↔st.length=cs.length/\∀i,i<cs.length->st.getD i 0∈cs.getD i []:=by
 intro cs;refine zhC (p:=λcs=>∀ {st:List Int},st∈yh cs↔st.length=cs.length/\∀i,i<cs.length->st.getD i 0∈cs.getD i []) ?_ ?_ cs
 ·intro st;simp[yh,List.length_eq_zero_iff]
 ·intro cs c F st;rw[yW];unfold xw;rw[fM];constructor
  ·rintro⟨r,I,h⟩;obtain⟨w,J,rfl⟩:=az.mp h;obtain⟨h1,h2⟩:=F.mp I;refine⟨by simp[h1],λi hi=>?_⟩;simp at hi;by_cases e:i=cs.length
   ·simp_all
   ·grind
  ·rintro⟨h1,h2⟩;simp at h1;have q:st≠[]:=λz=>by rw[z] at h1;simp at h1
   have D:=bj q;have B:st.dropLast.length=cs.length:=by simp[h1]
   refine⟨st.dropLast,F.mpr ⟨B,λi hi=>?_⟩,az.mpr ⟨st.getLast q,?_,D⟩⟩
   ·have:=h2 i (by simp;omega);rw[zg7 _ _ _ _ hi] at this;rw[<- D,zg7 _ _ _ _ (by omega)] at this;exact this
   ·have:=h2 cs.length (by simp);rw[<- D] at this;have e:(st.dropLast++[st.getLast q]).getD cs.length 0=st.getLast q:=by simp[<- B]
    simp_all
def znT:∀ (cs:List (List Int)),(∀c∈cs,c.Pairwise (· < ·))->Up' (yh cs):=by
 intro cs;refine zhC (p:=λcs=>(∀c∈cs,c.Pairwise (· < ·))->Up' (yh cs)) ?_ ?_ cs
 ·intro _;simp[yh,Up']
 ·intro cs c D h;have F:=h c (by simp);have D:=D λd I=>h d (by simp[I]);rw[yW];have q:=zdE cs;generalize yh cs=rows at D q;unfold xw Up';rw[List.pairwise_flatMap];constructor
  ·intro r Z;rw[bS];refine F.imp λ{a b} B=>?_;exact lex_app r B
  ·refine (List.Pairwise.and_mem.mp D).imp λ{a b} ⟨J,L,B⟩=>?_;intro x O y U;obtain⟨v,_,rfl⟩:=az.mp O;obtain⟨w,_,rfl⟩:=az.mp U;exact lex_pre ((q a J).trans (q b L).symm) B
where
 lex_app:∀ (r:List Int) {a b:Int},a<b->HT.lexLt (r++[a]) (r++[b])=true
  | [],a,b,h=>by
   show (if a=b then HT.lexLt [] [] else decide (a<b))=true
   grind
  | x::r,a,b,h=>by show (if x=x then HT.lexLt (r++[a]) (r++[b]) else decide (x<x))=true;rw[if_pos rfl];exact lex_app r h
 lex_pre:∀ {r t:List Int} {a b:Int},r.length=t.length->HT.lexLt r t=true->HT.lexLt (r++[a]) (t++[b])=true
  | [],[],_,_,_,h=>by rw[y6] at h;cases h
  | [],_::_,_,_,h,_=>by simp at h
  | _::_,[],_,_,h,_=>by simp at h
  | x::r,y::t,a,b,Y,h=>by
   have h:(if x=y then HT.lexLt r t else decide (x<y))=true:=h;show (if x=y then HT.lexLt (r++[a]) (t++[b]) else decide (x<y))=true;by_cases e:x=y
   ·rw[if_pos e] at h ⊢;exact lex_pre (by simpa using Y) h
   ·simp_all
def zqG {rm st:List Int}(B:RoomOk rm)(h:st∈yh (rm.map zj)):0<=zbM 0 rm st/\(yh (rm.map zj))[(zbM 0 rm st).toNat]?=some st:=by
 rw[zmM] at h ⊢;obtain⟨k,q,rfl⟩:=az.mp h;have q:=aW.mp q;have h1:∀m∈rm.reverse,1<=m:=λm D=>by have:=B.box m (List.mem_reverse.mp D);omega
 have:=zfk h1 q
 simp_all
def IsP (Pn:Option zr)(p:Addr):Prop:=∃c ns,Pn=some (p,c,ns)
def dc{yV:Int}(q:IsP Pn p)(h:∀r,0<=r->r<yV->Q (.d (.int r)) (n+1))(B:n<=1000000:=by lia)(h1:1<=yV:=by lia)(h2:yV<1073741824:=by lia):ziv Pn [.pen p,.d (.int yV)] n Q:=let ⟨c,ns,e⟩:=q;⟨p,c,ns,yV,e,rfl,B,h1,h2,h⟩
def tc(q:IsP Pn p)(h:∀l':List Dt,l'.Perm l->Q (.d (.lst l')) (n+l.length))(B:n+l.length<=1000000:=by lia)(h1:l.length<=100000:=by lia):ziz Pn [.pen p,.d (.lst l)] n Q:=let ⟨c,ns,e⟩:=q;⟨p,c,ns,l,e,rfl,B,h1,h⟩
def zkF {B:List Int}{a L q:Int}(D:∀r∈B,2<=r/\r<=4)(O:2<=a/\a<=4)(F:yu B * L<=q)(h:a<=L):yu (B++[a]) * (L / a)<=q/\1<=L / a/\L / a<=L:=by
 have h1:1<=L / a:=(Int.le_ediv_iff_mul_le (by lia)).mpr (by lia);have h2:a * (L / a)<=L:=Int.mul_ediv_self_le (by lia);have I:0<=yu B:=by have:=zaV (ns:=B) (λr J=>by have:=D r J;lia);lia
 refine⟨?_,h1,?_⟩
 ·rw[xN,Int.mul_assoc];exact Int.le_trans (cP h2 I) F
 ·exact Int.ediv_le_self _ (by lia)
def zof {α:Type}(f:α->Dt)(d:α)(l:List α):enW 0 (l.map f)=(List.range l.length).map λi:Nat=>W.d (.tup [.int (i:Int),f (l.getD i d)]):=by
 apply dJ;intro i;rw[zb9,am,am];by_cases h:i<l.length
 all_goals simp_all
def zf3 (sts:List (List Int)):enW 0 (sts.map stD)=(List.range sts.length).map λk:Nat=>W.d (.tup [.int (k:Int),stD (sts.getD k [])]):=zof stD [] sts
def y0:(zeu k).length=k:=by unfold zeu;rw[ab,aA]
def zp4:zeu k=(zj (k:Int)).map Dt.int:=by unfold zeu zj;rw[au,aO];rfl
def zbX{α:Type}{f:α->Dt}{xs:List α}(h:l.Perm (xs.map f)):∃ys:List α,l=ys.map f/\ys.Perm xs:=by
 generalize B:xs.map f=zs at h
 induction h generalizing xs with
 | nil=>exact⟨[],rfl,by simp_all⟩
 | @cons x O U _ I=>
  match xs,B with
  | y::r,B=>
   rw[aC] at B;obtain⟨h1,h2⟩:=List.cons.inj B;obtain⟨ys,e,q⟩:=I h2;exact⟨y::ys,by simp_all,q.cons y⟩
 | swap x y l=>
  match xs,B with
  | a::b::r,B=>
   rw[aC,aC] at B;obtain⟨h1,h2⟩:=List.cons.inj B;obtain⟨Y,Z⟩:=List.cons.inj h2;exact⟨b::a::r,by simp_all,.swap ..⟩
 | trans _ _ D F=>
  obtain⟨ys,e,q⟩:=F B;obtain⟨zs,J,L⟩:=D e.symm;exact⟨zs,J,L.trans q⟩
def zhu{l:List Dt}(h:l.Perm (zeu k)):∃q:List Int,l=q.map Dt.int/\q.Perm (zj (k:Int)):=by rw[zp4] at h;exact zbX h
def zaj {m b:Int}:b∈zj m↔0<=b/\b<m:=by
 unfold zj;rw[az];constructor
 ·rintro⟨k,q,rfl⟩
  grind
 ·rintro⟨B,h1⟩;exact⟨b.toNat,aW.mpr (by lia),by lia⟩
def zfA (m:Int):(zj m).Nodup:=by unfold zj List.Nodup;rw[bS];exact List.pairwise_lt_range.imp λh=>by lia
def zh8 {α q:Type}{G:Prop}(C:α->q->Prop)(P:α->q->Prop)(h:(∀a b,C a b->P a b)->G)(r:∀a b,C a b->P a b):G:=h r
def zqk {q:List Int}(h:q.Nodup){i:Nat}(hi:i<q.length):q.getD i 0∉q.take i:=λz=>by
 obtain⟨j,B,e⟩:=bz.mp z;rw[aQ] at B;rw[dN] at e;have:q.getD i 0=q[i]:=by simp[hi]
 rw[this] at e;have:=(cg h).mp e;lia
def zcd{q:List Int}(hi:i<q.length):q.getD i 0∈q:=by simp_all
def zb7 {α:Type}(l:List α)(lo hi:Option Int):(xE l lo hi).Sublist l:=(dD _ _).trans (List.drop_sublist _ _)
def zi1 {α:Type}(l:List α):xE l (some 1) none=l.drop 1:=by
 unfold xE
 have h1:HT.sIx l.length 0 (some 1)=min 1 l.length:=by unfold HT.sIx;simp;try lia
 have h2:HT.sIx l.length l.length none=l.length:=rfl;rw[h1,h2,bY (by simp)]
 cases l with
 | nil=>rfl
 | cons a l=>simp
def zk9:∀ (l k:List Dt) (i:Nat),(ziW l k)[i]?=(l[i]?).bind λx=>(k[i]?).map λy=>W.d (.tup [x,y])
 | [],k,i=>by simp[ziW]
 | x::r,[],i=>by
  simp only[ziW,List.getElem?_nil,Option.map_none]
  simp_all
 | x::r,y::s,0=>rfl
 | x::r,y::s,i+1=>by rw[ziW,bt,bt,bt];exact zk9 r s i
def zm2 (q:List (List Int)):ziW (q.map stD) (xE (q.map stD) (some 1) none)=(List.range (q.length - 1)).map λi:Nat=>W.d (.tup [stD (q.getD i []),stD (q.getD (i+1) [])]):=by
 rw[zi1];apply dJ;intro i;rw[zk9,List.getElem?_drop,am,am,am]
 grind
def zaN {κ:Type}[DecidableEq κ](kvs:List (κ×Dt))(k z:κ)(d:Dt):yy (zeI kvs k d) z=if z=k then some d else yy kvs z:=by
 unfold zeI;by_cases D:(kvs.any λkv=>decide (kv.1=k))=true
 ·rw[if_pos D];unfold yy
  induction kvs with
  | nil=>simp at D
  | cons q r I=>
   rw[aC,bH,bH];by_cases e:q.1=k
   ·rw[if_pos e];by_cases B:z=k
    ·simp_all
    ·have h1:¬ q.1=z:=λw=>B (w.symm.trans e);rw[if_neg B];simp only[h1,decide_false];by_cases J:(r.any λkv=>decide (kv.1=k))=true
     ·simp_all
     ·congr 2;refine (de λp F=>?_).trans (List.map_id _)
      grind
   ·grind
 ·rw[if_neg D];unfold yy;rw[List.find?_append];by_cases B:z=k
  ·subst B;have:kvs.find? (λq=>decide (q.1=z))=none:=eU.mpr λp F w=>D (fL.mpr ⟨p,F,w⟩);rw[this];simp
  ·have:¬ k=z:=λw=>B w.symm
   simp_all
def zkS {rm st:List Int}(h:StOk rm st):st∈yh (rm.map zj):=by
 rw[zma];have q:=h.len;refine⟨by grind,λi hi=>?_⟩;rw[ab] at hi;have e:(rm.map zj).getD i []=zj (rm.getD i 0):=by simp[hi]
 rw[e,zaj];have:=h.box (i:Int) (by lia) (by lia);rw[yj,yj] at this;exact this
def zgq {l:List (List Int)}{st:List Int}:(Dt.tup (st.map Dt.int)∈l.map stD)↔st∈l:=by
 constructor
 ·intro z;obtain⟨s,hs,e⟩:=az.mp z;have:s=st:=List.map_inj_right (by grind) |>.mp (Dt.tup.inj e)
  grind
 ·exact λz=>az.mpr ⟨_,z,rfl⟩
def zhF {rm st:List Int}{b x:Int}(h:StOk rm st)(q:0<=b)(I:b<rm.length)(J:0<=x)(x1:x<yV rm b):StOk rm (chg st b x):=by
 have D:=h.len;refine⟨by rw[ziP q (by lia)];exact D,λc B F=>?_⟩;rw[zn3 q (by lia) B];split
 ·simp_all
 ·exact h.box c B F
def zqL{rm:List Int}(h:xl rm bk):(Dt.lst (bk.map yw)).eqOk:=(zf4 (rm:=rm) λd q=>by obtain⟨x,B,rfl⟩:=az.mp q;exact⟨x,rfl,h x B⟩).2
def zql{rm:List Int}(h:WishOk rm x):WishOk rm (ztj x):=⟨h.giv,h.b0,h.b1,h.apart,h.w0,h.w1,h.r0,h.r1,Ne.symm h.ne⟩
def zn8{rm:List Int}(h:WishOk rm x){lo hi:Option Int}:WishOk rm { x with g:=xE x.g lo hi }:=by have s:=zb7 x.g lo hi;exact⟨⟨λq B=>h.giv.ok q (s.subset B),h.giv.up.sublist s⟩,h.b0,h.b1,λq B=>h.apart q (s.subset B),h.r0,h.r1,h.w0,h.w1,h.ne⟩
end L3
namespace L3
def ze0 {α q:Type}(f:α->q):∀ (l:List α) (i:Nat),(l.eraseIdx i).map f=(l.map f).eraseIdx i
 | [],_=>rfl
 | _::_,0=>rfl
 | x::l,i+1=>by simp[ze0 f l i]
open PySem PySem.Spec L2
def lpE (bk:List Wi)(q:Int)(st:List Int):List (Int×Int):=(lpF bk q st).map λr=>(r.getD 0 0,r.getD 1 0)
def zi0 {α:Type}(l:List α)(k:Nat):xE l (some (k:Int)) none=l.drop k:=by
 unfold xE
 have h1:HT.sIx l.length 0 (some (k:Int))=min k l.length:=by unfold HT.sIx;simp;try lia
 have h2:HT.sIx l.length l.length none=l.length:=rfl;rw[h1,h2,bY (by simp)]
 simp_all
end L3
namespace L3
open PySem PySem.Spec L2
end L3
namespace L2
open PySem PySem.Spec PyProof.Rows PySem.W PySem.Calls
section
variable {X:Cx}{pins:List (Addr×Obj)}{σ:St}{H:Hp}{s:Shared}{a:Addr}
def Inv.frz {kvs:List (List Int×V)}(I:Inv X pins σ H s)(h:H a=some (dtO kvs)):∃ob,Inv X pins σ (upd H a (.frz ob (dtO kvs))) s:=by obtain⟨z,lo,xs,r,o,es,D,h1,h2,F,J,L⟩:=(show yp X.prog X.w H s.heap a (.dT (zhf kvs)) from I.hok a _ h);refine⟨o,I.write (x:=a) (e:=a) (h':=s.heap) (t':=s.toks) (by rw[h];trivial) (.inl rfl) (λ_ _ _ e=>e) ⟨o,h1⟩ ⟨h1,z,lo,xs,Paired.imp' (λp q y=>?_) r,o,es,D,h1,h2,F,J,L⟩⟩;obtain⟨O,B,U⟩:=y;exact⟨O,by rw[zg (λy=>by rw[y,h] at B;cases B)];exact B,U⟩
def tFrz (te:TE):TE:=λσ H Q=>te σ H λx H1=>∃a ks,x = .ref a/\H1 a=some (dtO ks)/\∀ob,Q x (upd H1 a (.frz ob (dtO ks)))
def zsz(h:QE X e te):QE X e (tFrz te):=⟨by
 intro pins s σ H Q I q;refine thn (h.run pins s σ H _ I q) ?_;rintro v J ⟨x,H1,I1,B,a,ks,rfl,D,F⟩;obtain⟨ob,I2⟩:=I1.frz D;exact⟨_,_,I2,B,F ob⟩⟩
def zg6{kvs:List (List Int×V)}(I:Inv X pins σ H s)(h:H a=some (.frz ob (dtO kvs))) :
  (a==sysModules)=false/\∃ (es:Array DictEntry) (B:Nat) (ys:List (List Int×Addr)),ob.ExactDict/\ob.data = .dict es B/\uA s.heap a es B/\ys.map (·.1)=kvs.map (·.1)/\(∀q∈ys,H q.2=some (.tup (q.1.map V.int)))/\es.toList.map (·.key)=ys.map (λq=>Value.ref q.2)/\(kvs.map (·.1)).Nodup:=by
 have k:=I.hok a _ h;obtain⟨lo,es,B,ys,⟨o,D,F,J⟩,L,O,U,_,Y⟩:=zly I (.inr ⟨ob,h⟩);have:o=ob:=by have:=k.1;rw[D] at this;exact bw this
 subst this;exact⟨lo,es,B,ys,F,J,⟨o,D,F,J⟩,L,O,U,Y⟩
end
def Itd (d:Addr)(ob:Obj)(ks:List (List Int×V))(ys:List (List Int×Addr)):It:=
 ⟨λi H=>H d=some (.frz ob (dtO ks))/\i<ys.length,λi H x H'=>H'=H/\∃q,ys[i]?=some q/\x = .ref q.2,λi H=>H d=some (.frz ob (dtO ks))/\i=ys.length⟩
def zkX {P:Program}{w:World}{K:PySem.W.Frag}{tg:Expr}{ob:Obj}{ks:List (List Int×V)}{ys:List (List Int×Addr)}{es:Array DictEntry}{J:Nat}(d B:Addr)(hx:ob.ExactDict)(hd:ob.data = .dict es J)(O:es.toList.map (·.key)=ys.map (λq=>Value.ref q.2)) :
  Turn P w K tg (Itd d ob ks ys) [B] B (λi h=>h.IsKeyIter B d i es.size J) where
 mem:=by simp
 obj:=λi h st b D=>by
  have e:b=B:=by simpa using D
  subst e;obtain⟨o,e,c,d⟩:=st
  simp_all
 keep:=λi h h' ⟨o,e,r⟩ k=>⟨o,k B (by simp) o e,r⟩
 item:=by
  rintro X U Y Z hc i pins s σ H E I L st ⟨hg,hi⟩;subst U Y Z;obtain⟨f0,f1,f2,f3,f4,f5⟩:=L B (by simp);have hm:uA s.heap d es J:=⟨ob,(I.hok d _ hg).1,hx,hd⟩;have hl:es.toList.length=ys.length:=by have:=congrArg List.length O;rwa[ab,ab] at this
  have e1:es[i]?=some es.toList[i]:=by rw[za8,ah]
  have e2:es.toList[i].key=Value.ref ys[i].2:=by
   have:(es.toList.map (·.key))[i]?=(ys.map (λq=>Value.ref q.2))[i]?:=by rw[O]
   rw[am,am,ah (by lia),ah hi] at this
   simp_all
  refine zia st hm e1 λh' F sb=>?_;have I1:Inv X pins σ H { s with heap:=h' }:=I.turned (t':=s.toks) (λb o D e=>(sb.2 b D).trans e) f0 f1 f3 f4 f5;obtain⟨o,e,c,d⟩:=id F;exact⟨_,rfl,zlG (s:={ s with heap:=h' }) e c d (by decide) ⟨.ref ys[i].2,H,I1,e2,⟨rfl,_,ah hi,rfl⟩,F,λb D=>(L b D).1⟩⟩
 done:=by
  rintro X U Y Z hc i pins s σ H E I L st ⟨hg,hi⟩;subst U Y Z;obtain⟨f0,f1,f2,f3,f4,f5⟩:=L B (by simp);have hm:uA s.heap d es J:=⟨ob,(I.hok d _ hg).1,hx,hd⟩;have hl:es.size=ys.length:=by have:=congrArg List.length O;rwa[ab,ab,aX] at this
  subst hi;rw[<- hl] at st;exact zj6 (I.ok.hd hc) st hm λh' eb=>⟨rfl,I.turned (t':=s.toks) (λb o D e=>eb b o D e) f0 f1 f3 f4 f5⟩
 self:=λ_ _ _ _ _ st h=>wpAny_pyIter_keyiter st h
def zuC (te:TE):TI:=λσ H R=>te σ H λx H1=>∃a ob ks,x = .ref a/\H1 a=some (.frz ob (dtO ks))/\∀ys:List (List Int×Addr),ys.map (·.1)=ks.map (·.1)->(∀q∈ys,H1 q.2=some (.tup (q.1.map V.int)))->(ks.map (·.1)).Nodup->R (Itd a ob ks ys) H1
def zpO(h:QE X e te):QI X tg e (zuC te):=⟨by
 intro pins s σ H R I q;refine thn (h.run pins s σ H _ I q) ?_;rintro v B ⟨x,H1,I1,D,a,ob,ks,rfl,F,J⟩;cases D;obtain⟨lo,es,ep,ys,L,O,U,Y,Z,e3,e5⟩:=zg6 I1 F;refine zaK lo U ?_;refine⟨B.heap.objs.size,[B.heap.objs.size],_,_,H1,rfl,I1.kept (t':=B.toks) λb o e=>af _ e,zkX a _ L O e3,⟨_,aq _ rfl,rfl,rfl⟩,λb hb=>?_,J ys Y Z e5⟩;have e:b=B.heap.objs.size:=by simpa using hb
 subst e;exact I1.fpOk (ai _) (I1.hok.fresh (ai _))⟩
end L2
namespace L3
open PySem PySem.Spec L2
def zmo{ks:List (List Int×V)}(h:xu Pn A n H)(B:H p=some (dtO ks)):xu Pn A n (L2.upd H p o):=by
 unfold xu at h ⊢;split at h
 ·trivial
 ·refine⟨?_,h.2⟩;obtain⟨h1,_⟩:=h;obtain⟨a,l,q,g2⟩:=h1.ob;exact⟨⟨a,l,by rw[zg λz=>by rw[z,B] at q;cases q];exact q,g2⟩,by rw[zg λz=>by have:=h1.ls;rw[z,B] at this;cases this];exact h1.ls,h1.len⟩
def zdY:∀st:List Int,IsL G (st.map Dt.int) (st.map V.int)
 | []=>rfl
 | _::st=>⟨_,_,rfl,rfl,zdY st⟩
abbrev onZ (w:W) (P:List (List Int×Dt)->Prop):Prop:=match w with | .df i=>P i | _=>False
def zkf{P:List (List Int×Dt)->Prop}:onZ w P = ∃i,w = .df i/\P i:=propext ⟨λh=>by cases w <;> first | exact False.elim h | exact⟨_,rfl,h⟩,by simp_all⟩
section
variable {X:Cx}{Pn:Option zr}{M S:List Nat}{fr fr':Bool}{pos p:Pos}{e a b c:Expr}{f fa fb fc:Ev->Mo W}
abbrev dFrz (f:Ev->Mo W):Ev->Mo W:=λρ n Q=>f ρ n λx m=>onE x λkvs=>Q (.df kvs) m
def zuK (h:JE X Pn M true e f):JE X Pn M false e (dFrz f):=by
 obtain⟨te,q,r⟩:=h.ex;refine⟨_,zsz q,⟨λA σ H ρ n Q R E P O k=>?_⟩⟩;refine r.run A σ H ρ n _ _ E P O λw m v H' D hv g U=>?_;rw[zhr] at D;obtain⟨kvs,rfl,D⟩:=D;obtain⟨J,Y,B,Z,ks,e2,h1,h2⟩:=U rfl;subst Y;cases e2;have nA:=E.newF B;refine⟨J,ks,rfl,h1,λob=>k _ m _ _ D ⟨J,ob,ks,rfl,zG nA zk,h2.stay λb o F I=>?_⟩ ⟨λb o F I=>?_,?_⟩ λz=>by cases z⟩
 ·obtain⟨L,z2⟩:=yJ.mp F;exact zG (λy=>L (.inl y)) (by rw[zg λy=>L (.inr y)];exact z2)
 ·rw[zg λy=>by subst y;exact B o F I];exact g.st b o F I
 ·exact zmo g.pn h1
def zrq{ks:List (List Int×V)}{ys:List (List Int×Addr)}(h:z8 A H B=some (.frz ob (dtO ks)))(D:l=ys.map λq=>W.d (stD q.1))(F:∀q∈ys,z8 A H q.2=some (.tup (q.1.map V.int))):ItV false A H (Itd B ob ks ys) l where
 one:=λi w A2 H2 e s _ _=>by subst D;rw[am] at e;obtain⟨q,h1,rfl⟩:=aB.mp e;refine⟨⟨zp _ _ (s _ _ h λk z=>by cases z),(ac.mp h1).1⟩,?_⟩;rintro y H3 ⟨rfl,I,h2,rfl⟩;rw[h1] at h2;cases h2;exact⟨λ_ _ z=>z,Val.of ⟨q.2,_,rfl,s.tup (F q (aj h1)),zdY q.1⟩⟩
 stop:=λA2 H2 s _=>by subst D;exact⟨zp _ _ (s _ _ h λk z=>by cases z),by simp⟩
abbrev dItF (fa:Ev->Mo W):Ev->Mo (List W):=λρ n Q=>fa ρ n λx m=>onZ x λkvs=>(kvs.map (·.1)).Nodup->Q (kvs.map λq=>W.d (stD q.1)) m
def zh5(h:JE X Pn M fr e f):JI X Pn M false tg e (dItF f):=by
 obtain⟨te,q,r⟩:=h.ex;refine⟨_,zpO q,⟨λA σ H ρ n Q R E P O k=>?_⟩⟩;refine r.run A σ H ρ n _ _ E P O λw m v H1 D U g _=>?_;rw[zkf] at D;obtain⟨kvs,rfl,D⟩:=D;obtain⟨Y,ob,ks,rfl,B,Z⟩:=U;have I:ks.map (·.1)=kvs.map (·.1):=Z.keys;have F:=(E.stay g.st).alT;refine⟨Y,ob,ks,rfl,zp _ _ B,λys e1 J e3=>k _ m _ H1 (D (by rw[<- I];exact e3)) (zrq B ?_ λq L=>zG (λy=>F _ _ y (J q L)) (J q L)) g⟩;have:(ys.map (·.1)).map (λst=>W.d (stD st))=(kvs.map (·.1)).map λst=>W.d (stD st):=by rw[e1,I]
 rw[au,au] at this;exact this.symm
abbrev zuh (fd fk:Ev->Mo W):Ev->Mo W:=λρ n Q=>fd ρ n λx q=>fk ρ q λy B=>onZ x λkvs=>∃st,y = .d (stD st)/\onO (yy kvs st) λd=>Q (.d d) B
def zqO{kvs:List (List Int×Dt)}(h:Bor A H (.df kvs) v):∃q ks,v = .ref q/\Rd H q (dtO ks)/\uK (z8 A H) kvs ks:=by obtain⟨q,ob,ks,e,h1,h2⟩:=h;exact⟨q,ks,e,.inr ⟨ob,h1⟩,h2⟩
def zcQ.z {H:Hp}{a b:Addr}{kvs:List (List Int×V)}{st:List Int}(e:Rd H a (dtO kvs))(q:H b=some (.tup (st.map V.int))):zcQ H a (.ref b) (za6 kvs st):=
 .inr ⟨_,st.map Sum.inl,b,e,rfl,by rw[zcg];exact q,(zhg kvs st).symm⟩
def zd0 (I:X.A.units+1<cLine)(J:JB X Pn M a fa)(L:JB X Pn M b fb)(hs:zqF b):JE X Pn M false (.Subscript a b pos) (zuh fa fb):=by obtain⟨ta,O,U⟩:=J.ex;obtain⟨tb,Y,Z⟩:=L.ex;refine⟨_,uc I O Y hs,⟨λA σ H ρ n Q R E P hf k=>?_⟩⟩;refine U.run A σ H ρ n _ _ E P hf λw1 m1 v1 H1 r1 b1 B=>?_;refine Z.run A σ H1 ρ m1 _ _ (E.stay B.st) B.pn r1 λw2 m2 v2 H2 q b2 g2=>?_;rw[zkf] at q;obtain⟨kvs,rfl,st,rfl,q⟩:=q;rw[zbu] at q;obtain⟨d,e3,r⟩:=q;obtain⟨ad,ks,rfl,D,hk⟩:=zqO (b1.stay g2.st);obtain⟨bd,xs,rfl,F,hx⟩:=xb b2;obtain rfl:=hx.of_ints;obtain⟨v,h1,h2⟩:=(hk.look (k:=st)).2 d e3;refine⟨ad,v,rfl,?_,k _ m2 _ H2 r (Val.of h2) (B.trans g2) λz=>by cases z⟩;rw[<- h1];exact zcQ.z D F
abbrev dGetFD (fd fk q:Ev->Mo W):Ev->Mo W:=λρ n Q=>fd ρ n λx B=>onZ x λkvs=>fk ρ B λy D=>q ρ D λz F=>∃st,y = .d (stD st)/\onD z λi=>Q (.d ((yy kvs st).getD i)) F
abbrev zne:List W->Mo W:=λB n Q=>on1 B λx=>∃kvs:List (List Int×Dt),x = .d (.lst (kvs.map λq=>Dt.tup [stD q.1,q.2]))/\(kvs.map (·.1)).Nodup/\kvs.length<=lim/\Q (.dt kvs) n
def zju:∀ {kvs:List (List Int×Dt)} {xs:List V},IsL G (kvs.map λq=>Dt.tup [stD q.1,q.2]) xs->∃ps:List Pr,xs=ps.map (λq=>V.ref q.1)/\(∀q∈ps,G q.1=some (.tup [.ref q.2.1,q.2.2.2])/\G q.2.1=some (.tup (q.2.2.1.map V.int)))/\ps.map (·.2.2.1)=kvs.map (·.1)/\uK G kvs (prK ps)
 | [],_,h=>by cases h;exact⟨[],rfl,λ_ z=>by simp at z,rfl,rfl⟩
 | q::r,xs,⟨x,s,e,⟨p,us,I,J,kv,s2,L,⟨kb,zs,O,B,U⟩,F,s3,Y,Z,e6⟩,h2⟩=>by
  obtain⟨ps,h1,h3,h4,h5⟩:=zju h2;subst e I L O Y e6 h1;obtain rfl:=U.of_ints;refine⟨(p,kb,q.1,F)::ps,rfl,λy D=>?_,by simp_all,F,_,rfl,Z,h5⟩;rcases aG.mp D with rfl | D
  ·exact⟨J,B⟩
  ·exact h3 y D
def zqm:FL Pn true znB zne:=⟨λA H xs ws n Q R O b Pp h k=>by
 simp only[zne,u8] at h;obtain⟨x,e,kvs,rfl,B,U,h⟩:=h;subst e;obtain⟨v,rfl,Y⟩:=zbH b;obtain⟨Z,xs,rfl,D,hl⟩:=Y;obtain⟨ps,rfl,h1,h2,J⟩:=zju hl;have F:ps.length=kvs.length:=by have:=congrArg List.length h2;simpa using this
 refine⟨Z,ps,rfl,⟨D,λq L=>⟨zp _ _ (h1 q L).1,zp _ _ (h1 q L).2⟩,by rw[h2];exact B,by rw[F];exact U⟩,λp H' I g S=>?_⟩;exact k _ n _ H' h ⟨p,_,rfl,zG (O.new I) g,J.stay (zQ (zB.same S))⟩ (Go.same Pp S) λ_=>⟨p,rfl,.of I,p,_,rfl,g,J.stay (yI (zB.same S) (.of I))⟩⟩
end
def zdS(xs:List (List Int))(hl:l=xs.map λi=>W.d (stD i))(J:Ev->Prop)(P:List Int->Bool)(E:List Int->Dt)(hN:xs.Nodup)(ag:xs.length<=lim)(j0:J I)(h:∀a∈xs,∀ D,J D->∀C:Ev->Nat->Option (List Int×Dt)->Prop,(∀ {B},P a=true->J B->C B n (some (a,E a)))->(∀ {B},P a=false->J B->C B n none)->mg (.d (stD a)) D λB=>ft B n λb n2=>onC b (fk B n2 λy n3=>fv B n3 λx O=>∃j,y = .d (stD j)/\onD x λd=>C B O (some (j,d))) (C B n2 none))(fin:Q (.dt ((xs.filter P).map λa=>(a,E a))) n):zng mg ft fk fv I Q l n:=by
 subst hl;refine⟨by simp_all,λi D U acc=>J D/\U=n/\acc=((xs.take i).filter P).map λa=>(a,E a),⟨j0,rfl,rfl⟩,?_,?_⟩
 ·rintro i w D U acc hw ⟨Y,rfl,rfl⟩;rw[am] at hw;obtain⟨a,L,rfl⟩:=aB.mp hw
  have:=h a (aj L) D Y (λB O o=>match o with
   | some q=>J B/\O=U/\zeI (((xs.take i).filter P).map λa=>(a,E a)) q.1 q.2=((xs.take (i+1)).filter P).map λa=>(a,E a)
   | none=>J B/\O=U/\(((xs.take i).filter P).map λa=>(a,E a))=((xs.take (i+1)).filter P).map λa=>(a,E a)) (λ{B} Z F=>by
    refine⟨F,rfl,?_⟩;have hi:=(ac.mp L).1
    have hn:((((xs.take i).filter P).map λa=>(a,E a)).any λkv=>decide (kv.1=a))=false:=by rw[List.any_eq_false];intro kv ad z;obtain⟨b,hb,rfl⟩:=az.mp ad;have e:b=a:=b7 z;subst e;obtain⟨j,Y,e2⟩:=bz.mp (bv.mp hb).1;rw[aQ] at Y;rw[dN] at e2;have e3:=(ac.mp L).2;rw[<- e3] at e2;have:=(cg hN).mp e2;lia
    unfold zeI;rw[hn,if_neg (by decide),zh L,cR,aE]
    simp[Z]) (λ{B} Z F=>by
    refine⟨F,rfl,?_⟩;rw[zh L,cR,aE];simp[Z])
  simp only[u9,x4] at this
  grind
 ·grind
open PySem PySem.Spec L2
abbrev lpD (bk:List Wi) (b:Int) (st:List Int):Dt:=.lst ((lpE bk b st).map zan)
abbrev rowD (rm:List Int) (bk:List Wi) (st:List Int):Dt:=.lst ((List.range rm.length).map λb:Nat=>lpD bk (b:Int) st)
def ztt {l:List (List Int)}(h:Up' l):l.Nodup:=h.imp λh e=>by subst e;rw[y6] at h;cases h
def zm8 (rm:List Int):(yh (rm.map zj)).Nodup:=ztt (znT _ λc q=>by obtain⟨m,_,rfl⟩:=az.mp q;unfold zj;rw[bS];exact List.pairwise_lt_range.imp λh=>by lia)
def znV {rm:List Int}(q:RoomOk rm):(yh (rm.map zj)).length<=65536:=by
 have:=zdF q.few q.box rm.length
 simp_all
def zf9 {rm:List Int}{g:List (Int×Int)}(h:Giv rm g):g.length<=rm.length:=by
 have:=xf (l:=g.map (·.1)) (l':=zj rm.length) (bS.mpr (h.up.imp λh e=>by lia)) λx B=>by obtain⟨q,D,rfl⟩:=az.mp B;have:=h.ok q D;exact zaj.mpr ⟨this.1,this.2.1⟩
 rw[ab,yP] at this;lia
def zu8 {α q B:Type}{G:Prop}(C:α->q->B->Prop)(P:α->q->B->Prop)(h:(∀a b c,C a b c->P a b c)->G)(r:∀a b c,C a b c->P a b c):G:=h r
section
variable {X:Cx}{Pn:Option zr}{M S cM:List Nat}{fr fr':Bool}{e:Expr}{es:List Expr}{pos:Pos}{A:Addr->Prop}{acc:Addr}{H1 H H':Hp}{σc σ:St}{ρc ρ:Ev}{n m:Nat}{ds:List Dt}
def inR (mg:W->Ev->(Ev->Prop)->Prop)(J:Ev->Mo Bool)(L:Ev->Mo W)(B:Ev)(D:List Dt)(K:Ev->Nat->List Dt->Prop):List W->Nat->Prop:=λl O=>∃I:Nat->Ev->Nat->List Dt->Prop,I 0 B O D/\
 (∀i w ρ n ds,l[i]?=some w->I i ρ n ds->mg w ρ λq=>J q n λb F=>if b=true then L q F λx U=>∃d,x = .d d/\ds.length<=lim/\I (i+1) q U (ds++[d]) else I (i+1) q F ds)/\
 ∀ ρ n ds,I l.length ρ n ds->K ρ n ds
def zqP (mg:W->Ev->(Ev->Prop)->Prop)(O:Ev->Mo Bool)(B:Ev->Mo (List W))(D:W->Ev->(Ev->Prop)->Prop)(F:Ev->Mo Bool)(U:Ev->Mo W)(J:Ev)(Q:W->Nat->Prop):List W->Nat->Prop:=λl Y=>∃I:Nat->Ev->Nat->List Dt->Prop,I 0 J Y []/\
 (∀i w ρ n ds,l[i]?=some w->I i ρ n ds->mg w ρ λq=>O q n λb L=>if b=true then B q L (inR D F U q ds (I (i+1))) else I (i+1) q L ds)/\
 ∀ ρ n ds,I l.length ρ n ds->Q (.d (.lst ds)) n
abbrev mComp2 (F:Ev->Mo (List W)) (mg:W->Ev->(Ev->Prop)->Prop) (I:Ev->Mo Bool) (q:Ev->Mo (List W)) (B:W->Ev->(Ev->Prop)->Prop) (D:Ev->Mo Bool) (J:Ev->Mo W) (cix:List (Option Nat)):Ev->Mo W:=λρ n Q=>F ρ n (zqP mg I q B D J (zcR ρ cix) Q)
end
end L3
namespace L2
open PySem PySem.Spec PyProof.Rows PySem.W PySem.Calls
section
variable {X:Cx}{pins:List (Addr×Obj)}{σ:St}{H:Hp}{s:Shared}{a:Addr}
end
end L2
namespace L3
open PySem PySem.Spec L2
abbrev onY (w:W) (P:List (Key×Dt)->Prop):Prop:=match w with | .kf i=>P i | _=>False
section
variable {X:Cx}{Pn:Option zr}{M S:List Nat}{fr fr':Bool}{pos p:Pos}{e a b c:Expr}{f fa fb fc:Ev->Mo W}
abbrev dFrzK (f:Ev->Mo W):Ev->Mo W:=λρ n Q=>f ρ n λx m=>onK x λkvs=>Q (.kf kvs) m
abbrev dItK (fa:Ev->Mo W):Ev->Mo (List W):=λρ n Q=>fa ρ n λx m=>onY x λkvs=>∃ns:List Int,kvs.map (·.1)=ns.map Sum.inl/\Q (ns.map λi=>W.d (.int i)) m
abbrev dGetY (fd fk:Ev->Mo W):Ev->Mo W:=λρ n Q=>fd ρ n λx q=>fk ρ q λy B=>onY x λkvs=>onI y λi=>onO (yy kvs (Sum.inl i)) λd=>Q (.d d) B
abbrev dListY:List W->Mo W:=λq n Q=>on1 q λx=>onY x λkvs=>∃ns:List Int,kvs.map (·.1)=ns.map Sum.inl/\Q (.d (.lst (ns.map .int))) n
abbrev dRetT (f:Ev->Mo W) (i:Nat):Ms:=λρ n k=>f ρ n λw m=>onD w λd=>onV ρ i λx=>onL x λl=>k.rt (.d (.tup [d,.lst l])) m
end
end L3
namespace L2
open PySem PySem.Spec PyProof.Rows PySem.SeqAt
section
variable {prog:Program}{w:World}{t:SetTable}{es:Array (Int×Value)}{xs:List (List Key×Addr)}{A:Around}{E:Value->Shared->Prop}{s:Shared}
def zor{ns:List Int}(O:A.units<cLine)(S:uR prog w s.heap a xs)(U:(tk prog w).is s.heap (ns.map Sum.inl) b)(B:∀q∈xs,(tk prog w).is s.heap q.1 q.2)(h:∀r:Option Nat,(r.isSome=true↔(ns.map Sum.inl)∈xs.map (·.1))->Q r s) :
  wpAny (model prog w) A (setFind a (.ref b) ((tk prog w).hash (ns.map Sum.inl))) Q E s:=by
 obtain⟨o,es,ep,t,I,hx,J,T,D⟩:=S;unfold setFind;rw[show (100000:Nat)=99999+1 from rfl];unfold setFindIn;refine aa (bp I J T.fits ?_);dsimp only;rw[show byScan (.ref b) es=false from rfl];simp only[aT,if_false];unfold setSearch;have L:=T.msk.le;refine aa (zcL O T U B I J ?found ?free 100000 0 none rfl (by unfold SetTable.turns;lia) (aN _) (λm L=>absurd L (cu _)))
 case found=>
  intro r i q Y F Z;obtain rfl:r=some i:=Z.resolve_left λz=>by cases z.2
  exact ae (h _ ⟨λ_=>az.mpr ⟨q,aj Y,F⟩,λ_=>rfl⟩)
 case free=>
  intro N hN he hp;exact ae (h none ⟨λz=>(by cases z),λz=>absurd z (T.out hN he hp)⟩)
def zuE {a b:Addr}{ns:List Int}{Q:Bool->Shared->Prop}(hu:A.in1.units<cLine)(S:uR prog w s.heap a xs)(hk:(tk prog w).is s.heap (ns.map Sum.inl) b)(hel:∀q∈xs,(tk prog w).is s.heap q.1 q.2)
  (h:∀ (c:Bool) (n:Nat),(c=true↔(ns.map Sum.inl)∈xs.map (·.1))->Q c { s with toks:=n }) :
  wpAny (model prog w) A (contains (.ref a) (.ref b)) Q E s:=by
 have hT:s.TypeIs (.ref a) "set" := by obtain⟨o,es,ep,t,ho,hx,_⟩:=S;exact⟨o,ho,hx.1⟩
 unfold contains;refine be ?_;refine aa (eu hT F.slot_set_contains.lookup ?_);show wpAny _ _ (if (some (Value.builtin "set.__contains__")==some Value.none)=true then _ else _) _ E s;rw[if_neg (by rw[beq_builtin_none];exact aI)]
 refine aa (wpAny_callSpecialUnlessNone?_slot (name:=Str.ofString "__contains__") hT F.slot_set_contains
  (aR F.slot_set_contains hT entry_set_contains ?_ (F.args_set_contains_2 _ _)))
 unfold Builtin.«frozenset.__contains__» Builtin.Frozenset.oneOther;simp only[List.isEmpty_nil,bind_assoc];unfold Builtin.Frozenset.addrOf Builtin.Frozenset.withSetAsKey setContains;refine aa (ae ?_);try dsimp only;refine aa (ae ?_);try dsimp only;refine aa (wpAny_tryCatch ?_);refine be ?_;refine aa ((tk prog w).pyHash hu hk ?_);refine aa (zor (s:={ s with toks:=s.toks+(tk prog w).draws (ns.map Sum.inl) }) hu S hk hel λr hr=>?_);refine ae ?_;show wpAny _ _ (ret (Value.bool r.isSome)) _ _ _;exact ae ⟨_,rfl,b4 (h _ _ hr)⟩
end
section
variable {X:Cx}
def rInS (P:Program)(w:World):R2:=λx y H Q=>∃ (a b:Addr) (ns:List Int) (ks:List (List Int)),x = .ref b/\y = .ref a/\zeM P w H a ks/\H b=some (.tup (ns.map V.int))/\∀c:Bool,(c=true↔ns∈ks)->Q (.bl c) H
def zr1 (hu:X.A.units+1<cLine):OpQ X (compareOp .In) (rInS X.prog X.w):=⟨by
 intro pins s σ H x y v u Q I rx ry h;obtain⟨a,b,ns,ks,rfl,rfl,⟨xs,hH,hel,rfl,hnd⟩,hb,q⟩:=h;cases rx;cases ry;have S:=(show yp X.prog X.w H s.heap a (zhB X.prog X.w a (yY xs)) from I.hok a _ hH).1;show wpAny _ _ (do return Value.bool (<- contains (.ref a) (.ref b))) _ _ _;refine aa (zuE (by lia) S (zck I hb) (λq hq=>?_) λc n hc=>ae ⟨.bl c,H,I.tok _,rfl,q c (hc.trans zcq)⟩);obtain⟨z,hz,rfl⟩:=az.mp hq;exact zck I (hel z hz)⟩
def zam (l:Addr)(es:Array DictEntry)(D:Nat)(F:(l==sysModules)=false) :
  Meets (Builtin.«enumerate.__new__» ⟨[.type "enumerate",.ref l],[]⟩) (λ_ R s=>uA s.heap l es D/\
   R (.ok (.ret (.ref (s.heap.push { cls:=.type "dict_keyiterator",data:=.fields #[.ref l,.int 0 0,.int es.size 0,.int D 0] }).objs.size)))
    { s with heap:=(s.heap.push { cls:=.type "dict_keyiterator",data:=.fields #[.ref l,.int 0 0,.int es.size 0,.int D 0] }).push { cls:=.type "enumerate",data:=.fields #[.none,.bool false,.ref s.heap.objs.size,rawInt 0,.none,.none] } }):=
 .of_wp λprog w A R s h=>by
  obtain⟨J,g,d,tk,L⟩:=s;obtain⟨q,h⟩:=h;have I:=sub_enumerate;obtain⟨o,B,O⟩:=id q
  wp_walk using cK B
  refine wpAny_stack_any λst=>ae ?_;split
  ·rename_i c _ _ _ _ _;cases (c==Value.type "enumerate")
   ·wp_walk using cK B,zaK F q
    exact⟨_,rfl,h⟩
   ·wp_walk using cK B,zaK F q
    exact⟨_,rfl,h⟩
  ·wp_walk using cK B,zaK F q
   exact⟨_,rfl,h⟩
def zau{prog:Program}{w:World}{A:Around}{E:Value->Shared->Prop}{s:Shared}{l:Addr}{es:Array DictEntry}{Q:Value->Shared->Prop}(J:(l==sysModules)=false)(L:uA s.heap l es q)(h:∀h',IsEnum h' (s.heap.objs.size+1) s.heap.objs.size 0 .none->h'.IsKeyIter s.heap.objs.size l 0 es.size q->
   (∀b o,s.heap.get? b=some o->h'.get? b=some o)->Q (.ref (s.heap.objs.size+1)) { s with heap:=h' }) :
  wpAny (model prog w) A (call (.type "enumerate") [.ref l]) Q E s:=by
 refine callType_new F.called_enumerate (by decide) (F.typeCall_enumerate_1 _) (F.newCall_enumerate_1 _) (λB=>F.args_object_init_2 B _) F.entry_enumerate_new
  (zam l es q J) ⟨L,?_⟩
 have D:(s.heap.push { cls:=.type "dict_keyiterator",data:=.fields #[.ref l,.int 0 0,.int es.size 0,.int q 0] }).objs.size=s.heap.objs.size+1:=bL ..;show _/\_;rw[D]
 have I:IsEnum ((s.heap.push { cls:=.type "dict_keyiterator",data:=.fields #[.ref l,.int 0 0,.int es.size 0,.int q 0] }).push
   { cls:=.type "enumerate",data:=.fields #[.none,.bool false,.ref s.heap.objs.size,rawInt 0,.none,.none] }) (s.heap.objs.size+1) s.heap.objs.size 0 .none:=by
  have:=aq (s.heap.push { cls:=.type "dict_keyiterator",data:=.fields #[.ref l,.int 0 0,.int es.size 0,.int q 0] })
   (o:={ cls:=.type "enumerate",data:=.fields #[.none,.bool false,.ref s.heap.objs.size,rawInt 0,.none,.none] }) rfl
  rw[D] at this;exact this
 exact⟨⟨_,I,rfl⟩,h _ I ⟨_,af _ (aq _ rfl),rfl,rfl⟩ λb o x=>af _ (af _ x)⟩
def Ied (d:Addr)(ob:Obj)(ks:List (List Int×V))(ys:List (List Int×Addr)):It:=
 ⟨λi H=>H d=some (.frz ob (dtO ks))/\i<ys.length,λi H v H'=>∃T q,v = .ref T/\H T=none/\H'=upd H T (.tup [.int i,.ref q.2])/\ys[i]?=some q,λi H=>H d=some (.frz ob (dtO ks))/\i=ys.length⟩
def zim{P:Program}{w:World}{K:PySem.W.Frag}{elts:List Expr}{x1}{ob:Obj}{ks:List (List Int×V)}{ys:List (List Int×Addr)}{es:Array DictEntry}(d D e:Addr)(L:e≠D)(hx:ob.ExactDict)(hd:ob.data = .dict es J)(Z:es.toList.map (·.key)=ys.map (λq=>Value.ref q.2)) :
  Turn P w K (.Tuple elts x1 tpos) (Ied d ob ks ys) [e,D] e (λi h=>(∃B,IsEnum h e D i B)/\h.IsKeyIter D d i es.size J) where
 mem:=by simp
 obj:=λi h st=>zg3 st.1 (by obtain⟨_,o,e,c,d⟩:=st;exact⟨o,e,λv z=>by rw[d] at z;cases z⟩)
 keep:=λi h h' st k=>by obtain⟨⟨B,F⟩,o,ho,r⟩:=st;exact⟨⟨B,k e (by simp) _ F⟩,o,k D (by simp) _ ho,r⟩
 item:=by
  rintro X hP hw hK hc i pins s σ H E I Y ⟨⟨B,F⟩,st⟩ ⟨O,hi⟩;subst hP hw hK;have U:∀b∈[e,D],d≠b:=λb hb=>zc O (Y b hb).1;have hm:uA s.heap d es J:=⟨ob,(I.hok d _ O).1,hx,hd⟩;have hl:es.size=ys.length:=by have:=congrArg List.length Z;rwa[ab,ab,aX] at this
  refine thn (zeZ (x:=.ref ys[i].2) (elts:=elts) (x1:=x1) (tpos:=tpos) I Y L F (zdg (A:=X.A.in1) (I.ok.hd hc) D d (U D (by simp)) J) ⟨st,hm⟩ (by lia) (by simp[L,Ne.symm (U e (by simp))]) ?_) ?_
  ·rintro y ⟨en,h1,rfl⟩;have:(es.toList.map (·.key))[i]?=(ys.map (λq=>Value.ref q.2))[i]?:=by rw[Z]
   rw[am,am,<- za8,h1,ah hi] at this;exact bw this
  ·rintro r s1 ⟨u2,rfl,h2⟩;refine⟨_,rfl,thn h2 ?_⟩;rintro _ s2 ⟨T,h3,rfl,h4,h5,h6,h7⟩;exact⟨.ref T,_,h3,rfl,⟨T,ys[i],rfl,h4,rfl,ah hi⟩,⟨h5,h6.1⟩,h7⟩
 done:=by
  rintro X hP hw hK hc i pins s σ H E I Y ⟨⟨B,F⟩,st⟩ ⟨O,hi⟩;subst hP hw hK;obtain⟨f0,f1,f2,f3,f4,f5⟩:=Y D (by simp);have hm:uA s.heap d es J:=⟨ob,(I.hok d _ O).1,hx,hd⟩;have hl:es.size=ys.length:=by have:=congrArg List.length Z;rwa[ab,ab,aX] at this
  subst hi;rw[<- hl] at st;exact wpAny_pyNext_enum_endD (zdg (A:=X.A.in1) (I.ok.hd hc) D d (zc O f0) J) F ⟨st,hm⟩ λh' ad=>⟨rfl,I.turned (t':=s.toks) (λb o hb e=>ad b o hb e) f0 f1 f3 f4 f5⟩
 self:=λA i s Q E st h=>by obtain⟨⟨B,F⟩,ag⟩:=st;exact dL F h
def zri (ta:TA):TI:=λσ H R=>ta σ H λvs H1=>∃a ob ks,vs=[.ref a]/\H1 a=some (.frz ob (dtO ks))/\∀ys:List (List Int×Addr),ys.map (·.1)=ks.map (·.1)->(∀q∈ys,H1 q.2=some (.tup (q.1.map V.int)))->(ks.map (·.1)).Nodup->R (Ied a ob ks ys) H1
def zmC{x1}(L:Gl X "enumerate")(O:X.mg "enumerate" = none)(U:QA X [a] ta)(hs:starEach [a] X.env=[(false,eval a X.env)]:=by rfl) :
  QI X (.Tuple elts x1 tpos) (.Call (.Name "enumerate" p) [a] [] pos) (zri ta):=⟨by
 intro pins s σ H R I h;refine Call_ (zbq I L O boot_enumerate (bC (thn (U.run pos pins s σ H _ I h) λus B ⟨vs,H1,I1,Y,Z⟩=>?_) hs rfl));obtain⟨b,ob,ks,rfl,hb,q⟩:=Z;obtain⟨u,rfl,ru⟩:=zay Y;cases ru;obtain⟨lo,es,ep,ys,o2,o3,hE,e1,e2,e3,e5⟩:=zg6 I1 hb;refine zau lo hE λh' J D hk=>?_;have I2:Inv X pins σ H1 { B with heap:=h',toks:=B.toks }:=I1.kept (t':=B.toks) hk;refine dL J ?_;refine⟨B.heap.objs.size+1,[B.heap.objs.size+1,B.heap.objs.size],_,_,H1,rfl,I2,zim b B.heap.objs.size (B.heap.objs.size+1) (Nat.succ_ne_self _) o2 o3 e3,⟨⟨_,J⟩,D⟩,λc F=>?_,q ys e1 e2 e5⟩;rcases aG.mp F with rfl | F
 ·exact I1.fpOk (db _) (I1.hok.fresh (db _))
 ·rw[aw.mp F];exact I1.fpOk (ai _) (I1.hok.fresh (ai _))⟩
def zpW:V->List V->Hp->VK->Prop:=λx vs H Q=>∃ (l:Addr) (xs:List V) (v:V) (d:Dt) (ds:List Dt),x = .ref l/\vs=[v]/\H l=some (.lst xs)/\IsL H ds xs/\Is H d v/\d.eqOk/\(Dt.lst ds).eqOk/\d∈ds/\∀j:Nat,ds[j]?=some d->(∀i,i<j->ds[i]?≠some d)->Q (.int j) H
open Classical in
def zj1 (hu:X.A.units+64<cLine):MtM X "list.index" zpW:=by
 intro pins s σ H x vs v us Q I rx rv h;obtain⟨l,xs,u0,d,ds,rfl,rfl,hH,Y,hd,Z,ks,hm,q⟩:=h;cases rx;obtain⟨u,rfl,ru⟩:=rv.one;obtain⟨z,its,n,r,hl,e⟩:=I.lstM hH;obtain⟨as,ra⟩:=uC I.hok 8 hd ru Z
 obtain⟨bs,rb⟩:=uD I.hok 7 Y r λw hw=>by rw[zal] at hw;obtain⟨d',ad,rfl⟩:=az.mp hw;exact zaJ ks d' ad
 obtain⟨l1,l2,l3⟩:=znr Z ks hu;have B:=readsAll_map _ _ _ l1 rb;rw[zcl,zal,au] at B;have J:its.length=ds.length:=by have:=congrArg List.length B;rwa[ab,ab] at this
 have rd:∀ (m:Nat) (h1:m<its.length) (h2:m<ds.length),readOf s.heap its[m]=PySem.W.kqdP ds[m].toW:=λm h1 h2=>by have:=congrArg (λl=>l[m]?) B;rw[am,am,ah h1,ah h2] at this;exact bw this
 have ev:∀ (m:Nat) (h2:m<ds.length),PyData.eqv (PySem.W.kqdP ds[m].toW) (PySem.W.kqdP d.toW)=true↔ds[m]=d:=λm h2=>(eE 7 _ _ 8 (zaJ ks _ (bO h2)) Z).trans ⟨λh=>zeB h,λh=>by rw[h]⟩
 let j:=ds.findIdx λx=>decide (x=d)
 have L:j<ds.length:=List.findIdx_lt_length_of_exists ⟨d,hm,a9 rfl⟩;have O:ds[j]=d:=b7 (List.findIdx_getElem (p:=λx=>decide (x=d)) (w:=L))
 have U:∀m (h2:m<ds.length),m<j->ds[m]≠d:=λm h2 D z=>by have:=List.not_of_lt_findIdx (p:=λx=>decide (x=d)) D;rw[a9 z] at this;cases this
 have z:xs.length<=sizeLine:=z;rw[bQ] at z;have:=r.length
 refine dF F.slot_list_index ⟨_,e,rfl⟩ F.entry_list_index (F.args_list_index_2 _ _)
  (list_indexAt l its.toArray n none #[] u (λy=>PyData.eqv (readOf s.heap y) (PySem.W.kqdP d.toW)) j (by simpa [J] using L) (by lia) ?_ ?_) ⟨e,items_eqAt rb ra l1 l2 l3,?_⟩
 ·show PyData.eqv (readOf s.heap its[j]) _=true;rw[rd j (by lia) L];exact (ev j L).mpr O
 ·intro m ag D;have h2:m<ds.length:=by lia
  show PyData.eqv (readOf s.heap its[m]) _=false;rw[rd m (by lia) h2,<- Bool.not_eq_true];exact λh=>U m h2 D ((ev m h2).mp h)
 ·refine⟨.int (j:Nat),H,I.tok _,⟨_,rfl⟩,q j (by rw[ah L,O]) λi hi z=>?_⟩;have h2:i<ds.length:=by lia
  rw[ah h2] at z;exact U i h2 hi (bw z)
end
end L2
namespace L3
open PySem PySem.Spec L2
section
variable {X:Cx}{Pn:Option zr}{M S:List Nat}{fr fr':Bool}{pos p:Pos}{e o a b c:Expr}{es:List Expr}{f fo fa fc:Ev->Mo W}
abbrev dAug (F:Int->Int->Int) (i:Nat) (f:Ev->Mo W):Ms:=λρ n k=>onV ρ i λx=>onI x λa=>f ρ n λy m=>onI y λb=>onP ρ i (.d (.int (F a b))) λq=>k.nx q m
def zry {i:Nat}{x:Str}{op:Operator}{F:Int->Int->Int}{pos':Pos}(hN:X.N.Nodup)(ho:PIp X op (ipI F))(he:JB X Pn M e f)(hi:X.N[i]?=some x:=by rfl)(hx:Loc X.env.scope x:=by first | exact Or.inl rfl | exact Or.inr rfl)(J:i∉M:=by decide)(U:i∉S++M:=by decide)(I:X.fn x=true\/X.env.scope.names.lookup x=some .local:=by walk_at "l") :
  JS X Pn S M fr (.AugAssign (.Name x pos') op e pos) (dAug F i f):=by
 obtain⟨te,q,r⟩:=he.ex;refine⟨_,⟨zsm hN hi hx q.run ho I⟩,⟨λB A σ H ρ n k D a kk I=>?_⟩⟩;simp only[dAug,zaq,xG,ur] at I;obtain⟨w0,e0,L,rfl,I⟩:=I;obtain⟨v,s1,s2,_⟩:=a.env.val i _ e0;obtain rfl:v = .int L:=(s2 J).is;refine⟨_,s1,r.run A σ H ρ n _ _ a.env a.pn I ?_⟩;rintro y m v2 H1 ⟨O,rfl,r1⟩ b1 g1;obtain rfl:v2 = .int O:=yx b1;have a1:=a.step g1;exact⟨L,O,rfl,rfl,(zes J U).run A σ H1 ρ (.int (F L O)) (.d (.int (F L O))) _ (λY=>k.nx Y m) a1.env (Val.of rfl) r1 λZ ad r2 E2 f2=>kk.nx A Z H1 ad m (EnvR.mineG a1 E2 f2) r2⟩
abbrev zqU (F:Int->Int->Int) (i:Nat) (fk f:Ev->Mo W):Ms:=λρ n k=>onV ρ i λx=>onE x λkvs=>fk ρ n λy m=>∃st,y = .d (stD st)/\∃a,yy kvs st=some (.int a)/\f ρ m λw B=>onI w λb=>kvs.length<lim/\onP ρ i (.dt (zeI kvs st (.int (F a b)))) λq=>k.nx q B
def zjE (i:Nat){x:Str}{op:Operator}{F:Int->Int->Int}{np:Pos}(hu:X.A.units+1<cLine)(hk:JB X Pn M c fc)(ho:ztJ X op (ipI F))(he:JB X Pn M e f)(hi:i∈M:=by decide)(hN:X.N[i]?=some x:=by rfl)(hv:Vis X.env.scope x:=by walk_at "v")(hd:(x==("__debug__" : Str))=false:=by decide)
  (hcd:(x==("__classdict__" : Str))=false:=by decide) (ha:∀ov iv new,augStore c ov iv new=(do holding [new,ov,iv] (setItem ov iv new);release [new,ov,iv] [];pure .next):=by intros;rfl) :
  JS X Pn S M fr (.AugAssign (.Subscript (.Name x np) c p) op e pos) (zqU F i fc f):=by
 obtain⟨te,q,r⟩:=he.ex;obtain⟨tk,qk,rk⟩:=hk.ex;refine⟨_,⟨zpv hu (qv i hN hv hd hcd).run qk.run q.run ho ha⟩,⟨λB A σ H ρ n k D a kk hf=>?_⟩⟩;simp only[zqU,zaq,zhr,xG,ur] at hf;obtain⟨w0,e0,kvs,rfl,hf⟩:=hf;obtain⟨v0,s0,_,o3⟩:=a.env.val i _ e0;obtain⟨ad,rfl,hA,_,_⟩:=o3 hi;refine⟨.ref ad,s0,rk.run A σ H ρ n _ _ a.env a.pn hf ?_⟩;rintro y m v2 H1 ⟨st,rfl,a0,ha0,r1⟩ b1 g1;have a1:=a.step g1;obtain⟨bd,xs,rfl,hbd,hx⟩:=xb b1;obtain rfl:=hx.of_ints
 have own:∀ {H1:Hp} {m:Nat},At3 Pn B S M A σ H1 ρ m->∃ks,H1 ad=some (dtO ks)/\uK (z8 A H1) kvs ks:=λa1=>by obtain⟨v3,s3,_,o4⟩:=a1.env.val i _ e0;rw[s0] at s3;cases s3;obtain⟨ad2,e4,_,hb,_⟩:=o4 hi;cases e4;obtain⟨a5,ks,e5,had,hkv⟩:=hb;cases e5;exact⟨ks,had,hkv⟩
 obtain⟨ks,had,hkv⟩:=own a1;obtain⟨v,h1,h2⟩:=(hkv.look (k:=st)).2 _ ha0;refine⟨ad,v,rfl,h1 ▸ zcQ.i had hbd,r.run A σ H1 ρ m _ _ a1.env a1.pn r1 ?_⟩;rintro w m2 v3 H2 ⟨b0,rfl,hz,r2⟩ b2 g2;have a2:=a1.step g2;obtain rfl:v3 = .int b0:=yx b2;obtain⟨ks2,had2,hkv2⟩:=own a2;exact⟨a0,b0,h2,rfl,_,zcT.i had2 (g2.st.tup hbd) (zdo (by rw[hkv2.len];exact cj hz)),kk.nx A σ _ _ m2 (a2.wrX (w':=.dt (zeI kvs st (.int (F a0 b0)))) hi e0 s0 ⟨ad,_,rfl,zk,hkv2.put (show Is _ (.int _) _ from rfl)⟩ rfl (λk z=>by cases z) (λ_ z=>by cases z)) r2⟩
abbrev zq5 (P:Program) (w:World):List W->Mo W:=λq n Q=>on1 q λx=>∃sts:List (List Int),x = .d (.lst (sts.map stD))/\sts.length<300/\∀ks:List (List Int),ks.Nodup->(∀st,st∈ks↔st∈sts)->Q (.ss P w ks) n
def ztq:FL Pn true (znD P w) (zq5 P w):=⟨λA H xs ws n Q R J b Pp h k=>by
 simp only[zq5,u8] at h;obtain⟨x,rfl,sts,rfl,F,h⟩:=h;obtain⟨v,r,rfl,O,rfl⟩:=b;obtain⟨U,ys,rfl,Y,Z⟩:=yR O;refine⟨U,ys,sts,rfl,Y,Z.stay (zB.same zp),F,λl H' ks L SV mm Sm=>?_⟩;obtain⟨xs,h1,h2,F,I⟩:=SV;have D:=J.stay (zB.same Sm);refine k _ n _ H' (h ks I mm) ⟨l,xs,rfl,zG (J.new L) h1,F,λq B=>zG (λz=>D.noT _ _ z (h2 q B)) (h2 q B),I⟩ (Go.same Pp Sm) λ_=>⟨l,rfl,.of L,l,xs,rfl,h1,F,λq B=>zG (λz=>?_) (h2 q B),I⟩;rcases z with z | z
 ·exact D.noT _ _ z (h2 q B)
 ·have:=h2 q B;rw[z,h1] at this;cases this⟩
abbrev dInS (P:Program) (w:World):W->W->Mo W:=λx y n Q=>∃ (st:List Int) (ks:List (List Int)),x = .d (stD st)/\y = .ss P w ks/\∀c:Bool,(c=true↔st∈ks)->Q (.d (.bl c)) n
def zvO:F2 Pn false (rInS P w) (dInS P w):=⟨λA H x y O U n Q R Y B D Pp h k=>by obtain⟨st,ks,rfl,rfl,h⟩:=h;obtain⟨F,rfl,SV⟩:=zqd D;obtain⟨I,xs,rfl,q,J⟩:=xb B;obtain rfl:=J.of_ints;exact⟨F,I,st,ks,rfl,rfl,SV,q,λc L=>k _ n _ H (h c L) (Val.of rfl) (Go.refl Pp) λz=>by cases z⟩⟩
def zrr{ks:List (List Int×V)}{ys:List (List Int×Addr)}{l:List (List Int)}(h:z8 A H B=some (.frz ob (dtO ks)))(D:l=ys.map (·.1))(I:∀q∈ys,z8 A H q.2=some (.tup (q.1.map V.int))):ItV false A H (Ied B ob ks ys) (enW 0 (l.map stD)) where
 one:=λi w A2 H2 e s _ J=>by subst D;rw[zb9,am,am] at e;obtain⟨d,L,rfl⟩:=aB.mp e;obtain⟨st,O,rfl⟩:=aB.mp L;obtain⟨q,h1,rfl⟩:=aB.mp O;refine⟨⟨zp _ _ (s _ _ h λk z=>by cases z),(ac.mp h1).1⟩,?_⟩;rintro y H3 ⟨T,U,rfl,F,rfl,h2⟩;rw[h1] at h2;cases h2;have S:=xh.upd (o:=.tup [.int i,.ref q.2]) F;have g:Is (z8 A2 (L2.upd H2 T (.tup [.int i,.ref q.2]))) (stD q.1) (.ref q.2):=Is.stay (zB.same (ul S)) ⟨q.2,_,rfl,s.tup (I q (aj h1)),zdY q.1⟩;refine⟨S,Val.of ⟨T,_,rfl,zG (J T F) zk,_,_,rfl,?_,_,_,rfl,g,rfl⟩⟩;show V.int (i:Int)=V.int ((0+i:Nat):Int);rw[Nat.zero_add]
 stop:=λA2 H2 s _=>by subst D;exact⟨zp _ _ (s _ _ h λk z=>by cases z),by rw[zf2,ab,ab]⟩
abbrev zuj (fa:Ev->Mo (List W)):Ev->Mo (List W):=λρ n Q=>fa ρ n λq m=>on1 q λx=>onZ x λkvs=>(kvs.map (·.1)).Nodup->Q (enW 0 ((kvs.map (·.1)).map stD)) m
def zlT{x1}(U:Gl X "enumerate")(Y:X.mg "enumerate" = none)(Z:JA X Pn M [a] fs)(hs:starEach [a] X.env=[(false,eval a X.env)]:=by rfl):JI X Pn M false (.Tuple elts x1 tpos) (.Call (.Name "enumerate" p) [a] [] pos) (zuj fs):=by obtain⟨te,q,r⟩:=Z.ex;refine⟨_,zmC U Y q hs,⟨λA σ H ρ n Q R E P hf k=>?_⟩⟩;refine r.run A σ H ρ n _ _ E P hf λws m vs H1 D F g=>?_;simp only[u8,zkf] at D;obtain⟨w,rfl,kvs,rfl,D⟩:=D;obtain⟨v,r,rfl,F,rfl⟩:=F;obtain⟨ad,ob,ks,rfl,B,hl⟩:=F;have J:ks.map (·.1)=kvs.map (·.1):=hl.keys;have I:=(E.stay g.st).alT;exact⟨ad,ob,ks,rfl,zp _ _ B,λys e1 L e3=>k _ m _ H1 (D (by rw[<- J];exact e3)) (zrr B (by rw[<- J,e1]) λq O=>zG (λy=>I _ _ y (L q O)) (L q O)) g⟩
abbrev zoa (fo f:Ev->Mo W):Ev->Mo W:=λρ n Q=>fo ρ n λx q=>onL x λl=>f ρ q λy B=>onD y λd=>d.eqOk/\(Dt.lst l).eqOk/\d∈l/\∀j:Nat,l[j]?=some d->(∀i,i<j->l[i]?≠some d)->Q (.d (.int j)) B
def zlR (K:PySem.W.Frag)(Y:X.K=K)(Z:X.A.units+64<cLine){apos cpos:Pos}(ho:JB X Pn M o fo)(he:JB X Pn M e f)
  (B:attributeBase o "index" X.env (eval o X.env)=eval o X.env:=by rfl)
  (I:((backTo cpos (starEach [e] X.env)).all (λx=>!x.1)&&(backToKw cpos (keywordEach [] X.env)).all (λx=>x.1.isSome)
   && decide (([e]:List Expr).length+([]:List Keyword).length+(if ([]:List Keyword).isEmpty then 0 else 1)<30))=true:=by rfl)
  (D:(apos.endLine==cpos.line)=true:=by rfl) (hs:starEach [e] X.env=(false,eval e X.env)::starEach [] X.env:=by rfl) (q:(backTo cpos (starEach [] X.env)).any (·.1)=false:=by rfl) :
  JE X Pn M false (.Call (.Attribute o "index" apos) [e] [] cpos) (zoa fo f):=by
 subst Y;obtain⟨to,qo,ro⟩:=ho.ex;obtain⟨te,qe,re⟩:=he.ex;refine⟨_,zfz bV PySem.F.slot_list_index PySem.F.type_list_index (zj1 Z) qo (zO qe yC hs) B I D hs q,⟨λA σ H ρ n Q R E P hf k=>?_⟩⟩;refine ro.run A σ H ρ n _ _ E P hf λw m v H1 J b1 O=>?_;rw[xH] at J;obtain⟨l,rfl,J⟩:=J;obtain⟨ad,xs,rfl,U,hl⟩:=yR b1;refine⟨.inl ⟨rfl,_,SqL.of U⟩,?_⟩;refine re.run A σ H1 ρ m _ _ (E.stay O.st) O.pn J λw2 m2 v2 H2 L b2 g2=>?_;rw[x4] at L;obtain⟨d,rfl,k1,k2,k3,L⟩:=L;exact⟨ad,xs,v2,d,l,rfl,rfl,g2.st.lst U,(hl.stay (zB.same zp)).stay g2.st,b2.is,k1,k2,k3,λj h1 h2=>k _ m2 _ H2 (L j h1 h2) (Val.of rfl) (O.trans g2) λz=>by cases z⟩
def zru:JE X Pn M true (.Dict [] [] pos) (mC (.d .dct)):=⟨_,zmx,⟨λA σ H ρ n Q R E P B k=>λp q=>k _ n _ _ B ⟨p,[],rfl,zG (E.new q) zk,rfl⟩ (Go.same P (xh.upd q)) λ_=>⟨p,rfl,.of q,p,[],rfl,zk,rfl⟩⟩⟩
abbrev snN:List W->(List W->Prop)->Prop
 | [],P=>P [.d .non]
 | a::r,P=>snN r λq=>P (a::q)
def znK:∀ {q:List W} {P:List W->Prop},snN q P=P (q++[.d .non])
 | [],P=>rfl
 | a::r,P=>by rw[snN,znK];rfl
def zbQ.non:∀ {q:List W} {vs:List V},zbQ A H q vs->zbQ A H (q++[.d .non]) (vs++[.non])
 | [],_,h=>by cases h;exact⟨_,_,rfl,Val.of rfl,rfl⟩
 | _::_,_,⟨v,r,e,h1,h2⟩=>by subst e;exact⟨v,_,rfl,h1,zbQ.non h2⟩
abbrev dFnD (k:Nat) (F:List W->Mo W) (fs:Ev->Mo (List W)):Ev->Mo W:=λρ n Q=>fs ρ n λB m=>snN B λq=>zda k q (F q m Q)
def zuJ(D:DfnD X.K X.mg x st ps [Value.none] L fd)(G:FnOk X.prog X.w X.K X.mg X.base CX0 j L fd ps (spV k fr F))(O:Room q X.A)(U:JA X Pn M (e::es) fs)(B:j<=q:=by decide)(Y:Gl X x:=by rfl)(I:(x==("__debug__" : Str))=false:=by decide)(Z:starEach (e::es) X.env=(false,eval e X.env)::starEach es X.env:=by rfl)(J:(backTo pos (starEach es X.env)).any (·.1)=false:=by rfl) :
  JE X Pn M fr (.Call (.Name x p) (e::es) [] pos) (dFnD k (F Pn) fs):=by
 obtain⟨ta,qa,ra⟩:=U.ex;refine⟨_,zsy (dv:=[.non]) D (.cons rfl .nil) G O qa B Y I Z J,⟨λA σ H ρ n Q R E P hf q=>?_⟩⟩;refine ra.run A σ H ρ n _ _ E P hf λws m vs H1 h b g=>?_;rw[znK,zbW] at h;exact⟨Pn,A,_,m,R,(E.stay g.st).al,b.non,h.1,g.pn,h.2,λw m' v H' h1 h2 h3 h4=>q w m' v H' h1 h2 (g.trans h3) λz=>(h4 z).back g.st⟩
end
end L3
local macro_rules | `(tactic| left)=>`(tactic| ((try (with_reducible conv=>whnf));repeat (with_reducible refine L3.zqN ?_;try (with_reducible conv=>whnf)));try dsimp only)
local macro_rules | `(tactic| walk_at "ct")=>`(tactic| (with_reducible refine L3.zo7 ?_ ?_;(first | decide | assumption | rfl));left)
local macro_rules | `(tactic| walk_at "cf")=>`(tactic| (with_reducible refine L3.zo6 ?_ ?_;(first | decide | assumption | rfl));left)
namespace Law
open PySem L2 L3
abbrev la:List Str:=["_law_pen_here","_law_room_here"]
abbrev lc:List Str:=["given","box","better","worse","standing","left_alone"]
abbrev ld:List Str:=["_law_pen_here","_law_many"]
abbrev lh:List Str:=["_law_pen_here","_law_room_here","_law_book_here"]
abbrev li:List Str:=["_law_script"]
abbrev lj:List Str:=["_law_one","_law_other"]
abbrev ll:List Str:=["_law_room_here","_law_book_here","_law_thing"]
abbrev lm:List Str:=["_law_pen_here","_law_way","_law_worths"]
abbrev ln:List Str:=["_law_at","_law_worth","_law_standing"]
abbrev lq:List Str:=["_law_pen_here","_law_some"]
abbrev lr:List Str:=["_law_room_here"]
abbrev lu:List Str:=["room","book"]
abbrev lv:List Str:=["standing","box","worth"]
abbrev lw:List Str:=["_law_book_here","_law_standing"]
abbrev ly:List Str:=["_law_worth","_law_one"]
abbrev lz:List Str:=["room","book","standing","held"]
abbrev lA:List Str:=["_law_room_here","_law_boxes"]
abbrev lB:List Str:=["_law_pen_here","_law_worths"]
abbrev lC:List Str:=["standing","waiting"]
abbrev lD:List Str:=["_law_pen_here","_law_most"]
abbrev lE:List Str:=["_law_k","_law_pen_here","_law_room_here"]
abbrev lF:List Str:=["_law_one","_law_left","_law_pen_here"]
abbrev lG:List Str:=["_law_worth","_law_given","_law_box"]
abbrev lH:List Str:=["_law_one","_law_worth"]
abbrev lI:List Str:=["_law_one","_law_more","_law_times"]
abbrev lJ:List Str:=["row","worth","worths"]
abbrev lK:List Str:=["room","book","thing"]
abbrev lL:List Str:=["_law_k","_law_one","_law_other"]
abbrev lM:List Str:=["_law_k","_law_one","_law_box"]
abbrev lN:List Str:=["standing","given"]
abbrev lO:List Str:=["room","standing"]
abbrev lP:List Str:=["room"]
abbrev lQ:List Str:=["leads","left"]
abbrev lR:List Str:=["room","thing"]
abbrev lS:List Str:=["standing"]
abbrev lT:List Str:=["choices"]
def top (i:Nat):Stmt:=PySem.Challenge.pw_allelse_k24_worths_known.main.body.getD i (.Pass ⟨0,0,0,0⟩)
abbrev zdv:Stmt:=top 19
abbrev zcD:Stmt:=top 20
abbrev zcG:Stmt:=top 21
abbrev zcF:Stmt:=top 22
abbrev uN:Stmt:=top 23
abbrev zdw:Stmt:=top 25
abbrev zcH:Stmt:=top 26
abbrev zac:Stmt:=top 27
abbrev zab:Stmt:=top 28
abbrev zcE:Stmt:=top 29
abbrev zbz:Stmt:=top 30
abbrev zby:Stmt:=top 31
abbrev zaY:Stmt:=top 32
abbrev zas:Stmt:=top 33
abbrev zcC:Stmt:=top 34
abbrev zdx:Stmt:=top 3
abbrev zcJ:Stmt:=top 4
abbrev zfC:Stmt:=top 6
abbrev zkH:Stmt:=top 8
abbrev zbC:Stmt:=top 10
abbrev uO:Stmt:=top 11
abbrev zcI:Stmt:=top 13
abbrev zbE:Stmt:=top 14
abbrev uP:Stmt:=top 15
abbrev zdy:Stmt:=top 1
abbrev zbD:Stmt:=top 2
abbrev zhA:Stmt:=top 5
abbrev zbB:Stmt:=top 16
abbrev za0:Stmt:=top 17
abbrev zbA:Stmt:=top 24
abbrev zdu:Stmt:=top 35
abbrev zaZ:Stmt:=top 36
abbrev zcB:Stmt:=top 37
abbrev zs3:Stmt:=top 38
def zgH:FnScope li li (zf zdv):=by walk_at "f"
def ym:FnScope ["_law_pen_here","_law_many","_law_found","_law_at","_law_cell","_law_mixed"] ld (zf zcD):=by walk_at "f"
def zbF:FnScope ["_law_pen_here","_law_some","_law_left"] lq (zf zcG):=by walk_at "f"
def yn:FnScope ["_law_pen_here","_law_most","_law_way","_law_wanted","_law_room_here","_law_left","_law_many"] lD (zf zcF):=by walk_at "f"
def zX:FnScope ["_law_room_here","_law_found","_law_many","_law_longer","_law_one"] lr (zf uN):=by walk_at "f"
def zcK:FnScope ["_law_pen_here","_law_many","_law_one"] ld (zf zdw):=by walk_at "f"
def yN:FnScope ["_law_pen_here","_law_room_here","_law_box","_law_share","_law_given","_law_at","_law_better","_law_worse"] la (zf zcH):=by walk_at "f"
def yd:FnScope ["_law_room_here","_law_boxes","_law_found","_law_box","_law_longer","_law_given"] lA (zf zac):=by walk_at "f"
def zJ:FnScope ["_law_pen_here","_law_room_here","_law_boxes","_law_found","_law_place","_law_box","_law_looks","_law_given","_law_ranks","_law_k"] la (zf zab):=by walk_at "f"
def zad:FnScope ["_law_one","_law_other","_law_box","_law_given"] lj (zf zcE):=by walk_at "f"
def zU:FnScope ["_law_room_here","_law_found","_law_many","_law_longer","_law_k","_law_one","_law_worths"] lr (zf zbz):=by walk_at "f"
def uH:FnScope ["_law_pen_here","_law_room_here","_law_way"] la (zf zby):=by walk_at "f"
def zM:FnScope ["_law_pen_here","_law_room_here","_law_every","_law_rank","_law_k","_law_one","_law_found","_law_box","_law_worth","_law_other"] la (zf zaY):=by walk_at "f"
def z7:FnScope ["_law_pen_here","_law_room_here","_law_book_here","_law_way","_law_at","_law_given","_law_box","_law_better","_law_worse"] lh (zf zas):=by walk_at "f"
def yf:FnScope ["_law_pen_here","_law_room_here","_law_kind","_law_spoil","_law_many","_law_book_here"] la (zf zcC):=by walk_at "f"
def uI:FnScope ["choices","rows","worths"] lT (zf zdx):=by walk_at "f"
def zfD:FnScope lP lP (zf zcJ):=by walk_at "f"
def zij:FnScope lv lv (zf zfC):=by walk_at "f"
def zev:FnScope ["standing","given","box","worth"] lN (zf zkH):=by walk_at "f"
def za2:FnScope ["room","book","standing","held","left_alone"] lz (zf zbC):=by walk_at "f"
def zbk:FnScope lu lu (zf uO):=by walk_at "f"
def x8:FnScope ["leads","many","standing","there"] ["leads"] (zf zcI):=by walk_at "f"
def yg:FnScope ["leads","left","among","came_from","here","there","row"] lQ (zf zbE):=by walk_at "f"
def zD:FnScope ["room","book","leads","waiting","longest","row","at","here","there","left"] lu (zf uP):=by walk_at "f"
def zgI:FnScope ["thing"] ["thing"] (zf zdy):=by walk_at "f"
def xK:FnScope ["room","many","worths"] lP (zf zbD):=by walk_at "f"
def zae:FnScope ["room","standing","place","worths","worth"] lO (zf zhA):=by walk_at "f"
def za1:FnScope ["room","thing","worth"] lR (zf zbB):=by walk_at "f"
def yZ:FnScope ["room","book","thing","leads","at","standing","there"] lK (zf za0):=by walk_at "f"
def yv:FnScope ["_law_book_here","_law_standing","_law_found","_law_given","_law_box","_law_better","_law_worse","_law_there"] lw (zf zbA):=by walk_at "f"
def xW:FnScope ["_law_room_here","_law_book_here","_law_thing","_law_every","_law_held","_law_one","_law_other"] ll (zf zdu):=by walk_at "f"
def ud:FnScope ["_law_pen_here","_law_worths","_law_times","_law_more"] lB (zf zaZ):=by walk_at "f"
def x6:FnScope ["_law_pen_here","_law_way","_law_worths","_law_at","_law_other","_law_one"] lm (zf zcB):=by walk_at "f"
def y8:FnScope ["_law_script","_law_pen_here","_law_last","_law_turn_here","_law_way","_law_most","_law_room_here","_law_book_here","_law_said","_law_many","_law_worths","_law_thing","_law_found","_law_other"] li (zf zs3):=by walk_at "f"
set_option genInjectivity false in
structure Ad where
 f0:Addr
 d0:FuncData
 f1:Addr
 d1:FuncData
 f2:Addr
 d2:FuncData
 f3:Addr
 d3:FuncData
 f4:Addr
 d4:FuncData
 f5:Addr
 d5:FuncData
 f6:Addr
 d6:FuncData
 f7:Addr
 d7:FuncData
 f8:Addr
 d8:FuncData
 f9:Addr
 d9:FuncData
 f10:Addr
 d10:FuncData
 f11:Addr
 d11:FuncData
 f12:Addr
 d12:FuncData
 f13:Addr
 d13:FuncData
 f14:Addr
 d14:FuncData
 f15:Addr
 d15:FuncData
 f16:Addr
 d16:FuncData
 f17:Addr
 d17:FuncData
 f18:Addr
 d18:FuncData
 f19:Addr
 d19:FuncData
 f20:Addr
 d20:FuncData
 f21:Addr
 d21:FuncData
 f22:Addr
 d22:FuncData
 f23:Addr
 d23:FuncData
 f24:Addr
 d24:FuncData
 f25:Addr
 d25:FuncData
 f26:Addr
 d26:FuncData
 f27:Addr
 d27:FuncData
 f28:Addr
 d28:FuncData
 f29:Addr
 d29:FuncData
 f30:Addr
 d30:FuncData
 f31:Addr
 d31:FuncData
 f32:Addr
 d32:FuncData
 f33:Addr
 d33:FuncData
structure Txt (K:PySem.W.Frag)(mg:Str->Option Value)(t:Ad):Prop where
 q0:Dfn K mg "_law_pen" zdv li t.f0 t.d0
 q1:Dfn K mg "_law_draw" zcD ld t.f1 t.d1
 q2:Dfn K mg "_law_turn" zcG lq t.f2 t.d2
 q3:Dfn K mg "_law_room" zcF lD t.f3 t.d3
 q4:Dfn K mg "_law_standings" uN lr t.f4 t.d4
 q5:Dfn K mg "_law_two" zdw ld t.f5 t.d5
 q6:Dfn K mg "_law_wish" zcH la t.f6 t.d6
 q7:Dfn K mg "_law_contexts" zac lA t.f7 t.d7
 q8:Dfn K mg "_law_by_order" zab la t.f8 t.d8
 q9:Dfn K mg "_law_full" zcE lj t.f9 t.d9
 q10:Dfn K mg "_law_snake" zbz lr t.f10 t.d10
 q11:Dfn K mg "_law_along" zby la t.f11 t.d11
 q12:Dfn K mg "_law_rising" zaY la t.f12 t.d12
 q13:Dfn K mg "_law_spoiled" zas lh t.f13 t.d13
 q14:Dfn K mg "_law_book" zcC la t.f14 t.d14
 q15:Dfn K mg "combined" zdx lT t.f15 t.d15
 q16:Dfn K mg "standings" zcJ lP t.f16 t.d16
 q17:Dfn K mg "changed" zfC lv t.f17 t.d17
 q18:Dfn K mg "keeps" zkH lN t.f18 t.d18
 q19:DfnD K mg "betterings" zbC lz [Value.none] t.f19 t.d19
 q20:Dfn K mg "all_betterings" uO lu t.f20 t.d20
 q21:Dfn K mg "many_into" zcI ["leads"] t.f21 t.d21
 q22:Dfn K mg "ring_among" zbE lQ t.f22 t.d22
 q23:Dfn K mg "ring_or_worths" uP lu t.f23 t.d23
 q24:Dfn K mg "is_whole" zdy ["thing"] t.f24 t.d24
 q25:Dfn K mg "multiplied" zbD lP t.f25 t.d25
 q26:Dfn K mg "number" zhA lO t.f26 t.d26
 q27:Dfn K mg "are_worths" zbB lR t.f27 t.d27
 q28:Dfn K mg "lets_worths" za0 lK t.f28 t.d28
 q29:Dfn K mg "_law_steps" zbA lw t.f29 t.d29
 q30:Dfn K mg "_law_due" zdu ll t.f30 t.d30
 q31:Dfn K mg "_law_spread" zaZ lB t.f31 t.d31
 q32:Dfn K mg "_law_bent" zcB lm t.f32 t.d32
 q33:Dfn K mg "law" zs3 li t.f33 t.d33
 b_zip:mg "zip" = none
 b_sorted:mg "sorted" = none
 b_set:mg "set" = none
 b_enumerate:mg "enumerate" = none
 b_list:mg "list" = none
 b_tuple:mg "tuple" = none
 b_range:mg "range" = none
 b_len:mg "len" = none
 b_dict:mg "dict" = none
 b_isinstance:mg "isinstance" = none
 b_int:mg "int" = none
 b_bool:mg "bool" = none
 b_max:mg "max" = none
 b_abs:mg "abs" = none
 b_all:mg "all" = none
section
variable {P:Program}{w:World}{K:PySem.W.Frag}{mg:Str->Option Value}{base:Heap}{t:Ad}
def zgu (T:Txt K mg t):FnOk P w K mg base CX0 1 t.f0 t.d0 li (zmS K):=by
 refine T.q0.F.okQ zgH (λvs H Q E h=>?_) (λY A I s H vs Q E hr h=>?_)
 ·obtain⟨a,ns,rfl,_⟩:=h;rfl
 ·obtain⟨a,ns,rfl,Z,U,k⟩:=h;refine⟨_,(uG (zbx (zpH (zen xV (zel zkQ (qv 0) zks (zkt yD)) (zen xV yD (zen xV yD zpR))) rfl rfl (by simp) (by decide)))),?_⟩;intro p J;refine⟨_,rfl,_,rfl,a,_,rfl,(xh.upd J).seq Z,λc D=>?_⟩;have q:p≠c:=λe=>by subst e;rw[zk] at D;cases D
  have L:H c=none:=by rw[zg (Ne.symm q)] at D;exact D
  refine⟨by rw[zg q,zk],za5 c 0 0,rfl,(by show 3<=15;decide),?_⟩;rw[zse]
  have B:zcW (ns.map V.int) none (some 63)=ns.map V.int:=by
   unfold zcW;rw[HT.sIx_none]
   have O:HT.sIx (ns.map V.int).length (ns.map V.int).length (some 63)=(ns.map V.int).length:=by have:=HT.sIx_nat (ns.map V.int).length (ns.map V.int).length 63;rw[ab] at this ⊢;rw[Nat.min_eq_right U] at this;exact this
   rw[O,eW,fO,aK]
  refine k p c _ ⟨⟨0,0,zk,by lia,by lia,by lia⟩,?_,U⟩ ?_
  ·rw[zg (Ne.symm q),zk];exact congrArg (λz=>some (HO.lst z)) B
  ·intro b o e;rw[zg (zc e J),zg (zc e L),zg (zc e J)];exact e
def zbt (T:Txt K mg t):FnOk P w K mg base CX0 1 t.f1 t.d1 ld zkO:=by
 refine T.q1.F.okQ ym (λvs H Q E h=>?_) (λa1 A ap s H vs Q E hr h=>?_)
 ·obtain⟨p,c,ns,n,yV,rfl,_⟩:=h;rfl
 ·obtain⟨p,c,ns,n,yV,rfl,hP,hn,h1,h2,k⟩:=h;have J:=xy hr;obtain⟨⟨a,l,O,U,Z,ad⟩,hc,L⟩:=id hP;have Y:c≠p:=zj4 hc O (by intro z;cases z)
  refine⟨_,(ye (zmE (zcy zkh (uc J (qv 0) xV (λ_ _=>rfl)) yD (zy _)) (ye (x5 (i:=2) ym.nd rfl (Or.inl rfl) (xa zaU (uc J (qv 0) xV (λ_ _=>rfl)) (qv 1)))
   (ye (zeo J (qv 0) xV (xa zeh (uc J (qv 0) xV (λ_ _=>rfl)) (qv 1)) rfl)
   (uG (zbx (qv 2))))) zeq)
   (ye (x5 (i:=3) ym.nd rfl (Or.inl rfl) (uc J (qv 0) xV (λ_ _=>rfl)))
   (ye (zeo J (qv 0) xV (xa yi (qv 3) yD) rfl)
   (ye (x5 (i:=4) ym.nd rfl (Or.inl rfl) (xa yi (xa zar yD (qv 3)) yD))
   (ye (zmE (zcy zkh (xq yQ (by rfl) T.b_len aZ (zO (uc J (qv 0) xV (λ_ _=>rfl)) yC)) yD (zy _)) (uG (x5 (i:=4) ym.nd rfl (Or.inl rfl) (zsA xo (uc J (qv 0) xV (λ_ _=>rfl)) (xa zaU (qv 3) (xq yQ (by rfl) T.b_len aZ (zO (uc J (qv 0) xV (λ_ _=>rfl)) yC))) (λ_ _=>rfl)))) zeq)
   (ye (zmE (QW.pt (znA (zcy zme (qv 3) (xq yQ (by rfl) T.b_len aZ (zO (uc J (qv 0) xV (λ_ _=>rfl)) yC)) (zy _)) (zku (zcy zvh (xq ziV (by rfl) T.b_abs dW (zO (qv 4) yC)) (xa zdr yD yD) (zy _))))) (ye (zeo J (qv 0) xV (xa zeh (xq ziV (by rfl) T.b_abs dW (zO (qv 4) yC)) (qv 1)) rfl)
   (uG (zbx (xa zaU (xq ziV (by rfl) T.b_abs dW (zO (qv 4) yC)) (qv 1))))) zeq)
   (ye (x5 (i:=5) ym.nd rfl (Or.inl rfl) (xa yi (xa yi (xa zar (xa yi (xa zaU (qv 4) yD) yD) (xa yi (xa zar yD (qv 3)) yD)) (xa zar (xa zar yD (qv 3)) (qv 3))) (xa zar yD (qv 3))))
   (ye (x5 (i:=5) ym.nd rfl (Or.inl rfl) (xa zaU (xa zdr (qv 5) yD) yD))
   (ye (x5 (i:=5) ym.nd rfl (Or.inl rfl) (xa zaU (xa zdr (xa yi (xa yi (qv 5) (xa zar yD (qv 3))) yD) yD) yD))
   (uG (zbx (xa zaU (xa zeh (qv 5) yD) (qv 1))))))))))))),?_⟩
  refine⟨_,rfl,p,_,rfl,zkm O,_,_,rfl,rfl,_,rfl,ztP (λhl=>?_) (λhl=>?_)⟩
  ·have a2:0<l:=b7 hl;refine⟨_,rfl,p,_,rfl,zkm O,_,rfl,_,_,rfl,rfl,(by show (0:Int)<yV;lia),?_⟩;refine⟨_,rfl,p,_,rfl,zkm O,_,rfl,_,_,rfl,rfl,⟨by show (0:Int)<yV;lia,h2⟩,_,rfl,p,_,rfl,znx O _,?_⟩;refine⟨_,rfl,k _ _ (cH _ (by lia)) (cb _ (by lia)) ⟨⟨a,_,zk,U,by lia,Int.ediv_nonneg ad (by lia)⟩,by rw[zg Y];exact hc,L⟩ (zey O)⟩
  ·refine⟨_,rfl,p,_,rfl,zsd O,?_⟩;refine⟨_,rfl,_,_,rfl,rfl,_,rfl,p,_,rfl,zsh O _,?_⟩;have D:upd H p (.dK (za5 c (a+1) l)) p=some (.dK (za5 c (a+1) l)):=zk;have I:upd H p (.dK (za5 c (a+1) l)) c=some (.lst (ns.map V.int)):=by rw[zg Y];exact hc
   generalize as:upd H p (.dK (za5 c (a+1) l))=H1 at D I ⊢;have ag:zB H H1:=as ▸ zey O;refine⟨_,rfl,_,_,rfl,rfl,.inl ⟨by lia,by lia⟩,_,_,rfl,rfl,?_⟩;refine' meet (α:=Int) _ (λzR=>?_) ?_;rotate_left
   ·
    refine⟨_,rfl,p,_,rfl,zht D,_,_,rfl,.inl ⟨_,.of I,rfl⟩,_,_,rfl,rfl,_,rfl,ztP (λhz=>?_) (λhz=>?_)⟩;have al:0<((ns.map V.int).length:Int):=b7 hz;obtain⟨B,an⟩:=zqJ ns a al;refine⟨_,rfl,p,_,rfl,zht D,_,rfl,_,rfl,p,_,rfl,zht D,_,_,rfl,.inl ⟨_,.of I,rfl⟩,_,_,rfl,rfl,al,c,_,_,_,rfl,rfl,.of I,an,?_⟩;exact zR B;exact zR (31 * a+7)
   ·intro B;have a3:∀ {q:Addr},H1 q=none->p≠q:=λhq=>zc D hq;refine' zu7 _ (λzR=>?_) ?_;rotate_left
    ·refine⟨_,rfl,_,rfl,p,_,rfl,zht D,_,_,rfl,.inl ⟨_,.of I,rfl⟩,_,_,rfl,rfl,_,rfl,ztP (λh3=>?_) (λh3=>?_)⟩;rotate_left
     ·refine iteF ?_;exact zR
     refine⟨_,rfl,_,rfl,_,_,rfl,rfl,⟨by decide,by decide,by decide⟩,_,_,rfl,rfl,_,rfl,ztP (λh4=>?_) (λh4=>?_)⟩;rotate_left
     ·exact zR
     have ha:0<=(if B<0 then -B else B):=by split <;> lia
     refine⟨_,rfl,_,rfl,_,rfl,_,_,rfl,rfl,⟨by show (0:Int)<yV;lia,h2⟩,_,rfl,p,_,rfl,znx D _,?_⟩;refine⟨_,rfl,_,rfl,_,rfl,_,_,rfl,rfl,(by show (0:Int)<yV;lia),k _ _ (cH _ (by lia)) (cb _ (by lia)) ⟨⟨a+1,_,zk,by lia,by lia,Int.ediv_nonneg ha (by lia)⟩,by rw[zg Y];exact I,L⟩ (ag.trans (zey D))⟩
    ·obtain⟨a4,a5⟩:=zmT U Z hn;have av:=cH B (show (2147483549:Int)≠0 by decide);have a0:=cb B (show (0:Int)<2147483549 by decide);obtain⟨a7,bb⟩:=zjZ U Z hn av a0;refine⟨_,rfl,_,_,rfl,rfl,(by show (0:Int)<2147483549;decide),_,_,rfl,rfl,_,rfl,_,_,rfl,rfl,.inl ⟨by decide,by decide⟩,_,_,rfl,rfl,_,_,rfl,rfl,.inr ⟨by lia,by lia⟩,_,rfl,_,_,rfl,rfl,.inl ⟨by decide,by decide⟩,_,rfl,_,_,rfl,rfl,.inr ⟨by lia,by lia⟩,_,_,rfl,rfl,_,rfl,_,_,rfl,rfl,.inl ⟨by decide,by decide⟩,_,_,rfl,rfl,_,rfl,_,_,rfl,rfl,⟨by decide,by decide,?_⟩,_,_,rfl,rfl,(by show (0:Int)<2147483647;decide),?_⟩
     ·show ((B % 2147483549+70009) * (2 * a+1)+6133 * a * a+577 * a).natAbs<2 ^ 64;lia
     ·generalize bd:(((B % 2147483549+70009) * (2 * a+1)+6133 * a * a+577 * a) ^ (5:Int).toNat:Int)=w1;have w0:=cH w1 (show (2147483647:Int)≠0 by decide);have w2:=cb w1 (show (0:Int)<2147483647 by decide);refine⟨_,rfl,_,rfl,_,_,rfl,rfl,.inl ⟨by decide,by decide⟩,_,_,rfl,rfl,_,_,rfl,rfl,_,_,rfl,rfl,⟨by decide,by decide,?_⟩,_,_,rfl,rfl,(by show (0:Int)<2147483587;decide),?_⟩
      ·show (w1 % 2147483647+5 * a+1).natAbs<2 ^ 64;lia
      ·refine⟨_,rfl,_,_,rfl,rfl,⟨by decide,by decide⟩,_,rfl,_,_,rfl,rfl,(by show (0:Int)<yV;lia),?_⟩;exact k _ _ (cH _ (by lia)) (cb _ (by lia)) ⟨⟨a+1,l,D,by lia,by lia,ad⟩,I,L⟩ ag
def zN (T:Txt K mg t):FnOk P w K mg base CX0 1 t.f1 t.d1 ld (spV 2 false ziv):=FnOk.lift (FnOk.mono (zbt T) (by decide)) zjN
def zfl (T:Txt K mg t):FnOk P w K mg base CX0 2 t.f2 t.d2 lq znL:=by
 have G1:FnOk P w K mg base CX0 1 t.f1 t.d1 ld zkO:=zbt T;refine T.q2.F.okQ zbF (λvs H Q E h=>?_) (λap A ad s H vs Q E hr h=>?_)
 ·obtain⟨p,c,a,ns,n,xs,rfl,_⟩:=h;rfl
 ·obtain⟨p,c,a,ns,n,xs,rfl,hP,hn,hx,ha,k⟩:=h
  refine⟨_,(ye (x5 (i:=2) zbF.nd rfl (Or.inr rfl) (zaW zb3 (by rfl) T.b_list dC (zO (qv 1) yC)))
   (uG (zbx (zhw (N:=lF) (cix:=[none,some 2,some 0]) rfl (by walk_at "c") (zem (qv 1)) (λ_ _ _ _=>(zcx (i:=0) (show (lF:List Str).Nodup by decide +kernel) rfl (Or.inl rfl))) (λ_ _ _ _=>zer) (λ_ _ _ _=>(zpI K rfl (qv 1) (zO (zmz T.q1 G1 hr (zO (qv 2) (zO (xq (zn4 K rfl) (by rfl) T.b_len aZ (zO (qv 1) yC)) yC))) yC))))))),?_⟩
  refine⟨_,rfl,a,xs,rfl,.inl (.of ha),λb H1 O U S1=>?_⟩;refine⟨_,rfl,a,rfl,⟨_,.of (S1 _ _ ha)⟩,λacc q=>?_⟩;have P1:=hP.same S1;have ag:c≠acc:=zc P1.ls q;have D:b≠acc:=zc U q;have al:c≠b:=zc hP.ls O
  refine ziS (xs:=xs) q (λi I H'=>(∃v,I=[v,some (.ref b),some (.ref p)])/\∃ys zs:List V,H' acc=some (.lst ys)/\H' b=some (.lst zs)/\(ys++zs).Perm xs/\ys.length=i/\Pen H' p c ns (n+i)/\zB H H')
   (λH' z1 z2=>⟨⟨_,rfl⟩,[],xs,z1,z2 _ _ U,.refl _,rfl,P1.same z2,zB.same (S1.trans z2)⟩) (λ_ _ _ _ ⟨_,_,_,_,_,_,_,_,S⟩=>.of (S.lst ha)) ?_ ?_
  ·rintro i y I H' an ⟨⟨v,rfl⟩,ys,zs,J,Z,L,hi,P',S'⟩;have as:=(ac.mp an).1;have hz:=L.length_eq;rw[aD,hi] at hz;refine znb ⟨_,rfl,.inl ⟨rfl,_,SqL.of Z⟩,_,rfl,_,rfl,_,_,rfl,.inl ⟨_,.of Z,rfl⟩,p,c,ns,n+i,(zs.length:Int),rfl,P',by lia,by lia,by lia,λr H2 r0 r1 P2 S2=>?_⟩;have hk:r.toNat<zs.length:=by lia
   have Y:=S2.lst Z;have B:=S2.lst J;refine⟨b,zs,r,r.toNat,zs[r.toNat],rfl,rfl,Y,by lia,by lia,L3.znJ r0 r1,ah hk,ys,by rw[zg (Ne.symm D)];exact B,aP (by lia:ys.length<=100000) (by decide),⟨_,rfl⟩,ys++[zs[r.toNat]],zs.eraseIdx r.toNat,zk,by rw[zg D];exact zk,L3.zhY hk L,by rw[aD,hi];rfl,(P2.app Y al).app (by rw[zg (Ne.symm D)];exact B) ag,?_⟩;have Sa:zB H (upd H2 b (.lst (zs.eraseIdx r.toNat))):=zhG O (S'.trans S2);exact zhG (S1.free q) Sa
  ·rintro I H' ⟨⟨v,rfl⟩,ys,zs,J,Z,L,hi,P',S'⟩;have hz:=L.length_eq;rw[aD,hi] at hz;have:zs=[]:=bh (by lia);subst this;rw[et] at L;exact k acc ys H' (S1.free q) J L P' S'
def xJ (T:Txt K mg t):FnOk P w K mg base CX0 2 t.f2 t.d2 lq (spV 2 true ziz):=FnOk.lift (FnOk.mono (zfl T) (by decide)) zjO
def zle  : FV:=λPn B n R=>∃ (p:Addr) (q:Int),B=[.pen p,.d (.int q)]/\(IsP Pn p)/\(n+30<=1000000)/\(4<=q)/\(q<=256)/\(∀rm m,RoomOk rm->yu rm<=q->m<=n+20->R (.d (stD rm)) m)
def zle.i{q:Int}(B:IsP Pn p)(D:4<=q)(F:q<=256)(h:∀rm m,RoomOk rm->yu rm<=q->m<=n+20->R (.d (stD rm)) m)(I:n+30<=1000000:=by lia):zle Pn [.pen p,.d (.int q)] n R:=⟨p,q,rfl,B,I,D,F,h⟩
def zec (T:Txt K mg t):FnOk P w K mg base CX0 2 t.f3 t.d3 lD (spV 2 false zle):=by
 have G1:=zN (P:=P) (w:=w) (base:=base) T
 refine Fun.okW (k:=1) (fr:=false) [4] 5 T.q3.F yn rfl (by decide) rfl λa5 A ap s H E Pn J=>⟨_,(zb (wS zl <| zu (i:=2) yn.nd (wE zq <| yA T.q1 G1 J (za (kv 0) (za zm zd))))
   (zb (wS zl <| zjG (i:=3) (zbU (ix:=3) yn.nd rfl rfl (N:=["_law_k","_law_pen_here"]) (cix:=[none,some 0]) rfl (by walk_at "c") (wI xS <| yL rfl T.b_range (zn (JE.bo (y9 yi uz (JE.bo zm) (JE.bo (wE zq <| yA T.q1 G1 J (za (kv 0) (za zm zd)))))) zt)) (λ_ _ _ _=>(wG zF <| zi (i:=0) (show (["_law_k","_law_pen_here"]:List Str).Nodup by decide +kernel))) (λ_ _ _ _=>y1) (λ_ _ _ _=>(y9 yi uz (JE.bo zm) (JE.bo (wE zq <| yA T.q1 G1 J (za (kv 1) (za zm zd))))))))
   (zb (wS zz <| yk (wT zo <| zA xg za4 (kb 2) (JE.bo zm) (zy _)) (ze (wS zl <| zu (i:=3) yn.nd (uL xo zbP (JE.bo (xP (za (xP (za zm zd)) (za (y9 znw znP (JE.bo (xP (za zm zd))) (JE.bo zm)) (za (y9 znw znP (JE.bo (xP (za zm zd))) (JE.bo zm)) zd))))) (JE.bo (wE zq <| yA T.q1 G1 J (za (kv 0) (za zm zd)))) (λ_ _=>rfl)))) zE)
   (zb (wS yt <| xF (i:=4) yn.nd (xP zd))
   (zb (wS zl <| zu (i:=5) yn.nd (kv 1))
   (zb (zZ aF rfl (wI yT <| yS K rfl (kv 3)) (wG zF <| zi (i:=6) yn.nd) (ze (wS zz <| yk (wT zo <| zA zmd zt3 (kb 6) (kb 5) (zy _)) (zb (wS u7 <| zbo 4 (kv 6))
   (ze (wS zl <| zu (i:=5) yn.nd (y9 zeh ztm (kb 5) (kb 6))))) zE)))
   (ze (zI (xp yH zax (by rfl) T.b_tuple bu (zn (kb 4) zt)))))))))),λO n R hF=>?_⟩
 obtain⟨p,q,rfl,hP,hn,m1,m2,r⟩:=hF;left;refine dc hP λas w0 w1=>?_;left;refine dc hP λt t0 t1=>?_;left;refine⟨⟨by lia,by lia⟩,?_⟩;rw[zak];refine zgY (List.range (1+t).toNat) (λk:Nat=>W.d (.int (k:Int))) rfl (by rw[aA];exact ay (by lia:_<=100) (by decide)) (λi Y n' acc=>n'=n+2+i/\i<=6/\∃ (v:Option W) (O:List Int),Y=[v,some (.pen p)]/\acc=O.map Dt.int/\(∀r∈O,2<=r/\r<=4)/\O.length=i) ⟨by lia,by lia,none,[],rfl,rfl,by simp,rfl⟩ ?_ ?_
 ·rintro i k Y n' acc hk ⟨rfl,hi,v,O,rfl,rfl,hb,hl⟩ C hC;have av:=(ac.mp hk).1;rw[aA] at av;left;refine dc hP λx x0 x1=>?_
  exact hC ⟨by lia,by lia,_,O++[2+x],rfl,by rw[aE];rfl,λr J=>by
   rcases aH.mp J with z | z
   ·exact hb r z
   ·rw[aw.mp z];lia,by rw[aD,hl];rfl⟩
 rintro Y n' acc ⟨rfl,hi,v,O,rfl,rfl,hb,hl⟩;rw[aA] at hi hl;rw[aA];left;refine' zh8 (λ(zs:List Int) (Z:Nat)=>(∀r∈zs,2<=r/\r<=4)/\zs≠[]/\Z<=n+12) _ (λzR=>?_) ?_;rotate_left
 ·refine yU (λ_=>?_) (λ_=>?_)
  ·left;refine⟨⟨by decide,by decide,by decide⟩,?_⟩;left;refine⟨⟨by decide,by decide,by decide⟩,?_⟩;left;refine dc hP λx x0 x1=>?_;left;refine zkd x0 x1 λy hy=>?_
   obtain⟨zs,rfl,hz,a0⟩:∃zs:List Int,y=lsD zs/\(∀r∈zs,2<=r/\r<=4)/\zs≠[]:=by
    simp only[aG,bP,or_false] at hy;rcases hy with rfl | rfl | rfl
    ·exact⟨[4],rfl,by decide,by decide⟩
    ·exact⟨[2,2,2,2,2,2,2,2],rfl,by decide,by decide⟩
    ·exact⟨[4,4,4,4],rfl,by decide,by decide⟩
   left;generalize hk:n+2+(1+t).toNat+1=Z;exact zR zs Z ⟨hz,a0,by lia⟩
  ·left;generalize hk:n+2+(1+t).toNat=Z;exact zR O Z ⟨hb,λz=>by rw[z] at hl;simp at hl;lia,by lia⟩
 rintro O Z ⟨hb,a1,a7⟩;refine zH O (λi=>.d (.int i)) (by rw[au];rfl) (λi ρ m=>m=Z/\∃ (D:List Int) (L:Int) (v6:Option W),ρ=[some (.pen p),some (.d (.int q)),some (.d (.int as)),some (.d (lsD O)),some (.d (lsD D)),some (.d (.int L)),v6]/\(∀r∈D,2<=r/\r<=4)/\yu D * L<=q/\1<=L/\L<=q/\(i=0->L=q)/\(1<=i->D≠[])) ⟨rfl,[],q,_,rfl,by simp,by show 1 * q<=q;lia,by lia,by lia,λ_=>rfl,by lia⟩ ?_ ?_
 ·rintro i a ρ m ha ⟨rfl,D,L,v6,rfl,I,hp,U,ag,al,ad⟩ C B E hC _ _;have an:=hb a (aj ha);have a2:=zaV (ns:=D) λr J=>by have:=I r J;lia
  have h8:D.length<=8:=zbw I (by have:yu D * 1<=yu D * L:=cP U (by lia);lia)
  left;refine yU (λh=>?_) (λh=>?_)
  ·obtain⟨q1,q2,q3⟩:=zkF I an hp h;left;refine⟨by rw[ab];exact aP h8 (by decide),?_⟩;left;refine⟨⟨by lia,by lia⟩,hC ⟨rfl,D++[a],L / a,some (.d (.int a)),?_,?_,q1,q2,by lia,by lia,λ_=>by simp⟩⟩
   ·rw[show lsD (D++[a])=Dt.lst (D.map Dt.int++[Dt.int a]) by unfold lsD;rw[aE];rfl]
   ·intro r J;rcases aH.mp J with z | z
    ·exact I r z
    ·rw[aw.mp z];exact an
  ·left
   exact hC ⟨rfl,D,L,_,rfl,I,hp,U,ag,λz=>by lia,λ_=>by
    by_cases h0:i=0
    ·have:=al h0;lia
    ·exact ad (by lia)⟩
 ·rintro ρ m ⟨rfl,D,L,v6,rfl,I,hp,U,ag,al,ad⟩;have a2:=zaV (ns:=D) λr J=>by have:=I r J;lia
  have a3:yu D<=q:=by have:yu D * 1<=yu D * L:=cP U (by lia);lia
  have a4:0<O.length:=List.length_pos_iff.mpr a1;left;exact r D _ ⟨ad (by lia),zbw I (by lia),I⟩ a3 (by lia)
def zbn  : FV:=λPn q n R=>∃ (rm:List Int),q=[.d (stD rm)]/\(RoomOk rm)/\(R (.d (xL (yh (rm.map zj)))) n)
def zbn.i{rm:List Int}(q:RoomOk rm)(h:R (.d (xL (yh (rm.map zj)))) n)  : zbn Pn [.d (stD rm)] n R:=⟨rm,rfl,q,h⟩
def yB (T:Txt K mg t):FnOk P w K mg base CX0 1 t.f4 t.d4 lr (spV 1 false zbn):=by
 refine Fun.okW (k:=0) (fr:=false) [3] 4 T.q4.F zX rfl (by decide) rfl λal A U s H E Pn hr=>⟨_,(zb (wS zl <| zu (i:=1) zX.nd (xP (za (yr zd) zd)))
   (zb (zZ aF rfl (wI xD <| uM K rfl (kv 0)) (wG zF <| zi (i:=2) zX.nd) (zb (wS yt <| xF (i:=3) zX.nd (xP zd))
   (zb (zZ aF rfl (wI yT <| yS K rfl (kv 1)) (wG zF <| zi (i:=4) zX.nd) (ze (wS zgo <| zjF 3 (um (N:=ly) (cix:=[none,some 4]) rfl (by walk_at "c") (wI xS <| yL rfl T.b_range (zn (kb 2) zt)) (λ_ _ _ _=>(wG zF <| zi (i:=0) (show (ly:List Str).Nodup by decide +kernel))) (λ_ _ _ _=>y1) (λ_ _ _ _=>(y9 zS yE (kb 1) (JE.bo (yr (za (kv 0) zd)))))))))
   (ze (wS zd7 <| zgi (i:=1) 3 zX.nd rfl (Or.inl rfl))))))
   (ze (zI (kv 1))))),λws n R hF=>?_⟩
 obtain⟨rm,rfl,Y,r⟩:=hF;left;have h8:=Y.few;refine zH rm (λi=>.d (.int i)) (by rw[au];rfl) (λi ρ m=>m=n/\∃ (Z v3 L:Option W),ρ=[some (.d (stD rm)),some (.d (xL (yh ((rm.take i).map zj)))),Z,v3,L]) ⟨rfl,_,_,_,rfl⟩ ?_ ?_
 ·rintro i a ρ m ha ⟨rfl,Z,v3,L,rfl⟩ C B E hC _ _;have hm:=Y.box a (aj ha);have O:=zdF h8 Y.box i;have J:∀st∈yh ((rm.take i).map zj),st.length<=8:=λst ad=>by rw[zdE _ _ ad,ab,aQ];lia
  have q:xw (yh ((rm.take i).map zj)) (zj a)=yh ((rm.take (i+1)).map zj):=by rw[zh ha,aE,aC,dQ,yW]
  generalize yh ((rm.take i).map zj)=rows at O J q;left;refine zH rows (λst=>.d (stD st)) (by rw[au];rfl) (λj ρ m'=>m'=m/\∃L,ρ=[some (.d (stD rm)),some (.d (xL rows)),some (.d (.int a)),some (.d (xL (xw (rows.take j) (zj a)))),L]) ⟨rfl,_,rfl⟩ ?_ ?_
  ·rintro j I ρ m' hj ⟨rfl,L,rfl⟩ C' B' E' ag _ _;have an:=J I (aj hj);have ap:=(ac.mp hj).1;left;refine⟨⟨by lia,by lia⟩,?_⟩;rw[zak];refine zaC (List.range a.toNat) (λk:Nat=>W.d (.int (k:Int))) rfl (λρ=>∃v,ρ=[v,some (.d (stD I))]) (λk:Nat=>stD (I++[(k:Int)])) (by rw[aA];exact ay (by lia:_<=4) (by decide)) ⟨_,rfl⟩ ?_ ?_
   ·rintro k hk as ⟨v,rfl⟩ D hD;left;refine⟨len1 (by lia),?_⟩;rw[cat1];exact hD ⟨_,rfl⟩
   ·have e:(List.range a.toNat).map (λk:Nat=>stD (I++[(k:Int)]))=((zj a).map λw=>I++[w]).map stD:=by unfold zj;rw[au,au];rfl
    rw[e];have hl:(xw (rows.take j) (zj a)).length=(rows.take j).length * a.toNat:=by rw[uh,yP]
    have av:(rows.take j).length * a.toNat<=65536 * 4:=Nat.mul_le_mul (by rw[aQ];lia) (by lia);refine⟨?_,?_⟩
    ·rw[ab,ab,ab,yP,hl];exact ay (by lia:_<=300000) (by decide)
    rw[<- aE,<- zb4,<- zh hj];exact ag ⟨rfl,_,rfl⟩
  ·rintro ρ m' ⟨rfl,L,rfl⟩;rw[aK,q];left;exact hC ⟨rfl,_,_,_,rfl⟩
 ·rintro ρ m ⟨rfl,Z,v3,L,rfl⟩;rw[aK];left;exact r
def zlk  : FV:=λPn B n R=>∃ (p:Addr) (q:Int),B=[.pen p,.d (.int q)]/\(IsP Pn p)/\(n+10<=1000000)/\(2<=q)/\(q<=4)/\(∀a b,0<=a->a<q->0<=b->b<q->a≠b->R (.d (.tup [.int a,.int b])) (n+2))
def zlk.i{q:Int}(B:IsP Pn p)(h2:2<=q)(D:q<=4)(h:∀a b,0<=a->a<q->0<=b->b<q->a≠b->R (.d (.tup [.int a,.int b])) (n+2))(F:n+10<=1000000:=by lia):zlk Pn [.pen p,.d (.int q)] n R:=⟨p,q,rfl,B,F,h2,D,h⟩
def zfn (T:Txt K mg t):FnOk P w K mg base CX0 2 t.f5 t.d5 ld (spV 2 false zlk):=by
 have G1:=zN (P:=P) (w:=w) (base:=base) T
 refine Fun.okW (k:=1) (fr:=false) [] 1 T.q5.F zcK rfl (by decide) rfl λO A D s H E Pn J=>⟨_,(zb (wS zl <| zu (i:=2) zcK.nd (wE zq <| yA T.q1 G1 J (za (kv 0) (za (kv 1) zd))))
   (ze (zI (yr (za (kv 2) (za (y9 zaU ztp (JE.bo (y9 yi uz (JE.bo (y9 yi uz (kb 2) (JE.bo zm))) (JE.bo (wE zq <| yA T.q1 G1 J (za (kv 0) (za (y9 zfu zk1 (kb 1) (JE.bo zm)) zd)))))) (kb 1)) zd)))))),λws n R U=>?_⟩
 obtain⟨p,q,rfl,L,hn,h2,h4,r⟩:=U;left;refine dc L λB Y Z=>?_;left;refine dc L λt t0 t1=>?_;left;refine⟨by lia,?_⟩;have c0:=cH (B+1+t) (show q≠0 by lia);have c1:=cb (B+1+t) (show 0<q by lia)
 have I:(B+1+t) % q≠B:=by
  have h3:q=2\/q=3\/q=4:=by lia
  rcases h3 with rfl | rfl | rfl <;> lia
 exact r _ _ Y Z c0 c1 (Ne.symm I)
def ziy  : FV:=λPn q n R=>∃ (p:Addr) (rm:List Int),q=[.pen p,.d (stD rm)]/\(IsP Pn p)/\(n+60<=1000000)/\(RoomOk rm)/\(∀x m,WishOk rm x->m<=n+30->R (.d (yw x)) m)
def ziy.i{rm:List Int}(q:IsP Pn p)(B:RoomOk rm)(h:∀x m,WishOk rm x->m<=n+30->R (.d (yw x)) m)(D:n+60<=1000000:=by lia):ziy Pn [.pen p,.d (stD rm)] n R:=⟨p,rm,rfl,q,D,B,h⟩
def zaS (T:Txt K mg t):FnOk P w K mg base CX0 3 t.f6 t.d6 la (spV 2 false ziy):=by
 have G1:=zN (P:=P) (w:=w) (base:=base) T;have G5:=zfn (P:=P) (w:=w) (base:=base) T
 refine Fun.okW (k:=2) (fr:=false) [4] 6 T.q6.F yN rfl (by decide) rfl λas A ad s H E Pn O=>⟨_,(zb (wS zl <| zu (i:=2) yN.nd (wE zq <| yA T.q1 G1 O (za (kv 0) (za (yc yQ uT (by rfl) T.b_len aZ (zn (kb 1) zt)) zd))))
   (zb (wS zl <| zu (i:=3) yN.nd (y9 yi uz (JE.bo zm) (JE.bo (wE zq <| yA T.q1 G1 O (za (kv 0) (za zm zd))))))
   (zb (wS yt <| xF (i:=4) yN.nd (xP zd))
   (zb (zZ aF rfl (wI xS <| yL rfl T.b_range (zn (JE.bo (yc yQ uT (by rfl) T.b_len aZ (zn (kb 1) zt))) zt)) (wG zF <| zi (i:=5) yN.nd) (ze (wS zz <| yk (JW.t (wW u6 <| zbp (wT zo <| zA zei zmW (kb 5) (kb 2) (zy _)) (uY (.inl rfl) (wT zo <| zA xg za4 (JE.bo (wE zq <| yA T.q1 G1 O (za (kv 0) (za (kv 3) zd)))) (JE.bo zm) (zy _))))) (ze (wS u7 <| zbo 4 (yr (za (kv 5) (za (wE zq <| yA T.q1 G1 O (za (kv 0) (za (uL yo xC (kb 1) (kb 5) (λ_ _=>rfl)) zd))) zd))))) zE)))
   (zb (znp (wE zq <| yA T.q5 G5 O (za (kv 0) (za (uL yo xC (kb 1) (kb 2) (λ_ _=>rfl)) zd))) (wG uj <| uo (n:=2) K rfl rfl (wH zV <| zx (wG zF <| zi (i:=6) yN.nd) (wH zV <| zx (wG zF <| zi (i:=7) yN.nd) (wH ui xn)))))
   (ze (zI (yr (za (xp yH zax (by rfl) T.b_tuple bu (zn (kb 4) zt)) (za (kv 2) (za (kv 6) (za (kv 7) zd)))))))))))),λws n R hF=>?_⟩
 obtain⟨p,rm,rfl,U,hn,hR,r⟩:=hF;left;have h8:=hR.few;have ap:=hR.pos;rw[ab];refine dc U λD b0 b1=>?_;have hm:=uw hR.box b0 b1;left;refine dc U λsh s0 s1=>?_;left;rw[ab];refine⟨⟨by lia,by lia⟩,ze3 (λi ρ m=>m<=n+2+2 * i/\i<=rm.length/\∃g L,ρ=[some (.pen p),some (.d (stD rm)),some (.d (.int D)),some (.d (.int (2+sh))),some (.d (.lst (g.map zan))),L,none,none]/\Giv rm g/\(∀q∈g,q.1≠D)/\(∀q∈g,q.1<(i:Int))/\g.length<=i) ⟨by lia,aN _,[],_,rfl,⟨by simp,.nil⟩,by simp,by simp,aN _⟩ ?_ ?_⟩
 ·rintro i ρ m hi ⟨ag,al,g,L,rfl,hG,I,J,an⟩ C B E hC _ _;have av:=uw hR.box (b:=(i:Int)) (by lia) (by lia);have Y:∀m',m'<=m+1->∀L,C [some (.pen p),some (.d (stD rm)),some (.d (.int D)),some (.d (.int (2+sh))),some (.d (.lst (g.map zan))),L,none,none] m':=λm' a2 L=>hC ⟨by lia,by lia,g,_,rfl,hG,I,λq Z=>by have:=J q Z;lia,by lia⟩;left;refine zef (λhb=>?_) (λ_=>⟨Y _ (by lia) _⟩);left;refine dc U λt t0 t1=>?_;left;refine yU (λ_=>?_) (λ_=>⟨Y _ (by lia) _⟩);left;refine onA (by lia) (by lia) ?_;left;refine dc U λu u0 u1=>?_;left;refine⟨by rw[ab];exact aP (by lia:_<=8) (by decide),hC ⟨by lia,by lia,g++[((i:Int),u)],_,by rw[aE];rfl,hG.snoc J (by lia) (by lia) u0 u1,λq Z=>?_,λq Z=>?_,by rw[aD];simp;lia⟩⟩
  ·rcases aH.mp Z with z | z
   ·exact I q z
   ·rw[aw.mp z];exact hb
  ·rcases aH.mp Z with z | z
   ·have:=J q z;lia
   ·rw[aw.mp z];show (i:Int)<((i+1:Nat):Int);lia
 ·rintro ρ m ⟨ag,al,g,L,rfl,hG,I,J,an⟩;left;refine onA b0 b1 ?_;left;refine zlk.i U hm.1 hm.2 λa b a0 a1 c0 c1 ne=>?_;left;exact r ⟨g,D,a,b⟩ _ ⟨hG,b0,b1,I,a0,a1,c0,c1,ne⟩ (by lia)
def zld  : FV:=λPn D n R=>∃ (rm B:List Int),D=[.d (stD rm),.d (lsD B)]/\(RoomOk rm)/\(B.Nodup)/\(∀b∈B,0<=b/\b<rm.length)/\(B.length<=2)/\(∀gs:List (List (Int×Int)),(∀g∈gs,Giv rm g/\∀q∈g,q.1∈B)->gs.length<=16->R (.d (.lst (gs.map zeG))) n)
def zld.i{rm B:List Int}(D:RoomOk rm)(F:B.Nodup)(I:∀b∈B,0<=b/\b<rm.length)(h2:B.length<=2)(h:∀gs:List (List (Int×Int)),(∀g∈gs,Giv rm g/\∀q∈g,q.1∈B)->gs.length<=16->R (.d (.lst (gs.map zeG))) n)  : zld Pn [.d (stD rm),.d (lsD B)] n R:=⟨rm,B,rfl,D,F,I,h2,h⟩
def zbh (T:Txt K mg t):FnOk P w K mg base CX0 1 t.f7 t.d7 lA (spV 2 false zld):=by
 refine Fun.okW (k:=0) (fr:=false) [4] 4 T.q7.F yd rfl (by decide) rfl λa2 A al s H E Pn hr=>⟨_,(zb (wS zl <| zu (i:=2) yd.nd (xP (za (yr zd) zd)))
   (zb (zZ aF rfl (wI yT <| yS K rfl (yc zlu zqp (by rfl) T.b_sorted dl (zn (kb 1) zt))) (wG zF <| zi (i:=3) yd.nd) (zb (wS yt <| xF (i:=4) yd.nd (xP zd))
   (zb (zZ aF rfl (wI yT <| yS K rfl (kv 2)) (wG zF <| zi (i:=5) yd.nd) (ze (wS zgo <| zjF 4 (um (N:=lG) (cix:=[none,some 5,some 3]) rfl (by walk_at "c") (wI xS <| yL rfl T.b_range (zn (JE.bo (uL yo xC (kb 0) (kb 3) (λ_ _=>rfl))) zt)) (λ_ _ _ _=>(wG zF <| zi (i:=0) (show (lG:List Str).Nodup by decide +kernel))) (λ_ _ _ _=>y1) (λ_ _ _ _=>(y9 zS yE (kb 1) (JE.bo (yr (za (yr (za (kv 2) (za (kv 0) zd))) zd)))))))))
   (ze (wS zd7 <| zgi (i:=2) 4 yd.nd rfl (Or.inl rfl))))))
   (ze (zI (kv 2))))),λws n R hF=>?_⟩
 obtain⟨rm,bs,rfl,hR,hN,hb,h2,r⟩:=hF;left;have h8:=hR.few;refine⟨bs,rfl,by lia,λcs hp hs=>?_⟩;have an:cs.Nodup:=hp.nodup_iff.mpr hN;have ap:cs.Pairwise (· < ·):=(hs.and an).imp λ{a b} ⟨h1,h2⟩=>by lia
 have ad:∀c∈cs,c∈bs:=λc hc=>hp.mem_iff.mp hc;have a3:=hp.length_eq;left;refine zH cs (λi=>.d (.int i)) (by rw[au];rfl) (λi ρ m=>m=n/\∃ (gs:List (List (Int×Int))) (v3 v4 U:Option W),ρ=[some (.d (stD rm)),some (.d (lsD bs)),some (.d (.lst (gs.map zeG))),v3,v4,U]/\(∀g∈gs,Giv rm g/\∀q∈g,q.1∈cs.take i)/\gs.length<=4 ^ i) ⟨rfl,[[]],_,_,_,rfl,λg Y=>?_,by decide⟩ ?_ ?_
 ·rw[aw.mp Y];exact⟨⟨by simp,.nil⟩,by simp⟩
 ·rintro i c ρ m hc ⟨rfl,gs,v3,v4,U,rfl,J,as⟩ C B E hC _ _;have I:=hb c (ad c (aj hc));have a4:=uw hR.box I.1 I.2;have hi:=(ac.mp hc).1;have av:4 ^ i<=4:=cE (by decide) (by lia:i<=1)
  have ag:∀x∈cs.take i,x<c:=λx hx=>by obtain⟨j,hj,rfl⟩:=bz.mp hx;rw[aQ] at hj;have:=b8.mp ap j i (by lia) hi (by lia);rw[(ac.mp hc).2] at this;rw[dN];exact this
  left;refine zH gs (λg=>.d (zeG g)) (by rw[au];rfl) (λj ρ m'=>m'=m/\∃ (lg:List (List (Int×Int))) (U:Option W),ρ=[some (.d (stD rm)),some (.d (lsD bs)),some (.d (.lst (gs.map zeG))),some (.d (.int c)),some (.d (.lst (lg.map zeG))),U]/\(∀g∈lg,Giv rm g/\∀q∈g,q.1∈cs.take (i+1))/\lg.length<=j * 4) ⟨rfl,[],_,rfl,by simp,by simp⟩ ?_ ?_
  ·rintro j g ρ m' Y ⟨rfl,lg,U,rfl,Z,a0⟩ C' B' E' a1 _ _;have L:=J g (aj Y);have a5:=zjh L.1 h8;have hj:=(ac.mp Y).1;left;refine onA I.1 I.2 ?_;left;refine⟨⟨by lia,by lia⟩,?_⟩;rw[zak];refine zaC (List.range (yV rm c).toNat) (λk:Nat=>W.d (.int (k:Int))) rfl (λρ=>∃v,ρ=[v,some (.d (zeG g)),some (.d (.int c))]) (λk:Nat=>zeG (g++[(c,(k:Int))])) (by rw[aA];exact ay (by lia:_<=4) (by decide)) ⟨_,rfl⟩ ?_ ?_
   ·rintro k hk a7 ⟨v,rfl⟩ D hD;left;refine⟨by rw[ab];exact ay (by simp;lia:_<=101) (by decide),?_⟩;rw[show g.map zan++[Dt.tup [Dt.int c,Dt.int (k:Int)]]=(g++[(c,(k:Int))]).map zan by rw[aE];rfl];exact hD ⟨_,rfl⟩
   ·have e:(List.range (yV rm c).toNat).map (λk:Nat=>zeG (g++[(c,(k:Int))]))=((List.range (yV rm c).toNat).map λk:Nat=>g++[(c,(k:Int))]).map zeG:=by rw[au];rfl
    rw[e];refine⟨by rw[ab,ab,ab,aA];exact ay (by lia:_<=100) (by decide),?_⟩;rw[<- aE];refine a1 ⟨rfl,_,_,rfl,λz hz=>?_,by rw[aD,ab,aA];lia⟩;rcases aH.mp hz with hz | hz
    ·exact Z z hz
    ·obtain⟨k,hk,rfl⟩:=az.mp hz;have hk:=aW.mp hk;refine⟨L.1.snoc (λq O=>ag _ (L.2 q O)) I.1 I.2 (by lia) (by lia),λq O=>?_⟩;rw[zh hc];rcases aH.mp O with O | O
     ·exact bE _ (L.2 q O)
     ·rw[aw.mp O];exact aL _ (by simp)
  ·rintro ρ m' ⟨rfl,lg,U,rfl,Z,a0⟩;left;exact hC ⟨rfl,lg,_,_,_,rfl,Z,by rw[Nat.pow_succ];lia⟩
 ·rintro ρ m ⟨rfl,gs,v3,v4,U,rfl,J,as⟩;rw[aK] at J;have av:4 ^ cs.length<=16:=cE (by decide) (by lia:cs.length<=2);left;exact r gs (λg Y=>⟨(J g Y).1,λq O=>ad _ ((J g Y).2 q O)⟩) (by lia)
def zit  : FV:=λPn q n R=>∃ (p:Addr) (rm:List Int),q=[.pen p,.d (stD rm)]/\(IsP Pn p)/\(n+2000<=1000000)/\(RoomOk rm)/\(∀bk m,xl rm bk->bk.length<=400->m<=n+1000->R (.d (.lst (bk.map yw))) m)
def zit.i{rm:List Int}(q:IsP Pn p)(B:RoomOk rm)(h:∀bk m,xl rm bk->bk.length<=400->m<=n+1000->R (.d (.lst (bk.map yw))) m)(D:n+2000<=1000000:=by lia):zit Pn [.pen p,.d (stD rm)] n R:=⟨p,rm,rfl,q,D,B,h⟩
def zbg (T:Txt K mg t):FnOk P w K mg base CX0 3 t.f8 t.d8 la (spV 2 true zit):=by
 have G1:=zN (P:=P) (w:=w) (base:=base) T;have G2:=xJ (P:=P) (w:=w) (base:=base) T;have G7:=zbh (P:=P) (w:=w) (base:=base) T
 refine Fun.okW (k:=2) (fr:=true) [3] 8 T.q8.F zJ rfl (by decide) rfl λca A a7 s H E Pn hr=>⟨_,(zb (wS zl <| zu (i:=2) zJ.nd (wE zq <| yA T.q2 G2 hr (za (kv 0) (za (wE xT <| uX T.b_list T.b_range (zn (JE.bo (yc yQ uT (by rfl) T.b_len aZ (zn (kb 1) zt))) zt)) zd))))
   (zb (wS yt <| xF (i:=3) zJ.nd (xP zd))
   (zb (zZ aF rfl (wI zd5 <| zd1 rfl T.b_enumerate (za (kv 2) zd)) (wG uj <| uo (n:=2) K rfl rfl (wH zV <| zx (wG zF <| zi (i:=4) zJ.nd) (wH zV <| zx (wG zF <| zi (i:=5) zJ.nd) (wH ui xn)))) (zb (wS zl <| zu (i:=6) zJ.nd (wE zbe <| zh4 (JE.bo (um (N:=["_law_one","_law_pen_here"]) (cix:=[none,some 0]) rfl (by walk_at "c") (wI yT <| yS K rfl (wE zbe <| zh4 (kb 2) zK (wO zC <| zL (kb 4)))) (λ_ _ _ _=>(wG zF <| zi (i:=0) (show (["_law_one","_law_pen_here"]:List Str).Nodup by decide +kernel))) (λ_ _ _ _=>(zbd (wT zo <| zA xg za4 (JE.bo (wE zq <| yA T.q1 G1 hr (za (kv 1) (za zm zd)))) (JE.bo zm) (zy _)))) (λ_ _ _ _=>(kv 0)))) zK (wO zC <| zL (JE.bo zm))))
   (ze (zZ aF rfl (wI yT <| yS K rfl (wE zq <| yA T.q7 G7 hr (za (kv 1) (za (kv 6) zd)))) (wG zF <| zi (i:=7) zJ.nd) (zb (wS zl <| zu (i:=8) zJ.nd (wE zq <| yA T.q2 G2 hr (za (kv 0) (za (wE xT <| uX T.b_list T.b_range (zn (JE.bo (uL yo xC (kb 1) (kb 5) (λ_ _=>rfl))) zt)) zd))))
   (ze (zZ aF rfl (wI xS <| yL rfl T.b_range (zn (JE.bo (y9 zfu zk1 (JE.bo (yc yQ uT (by rfl) T.b_len aZ (zn (kb 8) zt))) (JE.bo zm))) zt)) (wG zF <| zi (i:=9) zJ.nd) (ze (wS u7 <| zbo 3 (yr (za (kv 7) (za (kv 5) (za (uL xo zbP (kb 8) (kb 9) (λ_ _=>rfl)) (za (uL xo zbP (kb 8) (JE.bo (y9 yi uz (kb 9) (JE.bo zm))) (λ_ _=>rfl)) zd))))))))))))))
   (ze (wS zaO <| zcj 3))))),λws n R hF=>?_⟩
 obtain⟨p,rm,rfl,hP,hn,hR,r⟩:=hF;left;have h8:=hR.few;rw[ab];refine⟨⟨by lia,by lia⟩,?_⟩;left;refine tc hP (λl hl=>?_) (by rw[y0];lia) (by rw[y0];lia);rw[y0];obtain⟨J,rfl,ag⟩:=zhu hl;have av:J.Nodup:=ag.nodup_iff.mpr (zfA _)
 have a0:∀b∈J,0<=b/\b<rm.length:=λb hb=>by have:=zaj.mp (ag.mem_iff.mp hb);lia
 have bb:=ag.length_eq;rw[yP] at bb;left;have b3:J.length<=8:=by lia
 generalize cc:n+(rm.length:Int).toNat=n1;refine zH (List.range J.length) (λi=>W.d (.tup [.int (i:Int),.int (J.getD i 0)])) (zog J) (λi ρ m=>m<=n1+100 * i/\∃ (bk:List Wi) (v4 v5 v6 v7 v8 Y:Option W),ρ=[some (.pen p),some (.d (stD rm)),some (.d (.lst (J.map Dt.int))),some (.d (.lst (bk.map yw))),v4,v5,v6,v7,v8,Y]/\xl rm bk/\bk.length<=48 * i) ⟨by lia,[],_,_,_,_,_,_,rfl,by intro x hx;simp at hx,by simp⟩ ?_ ?_
 ·rintro i k ρ m bd ⟨hm,bk,v4,v5,v6,v7,v8,Y,rfl,Z,L⟩ C B E hC _ _;obtain⟨O,a1⟩:=ac.mp bd;rw[aA] at O;rw[bF] at a1;subst a1;have I:=a0 _ (zcd O);have ad:=zqk av O;generalize J.getD i 0=box at I ad;have cd:=uw hR.box I.1 I.2;left;rw[x9,L3.zbS];have ch:(J.take i).length<=8:=by rw[aQ];lia
  refine zgY (J.take i) (λx=>W.d (.int x)) (by rw[au];rfl) (ay (by lia:_<=100) (by decide)) (λj al n' acc=>n'=m+j/\∃ (v:Option W) (ls:List Int),al=[v,some (.pen p)]/\acc=ls.map Dt.int/\ls.Sublist ((J.take i).take j)) ⟨by lia,none,[],rfl,rfl,List.nil_sublist _⟩ ?_ ?_
  ·rintro j x al n' acc hx ⟨rfl,v,ls,rfl,rfl,hs⟩ D hD;have cl:=(ac.mp hx).1;left;refine dc hP (λt t0 t1=>?_) (by lia);left;refine yU (λ_=>?_) (λ_=>?_)
   ·refine hD ⟨by lia,_,ls++[x],rfl,by rw[aE];rfl,?_⟩;rw[zh hx];exact hs.append (List.Sublist.refl _)
   ·refine hD ⟨by lia,_,ls,rfl,rfl,?_⟩;rw[zh hx];exact hs.trans (List.sublist_append_left _ _)
  rintro al n' acc ⟨rfl,v,ls,rfl,rfl,hs⟩;rw[aK] at hs;left;rw[x9,show (2:Int)=((2:Nat):Int) from rfl,L3.zbS];have an:=(dD 2 ls).trans hs;have ap:∀x∈ls.take 2,x∈J/\x≠box:=λx hx=>⟨bX (an.subset hx),λe=>ad (by rw[<- e];exact an.subset hx)⟩;have a2:(ls.take 2).Nodup:=(av.sublist (dD _ _)).sublist an;have a3:(ls.take 2).length<=2:=by rw[aQ];lia
  generalize ls.take 2=lk at ap a2 a3;generalize cn:m+(J.take i).length=n2;left;refine zld.i hR a2 (λb hb=>a0 b (ap b hb).1) a3 λgs bl co=>?_;left;refine zH gs (λg=>.d (zeG g)) (by rw[au];rfl) (λj ρ m'=>m'<=n2+4 * j/\∃ (bk:List Wi) (v7 v8 Y:Option W),ρ=[some (.pen p),some (.d (stD rm)),some (.d (.lst (J.map Dt.int))),some (.d (.lst (bk.map yw))),some (.d (.int (i:Int))),some (.d (.int box)),some (.d (.lst (lk.map Dt.int))),v7,v8,Y]/\xl rm bk/\bk.length<=48 * i+3 * j) ⟨by lia,bk,_,_,_,rfl,Z,by lia⟩ ?_ ?_
  ·rintro j g ρ m' hg ⟨bn,bk,v7,v8,Y,rfl,Z,L⟩ C' B' E' bx _ _;have a4:=bl g (aj hg);have hj:=(ac.mp hg).1;left;refine onA I.1 I.2 ?_;left;refine⟨⟨by lia,by lia⟩,?_⟩;left;refine tc hP (λl hl=>?_) (by rw[y0];lia) (by rw[y0];lia);rw[y0];obtain⟨U,rfl,as⟩:=zhu hl;have b0:U.Nodup:=as.nodup_iff.mpr (zfA _);have b1:=as.length_eq;rw[yP] at b1
   have a5:∀x∈U,0<=x/\x<yV rm box:=λx hx=>by have:=zaj.mp (as.mem_iff.mp hx);lia
   left;rw[ab];refine⟨⟨by lia,by lia⟩,ze3 (λk ρ m2=>m2=m'+(yV rm box).toNat/\∃ (bk:List Wi) (Y:Option W),ρ=[some (.pen p),some (.d (stD rm)),some (.d (.lst (J.map Dt.int))),some (.d (.lst (bk.map yw))),some (.d (.int (i:Int))),some (.d (.int box)),some (.d (.lst (lk.map Dt.int))),some (.d (zeG g)),some (.d (.lst (U.map Dt.int))),Y]/\xl rm bk/\bk.length<=48 * i+3 * j+k) ⟨rfl,bk,_,rfl,Z,by lia⟩ ?_ ?_⟩
   ·rintro k ρ m2 hk ⟨rfl,bk,Y,rfl,Z,L⟩ C2 B2 E2 b2 _ _;have O:k+1<U.length:=by lia
    left;refine onA (cS k) (by lia) ?_;left;refine onA (by lia) (by lia) ?_;rw[show ((k:Int)+1)=((k+1:Nat):Int) from rfl,yj,yj];have q1:=a5 _ (zcd (i:=k) (by lia));have q2:=a5 _ (zcd O)
    have q3:U.getD k 0≠U.getD (k+1) 0:=λe=>by
     have e1:U.getD k 0=U[k]:=by simp[show k<U.length by lia]
     have e2:U.getD (k+1) 0=U[k+1]:=by simp[O]
     rw[e1,e2] at e;have:=(cg b0).mp e;lia
    left;refine⟨by rw[ab];exact aP (by lia:_<=1000) (by decide),?_⟩;refine b2 ⟨rfl,bk++[⟨g,box,U.getD k 0,U.getD (k+1) 0⟩],_,by rw[aE];rfl,Z.app λy hy=>?_,by rw[aD];simp;lia⟩;rw[aw.mp hy];exact⟨a4.1,I.1,I.2,λq hq=>(ap _ (a4.2 q hq)).2,q1.1,q1.2,q2.1,q2.2,q3⟩
   ·rintro ρ m2 ⟨rfl,bk,Y,rfl,Z,L⟩;left;exact bx ⟨by lia,bk,_,_,_,rfl,Z,by lia⟩
  ·rintro ρ m' ⟨bn,bk,v7,v8,Y,rfl,Z,L⟩;left;exact hC ⟨by lia,bk,_,_,_,_,_,_,rfl,Z,by lia⟩
 ·rintro ρ m ⟨hm,bk,v4,v5,v6,v7,v8,Y,rfl,Z,L⟩;rw[aA] at hm L;left;exact r bk m Z (by lia) (by lia)
def zus (a b:List Int):Nat:=((List.range a.length).filter λk=>!decide (a.getD k 0=b.getD k 0)).headD 0
def zeJ  : FV:=λPn q n R=>∃ (rm a b:List Int),q=[.d (stD a),.d (stD b)]/\(RoomOk rm)/\(StOk rm a)/\(StOk rm b)/\(a≠b)/\(∀x,WishOk rm x->x=zlE a b (zus a b)->R (.d (yw x)) n)
def zeJ.i{rm a b:List Int}(B:RoomOk rm)(D:StOk rm a)(F:StOk rm b)(q:a≠b)(h:∀x,WishOk rm x->x=zlE a b (zus a b)->R (.d (yw x)) n)  : zeJ Pn [.d (stD a),.d (stD b)] n R:=⟨rm,a,b,rfl,B,D,F,q,h⟩
def zaR (T:Txt K mg t):FnOk P w K mg base CX0 1 t.f9 t.d9 lj (spV 2 false zeJ):=by
 refine Fun.okW (k:=0) (fr:=false) [] 2 T.q9.F zad rfl (by decide) rfl λad A B s H E Pn hr=>⟨_,(zb (wS zl <| zu (i:=2) zad.nd (uL xo zbP (JE.bo (um (N:=lL) (cix:=[none,some 0,some 1]) rfl (by walk_at "c") (wI xS <| yL rfl T.b_range (zn (JE.bo (yc yQ uT (by rfl) T.b_len aZ (zn (kb 0) zt))) zt)) (λ_ _ _ _=>(wG zF <| zi (i:=0) (show (lL:List Str).Nodup by decide +kernel))) (λ_ _ _ _=>(zbd (wT zo <| zA zei zmW (JE.bo (uL yo xC (kb 1) (kb 0) (λ_ _=>rfl))) (JE.bo (uL yo xC (kb 2) (kb 0) (λ_ _=>rfl))) (zy _)))) (λ_ _ _ _=>(kv 0)))) (JE.bo zm) (λ_ _=>rfl)))
   (zb (wS zl <| zu (i:=3) zad.nd (xp yH zax (by rfl) T.b_tuple bu (zn (JE.bo (um (N:=lM) (cix:=[none,some 0,some 2]) rfl (by walk_at "c") (wI xS <| yL rfl T.b_range (zn (JE.bo (yc yQ uT (by rfl) T.b_len aZ (zn (kb 0) zt))) zt)) (λ_ _ _ _=>(wG zF <| zi (i:=0) (show (lM:List Str).Nodup by decide +kernel))) (λ_ _ _ _=>(zbd (wT zo <| zA zei zmW (kb 0) (kb 2) (zy _)))) (λ_ _ _ _=>(yr (za (kv 0) (za (uL yo xC (kb 1) (kb 0) (λ_ _=>rfl)) zd)))))) zt)))
   (ze (zI (yr (za (kv 3) (za (kv 2) (za (uL yo xC (kb 1) (kb 2) (λ_ _=>rfl)) (za (uL yo xC (kb 0) (kb 2) (λ_ _=>rfl)) zd))))))))),λws n R hF=>?_⟩
 obtain⟨rm,a,b,rfl,hR,ha,hb,D,r⟩:=hF;left;have I:=ha.len;have J:=hb.len;have h8:=hR.few;rw[ab];refine⟨⟨by lia,by lia⟩,?_⟩;rw[aO,zak];refine zdN (List.range a.length) (λk:Nat=>W.d (.int (k:Int))) rfl (λρ=>∃v,ρ=[v,some (.d (stD a)),some (.d (stD b))]) (λk=>!decide (a.getD k 0=b.getD k 0)) (λk=>.int (k:Int)) (by rw[aA];exact ay (by lia:a.length<=8) (by decide)) ⟨_,rfl⟩ ?_ ?_
 ·rintro k q L ⟨v,rfl⟩ C O U;have ag:=aW.mp q;left;refine onA (by lia) (by lia) ?_;left;refine onA (by lia) (by lia) ?_;left;rw[yj,yj];refine zef (λh=>?_) (λh=>?_)
  ·exact O (by rw[ba h];rfl) ⟨_,rfl⟩
  ·exact U (by rw[a9 h];rfl) ⟨_,rfl⟩
 ·obtain⟨k,zR,q,Y,Z⟩:=zi7 (I.trans J.symm) D;rw[q];left;refine y4 (zdd (i:=0) rfl) ?_;left;rw[ab];refine⟨⟨by lia,by lia⟩,?_⟩;rw[aO,zak];refine zdN (List.range a.length) (λk:Nat=>W.d (.int (k:Int))) rfl (λρ=>∃v,ρ=[v,some (.d (stD a)),some (.d (.int (k:Int)))]) (λi=>!decide (i=k)) (λi=>zan ((i:Int),a.getD i 0)) (by rw[aA];exact ay (by lia:a.length<=8) (by decide)) ⟨_,rfl⟩ ?_ ?_
  ·rintro i hi L ⟨v,rfl⟩ C O U;have al:=aW.mp hi;left;refine zef (λh=>?_) (λh=>?_)
   ·left;refine onA (by lia) (by lia) ?_;left;rw[yj];exact O (by rw[ba (by lia)];rfl) ⟨_,rfl⟩
   ·exact U (by rw[a9 (by lia)];rfl) ⟨_,rfl⟩
  ·left;refine onA (by lia) (by lia) ?_;left;refine onA (by lia) (by lia) ?_;left;have:=r _ (zlF ha hb Y Z) (by unfold zus;rw[q];rfl);unfold zlE yw at this;rw[au] at this;rw[yj,yj];exact this
def zgP  : FV:=λPn q n R=>∃ (rm:List Int),q=[.d (stD rm)]/\(RoomOk rm)/\(∀sts:List (List Int),sts.Nodup->(∀st∈sts,StOk rm st)->(sts.length:Int)=yu rm->R (.d (xL sts)) n)
def zgP.i{rm:List Int}(q:RoomOk rm)(h:∀sts:List (List Int),sts.Nodup->(∀st∈sts,StOk rm st)->(sts.length:Int)=yu rm->R (.d (xL sts)) n)  : zgP Pn [.d (stD rm)] n R:=⟨rm,rfl,q,h⟩
def zc4 (T:Txt K mg t):FnOk P w K mg base CX0 1 t.f10 t.d10 lr (spV 1 false zgP):=by
 refine Fun.okW (k:=0) (fr:=false) [3] 6 T.q10.F zU rfl (by decide) rfl λa4 A a0 s H E Pn hr=>⟨_,(zb (wS zl <| zu (i:=1) zU.nd (xP (za (yr zd) zd)))
   (zb (zZ aF rfl (wI xD <| uM K rfl (kv 0)) (wG zF <| zi (i:=2) zU.nd) (zb (wS yt <| xF (i:=3) zU.nd (xP zd))
   (zb (zZ aF rfl (wI zd5 <| zd1 rfl T.b_enumerate (za (kv 1) zd)) (wG uj <| uo (n:=2) K rfl rfl (wH zV <| zx (wG zF <| zi (i:=4) zU.nd) (wH zV <| zx (wG zF <| zi (i:=5) zU.nd) (wH ui xn)))) (zb (wS zl <| zu (i:=6) zU.nd (wE xT <| uX T.b_list T.b_range (zn (kb 2) zt)))
   (zb (wS zz <| yk (wT zo <| zA xg za4 (JE.bo (y9 zaU ztp (kb 4) (JE.bo zm))) (JE.bo zm) (zy _)) (ze (wS zl <| zu (i:=6) zU.nd (wE zhl <| zno (kb 6)))) zE)
   (ze (wS zgo <| zjF 3 (um (N:=ly) (cix:=[none,some 5]) rfl (by walk_at "c") (wI yT <| yS K rfl (kv 6)) (λ_ _ _ _=>(wG zF <| zi (i:=0) (show (ly:List Str).Nodup by decide +kernel))) (λ_ _ _ _=>y1) (λ_ _ _ _=>(y9 zS yE (kb 1) (JE.bo (yr (za (kv 0) zd)))))))))))
   (ze (wS zd7 <| zgi (i:=1) 3 zU.nd rfl (Or.inl rfl))))))
   (ze (zI (kv 1))))),λJ n R hF=>?_⟩
 obtain⟨rm,rfl,hR,r⟩:=hF;left;have h8:=hR.few
 have ad:∀i,yu (rm.take i)<=65536:=λi=>by rw[<- xm _ λn hn=>by have:=hR.box n (bX hn);lia];have:=zdF h8 hR.box i;lia
 refine zH rm (λi=>.d (.int i)) (by rw[au];rfl) (λi ρ m=>m=n/\∃ (sts:List (List Int)) (v2 v3 L O v6:Option W),ρ=[some (.d (stD rm)),some (.d (xL sts)),v2,v3,L,O,v6]/\sts.Nodup/\(∀st∈sts,StOk (rm.take i) st)/\(sts.length:Int)=yu (rm.take i)) ⟨rfl,[[]],_,_,_,_,_,rfl,by decide,λst ag=>?_,rfl⟩ ?_ ?_
 ·rw[aw.mp ag];exact⟨rfl,λb b0 b1=>absurd b1 (by simp;lia)⟩
 ·rintro i a ρ m ha ⟨rfl,sts,v2,v3,L,O,v6,rfl,hN,I,q⟩ C B E hC _ _;have hm:=hR.box a (aj ha);have hf:=ad i;have a5:=ad (i+1);have an:yu (rm.take (i+1))=yu (rm.take i) * a:=by rw[zh ha,xN]
  obtain⟨w,rfl⟩:∃w:Nat,a=(w:Int):=⟨a.toNat,by lia⟩
  have a7:sts.length * w<=65536:=by
   have:((sts.length * w:Nat):Int)=yu (rm.take (i+1)):=by rw[an,<- q,eF]
   lia
  left;refine zH (List.range sts.length) (λk:Nat=>W.d (.tup [.int (k:Int),stD (sts.getD k [])])) (zf3 sts) (λk ρ m'=>m'=m/\∃ (U:List (List Int)) (L O v6:Option W),ρ=[some (.d (stD rm)),some (.d (xL sts)),some (.d (.int (w:Int))),some (.d (.lst (U.map stD))),L,O,v6]/\U.Nodup/\(∀x∈U,∃b∈sts.take k,∃v:Int,0<=v/\v<w/\x=b++[v])/\U.length=k * w) ⟨rfl,[],_,_,_,rfl,.nil,by simp,by simp⟩ ?_ ?_
  ·rintro j k ρ m' a1 ⟨rfl,U,L,O,v6,rfl,al,Y,Z⟩ C' B' E' a2 _ _;obtain⟨ap,as⟩:=ac.mp a1;rw[aA] at ap;rw[bF] at as;subst as;have hk:=ap;have a3:=(I _ (zcc hk)).len;rw[aQ] at a3;have bb:(j+1) * w<=sts.length * w:=Nat.mul_le_mul_right _ hk;left;refine⟨⟨by lia,by lia⟩,?_⟩;rw[aO];have av:zeu w=(zj (w:Int)).map Dt.int:=by unfold zeu zj;rw[au,aO];rfl
   rw[av]
   have fin:∀J:List Int,J.Perm (zj (w:Int))->∀L O,zeS (eN 0) ztU (zl4 zlx (zfZ 1) (zrL (zfh (zfZ 0) zrJ))) [none,some (.d (stD (sts.getD j [])))] (λx n2=>onL x λl2=>(U.map stD).length+l2.length<=lim/\C' [some (.d (stD rm)),some (.d (xL sts)),some (.d (.int (w:Int))),some (.d (.lst (U.map stD++l2))),L,O,some (.d (lsD J))] n2) ((J.map Dt.int).map W.d) m':=λJ hp L O=>by
    refine zaC J (λv=>W.d (.int v)) (by rw[au];rfl) (λρ=>∃v,ρ=[v,some (.d (stD (sts.getD j [])))]) (λv=>stD (sts.getD j []++[v])) (by rw[hp.length_eq,yP];exact ay (by lia:_<=4) (by decide)) ⟨_,rfl⟩ ?_ ?_
    ·rintro v hv bd ⟨u,rfl⟩ D hD;left;refine⟨len1 (by lia),?_⟩;rw[cat1];exact hD ⟨_,rfl⟩
    ·have hB:(J.map λv=>sts.getD j []++[v]).Perm ((List.range w).map λv:Nat=>sts.getD j []++[(v:Int)]):=by
      have:=hp.map λv=>sts.getD j []++[v];unfold zj at this;rw[au,aO] at this;exact this
     obtain⟨q1,q2,q3⟩:=zil hk hN al Y Z hB;rw[show J.map (λv=>stD (sts.getD j []++[v]))=(J.map λv=>sts.getD j []++[v]).map stD by rw[au];rfl];refine⟨?_,a2 ⟨rfl,U++J.map (λv=>sts.getD j []++[v]),_,_,_,by rw[aE],q1,q2,q3⟩⟩;rw[ab,ab,<- aD,q3];exact ay (by lia:_<=65536) (by decide)
   refine⟨by lia,?_⟩;left;refine yU (λ_=>?_) (λ_=>?_)
   ·left;rw[<- List.map_reverse];exact fin _ (List.reverse_perm _) _ _
   ·left;exact fin _ (.refl _) _ _
  ·rintro ρ m' ⟨rfl,U,L,O,v6,rfl,al,Y,Z⟩;rw[aA] at Y Z;left;refine hC ⟨rfl,U,_,_,_,_,_,rfl,al,λst ag=>?_,?_⟩
   ·obtain⟨b,hb,v,v0,v1,rfl⟩:=Y st ag;rw[aK] at hb;rw[zh ha];exact (I b hb).snoc v0 v1
   ·rw[Z,an,<- q,eF]
 ·rintro ρ m ⟨rfl,sts,v2,v3,L,O,v6,rfl,hN,I,q⟩;rw[aK] at q I;left;exact r sts hN I q
def zdB  : FV:=λPn q n R=>∃ (p:Addr) (rm:List Int),q=[.pen p,.d (stD rm)]/\(IsP Pn p)/\(n+10<=1000000)/\(RoomOk rm)/\(yu rm<=256)/\(∀bk m,xl rm bk->bk.length<=400->m<=n+5->R (.d (.lst (bk.map yw))) m)
def zdB.i{rm:List Int}(q:IsP Pn p)(B:RoomOk rm)(D:yu rm<=256)(h:∀bk m,xl rm bk->bk.length<=400->m<=n+5->R (.d (.lst (bk.map yw))) m)(F:n+10<=1000000:=by lia):zdB Pn [.pen p,.d (stD rm)] n R:=⟨p,rm,rfl,q,F,B,D,h⟩
def zc3 (T:Txt K mg t):FnOk P w K mg base CX0 2 t.f11 t.d11 la (spV 2 true zdB):=by
 have G1:=zN (P:=P) (w:=w) (base:=base) T;have G9:=zaR (P:=P) (w:=w) (base:=base) T;have G10:=zc4 (P:=P) (w:=w) (base:=base) T
 refine Fun.okW (k:=1) (fr:=true) [] 1 T.q11.F uH rfl (by decide) rfl λan A ad s H E Pn Y=>⟨_,(zb (wS zl <| zu (i:=2) uH.nd (wE zq <| yA T.q10 G10 Y (za (kv 1) zd)))
   (zb (wS zz <| yk (wT zo <| zA xg za4 (JE.bo (wE zq <| yA T.q1 G1 Y (za (kv 0) (za zm zd)))) (JE.bo zm) (zy _)) (ze (wS zl <| zu (i:=2) uH.nd (wE zbe <| zh4 (kb 2) (wO zC <| zL (JE.bo (wE zq <| yA T.q1 G1 Y (za (kv 0) (za (yc yQ uT (by rfl) T.b_len aZ (zn (kb 2) zt)) zd))))) zK))) zE)
   (ze (zI (um (N:=lj) (cix:=[none,none]) rfl (by walk_at "c") (wI zl5 <| zoF rfl T.b_zip (za (kv 2) (za (wE zbe <| zh4 (kb 2) (wO zC <| zL (JE.bo zm)) zK) zd))) (λ_ _ _ _=>(wG uj <| uo (n:=2) K rfl rfl (wH zV <| zx (wG zF <| zi (i:=0) (show (lj:List Str).Nodup by decide +kernel)) (wH zV <| zx (wG zF <| zi (i:=1) (show (lj:List Str).Nodup by decide +kernel)) (wH ui xn))))) (λ_ _ _ _=>y1) (λ_ _ _ _=>(wE zq <| yA T.q9 G9 Y (za (kv 0) (za (kv 1) zd))))))))),λws n R hF=>?_⟩
 obtain⟨p,rm,rfl,hP,hn,Z,hp,r⟩:=hF;left;refine zgP.i Z λsts hN B al=>?_;have h2:=zfy Z.ne λn hn=>(Z.box n hn).1;left;refine dc hP λa a0 a1=>?_;left;refine' zh8 (λ(D:List (List Int)) (I:Nat)=>D.Nodup/\(∀st∈D,StOk rm st)/\D.length<=256/\I<=n+2) _ (λzR=>?_) ?_;rotate_left
 ·refine yU (λ_=>?_) (λ_=>?_)
  ·left;rw[ab];refine dc hP λb b0 b1=>?_;left;rw[x9];have q:=zb7 sts (some b) none;generalize xE sts (some b) none=D at q;generalize hk:n+1+1=I;exact zR D I ⟨hN.sublist q,λst ag=>B st (q.subset ag),by have:=q.length_le;lia,by lia⟩
  ·left;generalize hk:n+1=I;exact zR sts I ⟨hN,B,by lia,by lia⟩
 rintro D I ⟨hN,B,hl,ap⟩;rw[zm2];refine zgY (List.range (D.length - 1)) (λi:Nat=>W.d (.tup [stD (D.getD i []),stD (D.getD (i+1) [])])) rfl (by rw[aA];exact ay (by lia:_<=256) (by decide)) (λi J n' acc=>n'=I/\i<=D.length - 1/\∃ (v0 v1:Option W) (bk:List Wi),J=[v0,v1]/\acc=bk.map yw/\xl rm bk/\bk.length=i) ⟨rfl,aN _,none,none,[],rfl,rfl,by intro x hx;simp at hx,rfl⟩ ?_ ?_
 ·rintro i k J n' acc hk ⟨rfl,hi,v0,v1,bk,rfl,rfl,hB,L⟩ C hC;obtain⟨O,U⟩:=ac.mp hk;rw[aA] at O;rw[bF] at U;subst U;left;refine zeJ.i Z (B _ (zcc (by lia))) (B _ (zcc (by lia))) (zic hN (by lia)) λx hx _=>?_;exact hC ⟨rfl,O,_,_,bk++[x],rfl,by rw[aE];rfl,hB.app (λy hy=>by rw[aw.mp hy];exact hx),by rw[aD,L];rfl⟩
 ·rintro J n' acc ⟨rfl,hi,v0,v1,bk,rfl,rfl,hB,L⟩;rw[aA] at L;exact r bk _ hB (by lia) (by lia)
def zgO  : FV:=λPn q n R=>∃ (p:Addr) (rm:List Int),q=[.pen p,.d (stD rm)]/\(IsP Pn p)/\(n+3000<=1000000)/\(RoomOk rm)/\(yu rm<=16)/\(∀bk m,xl rm bk->bk.length<=1000->m<=n+1000->R (.d (.lst (bk.map yw))) m)
def zgO.i{rm:List Int}(q:IsP Pn p)(B:RoomOk rm)(D:yu rm<=16)(h:∀bk m,xl rm bk->bk.length<=1000->m<=n+1000->R (.d (.lst (bk.map yw))) m)(F:n+3000<=1000000:=by lia):zgO Pn [.pen p,.d (stD rm)] n R:=⟨p,rm,rfl,q,F,B,D,h⟩
def zcs (T:Txt K mg t):FnOk P w K mg base CX0 3 t.f12 t.d12 la (spV 2 true zgO):=by
 have G1:=zN (P:=P) (w:=w) (base:=base) T;have G2:=xJ (P:=P) (w:=w) (base:=base) T;have G4:=yB (P:=P) (w:=w) (base:=base) T;have G9:=zaR (P:=P) (w:=w) (base:=base) T
 refine Fun.okW (k:=2) (fr:=true) [3,6] 8 T.q12.F zM rfl (by decide) rfl λbs A a2 s H E Pn Z=>⟨_,(zb (wS zl <| zu (i:=2) zM.nd (wE zq <| yA T.q4 G4 Z (za (kv 1) zd)))
   (zb (wS yt <| xF (i:=3) zM.nd zjC)
   (zb (zZ aF rfl (wI zd5 <| zd1 rfl T.b_enumerate (za (wE zq <| yA T.q2 G2 Z (za (kv 0) (za (kv 2) zd))) zd)) (wG uj <| uo (n:=2) K rfl rfl (wH zV <| zx (wG zF <| zi (i:=4) zM.nd) (wH zV <| zx (wG zF <| zi (i:=5) zM.nd) (wH ui xn)))) (ze (wS zco <| zd2 3 (xy Z) (kb 5) (kv 4))))
   (zb (wS yt <| xF (i:=6) zM.nd (xP zd))
   (zb (zZ aF rfl (wI yT <| yS K rfl (kv 2)) (wG zF <| zi (i:=5) zM.nd) (ze (zZ aF rfl (wI xS <| yL rfl T.b_range (zn (JE.bo (yc yQ uT (by rfl) T.b_len aZ (zn (kb 1) zt))) zt)) (wG zF <| zi (i:=7) zM.nd) (ze (zZ aF rfl (wI xS <| yL rfl T.b_range (zn (JE.bo (uL yo xC (kb 1) (kb 7) (λ_ _=>rfl))) zt)) (wG zF <| zi (i:=8) zM.nd) (zb (wS zl <| zu (i:=9) zM.nd (y9 zS yE (JE.bo (y9 zS yE (JE.bo (wE zT <| xI (kb 5) zK (wO zC <| zL (kb 7)))) (JE.bo (yr (za (kv 8) zd))))) (JE.bo (wE zT <| xI (kb 5) (wO zC <| zL (JE.bo (y9 yi uz (kb 7) (JE.bo zm)))) zK))))
   (ze (wS zz <| yk (JW.t (wW u6 <| zbp (wT zo <| zA zme zvP (JE.bo (wE yM <| xO (xy Z) (kb 3) (kb 5) (λ_ _=>rfl))) (JE.bo (wE yM <| xO (xy Z) (kb 3) (kb 9) (λ_ _=>rfl))) (zy _)) (uY (.inl rfl) (wT zo <| zA zkh zvM (JE.bo (wE zq <| yA T.q1 G1 Z (za (kv 0) (za zm zd)))) (JE.bo zm) (zy _))))) (ze (wS u7 <| zbo 6 (wE zq <| yA T.q9 G9 Z (za (kv 5) (za (kv 9) zd))))) zE))))))))
   (ze (wS zaO <| zcj 6))))))),λws n R hF=>?_⟩
 obtain⟨p,rm,rfl,hP,hn,hR,hp,r⟩:=hF;left;have h8:=hR.few
 have hsz:(yh (rm.map zj)).length<=16:=by
  have:=xm rm λn hn=>by have:=hR.box n hn;lia
  lia
 have al:∀st∈yh (rm.map zj),StOk rm st:=λst I=>zat rm st I;have an:∀st,StOk rm st->st∈yh (rm.map zj):=λst I=>zkS I;refine zbn.i hR ?_;left;generalize yh (rm.map zj)=ev at hsz al an;refine tc hP (λl hl=>?_) (by rw[ab];lia) (by rw[ab];lia);rw[ab];obtain⟨ys,rfl,ap⟩:=zbX hl;have bx:=ap.length_eq;left;generalize b0:n+ev.length=n1;refine zH (List.range ys.length) (λk:Nat=>W.d (.tup [.int (k:Int),stD (ys.getD k [])])) (zf3 ys) (λi ρ m=>m=n1/\i<=ys.length/\∃ (kvs:List (List Int×Dt)) (v4 v5:Option W),ρ=[some (.pen p),some (.d (stD rm)),some (.d (xL ev)),some (.dt kvs),v4,v5,none,none,none,none]/\(∀j,j<i->∃r:Int,yy kvs (ys.getD j [])=some (.int r))/\kvs.length<=i) ⟨rfl,aN _,[],_,_,rfl,λj hj=>by lia,ai _⟩ ?_ ?_
 ·rintro i k ρ m a3 ⟨rfl,as,kvs,v4,v5,rfl,Y,a4⟩ C B E hC _ _;obtain⟨av,a0⟩:=ac.mp a3;rw[aA] at av;rw[bF] at a0;subst a0;left;refine⟨ys.getD i [],rfl,aP (by lia:_<=100) (by decide),hC ⟨rfl,av,_,_,_,rfl,λj hj=>?_,by have:=zgB kvs (ys.getD i []) (.int (i:Int));lia⟩⟩;by_cases e:ys.getD j []=ys.getD i []
  ·exact⟨i,by rw[zaN,if_pos e]⟩
  ·obtain⟨r',a5⟩:=Y j (by
    rcases cJ.mp hj with h | h
    ·exact h
    ·subst h;exact absurd rfl e)
   exact⟨r',by rw[zaN,if_neg e];exact a5⟩
 rintro ρ n2 ⟨rfl,as,kvs,v4,v5,rfl,Y,a4⟩;rw[aA] at Y
 have J:∀st,StOk rm st->∃r:Int,yy kvs st=some (.int r):=λst I=>by have:=ap.mem_iff.mpr (an st I);obtain⟨j,hj,rfl⟩:=bz.mp this;have:=Y j hj;rwa[show ys.getD j []=ys[j] by simp[hj]] at this
 left;refine zH ev (λst=>.d (stD st)) (by rw[au];rfl) (λi ρ m=>m<=n2+32 * i/\∃ (bk:List Wi) (v5 v7 L O:Option W),ρ=[some (.pen p),some (.d (stD rm)),some (.d (xL ev)),some (.dt kvs),v4,v5,some (.d (.lst (bk.map yw))),v7,L,O]/\xl rm bk/\bk.length<=32 * i) ⟨by lia,[],_,_,_,_,rfl,by intro x hx;simp at hx,by simp⟩ ?_ ?_
 ·rintro i q ρ m ho ⟨hm,bk,v5,v7,L,O,rfl,D,U⟩ C B E hC _ _;have as:=(ac.mp ho).1;have hO:=al q (aj ho);have b1:=hO.len;obtain⟨ra,a1⟩:=J q hO;left;rw[ab];refine⟨⟨by lia,by lia⟩,ze3 (λj ρ m'=>m'<=m+4 * j/\∃ (bk:List Wi) (v7 L O:Option W),ρ=[some (.pen p),some (.d (stD rm)),some (.d (xL ev)),some (.dt kvs),v4,some (.d (stD q)),some (.d (.lst (bk.map yw))),v7,L,O]/\xl rm bk/\bk.length<=32 * i+4 * j) ⟨by lia,bk,_,_,_,rfl,D,by lia⟩ ?_ ?_⟩
  ·rintro j ρ m' hj ⟨a7,bk,v7,L,O,rfl,D,U⟩ C' B' E' bb _ _;have hj:j<rm.length:=by lia
   have b2:=uw hR.box (cS j) (by lia);left;refine onA (cS j) (by lia) ?_;left;refine⟨⟨by lia,by lia⟩,ze3 (λk ρ m2=>m2<=m'+k/\k<=4/\∃ (bk:List Wi) (L O:Option W),ρ=[some (.pen p),some (.d (stD rm)),some (.d (xL ev)),some (.dt kvs),v4,some (.d (stD q)),some (.d (.lst (bk.map yw))),some (.d (.int (j:Int))),L,O]/\xl rm bk/\bk.length<=32 * i+4 * j+k) ⟨by lia,by lia,bk,_,_,rfl,D,by lia⟩ ?_ ?_⟩
   ·rintro k ρ m2 hk ⟨bd,bl,bk,L,O,rfl,D,U⟩ C2 B2 E2 ad _ _;left;refine⟨zdK (by lia),?_⟩;left;refine⟨zdL (by lia),?_⟩;rw[zfU (cS j) (by lia)];have hT:StOk rm (chg q (j:Int) (k:Int)):=zhF hO (cS j) (by lia) (by lia) (by lia);obtain⟨rb,ag⟩:=J _ hT;left;refine⟨q,rfl,y4 a1 ?_⟩;left;refine⟨chg q (j:Int) (k:Int),rfl,y4 ag ?_⟩;left;refine yU (λb3=>?_) (λ_=>⟨ad ⟨by lia,by lia,bk,_,_,rfl,D,by lia⟩⟩)
    have bn:q≠chg q (j:Int) (k:Int):=λe=>by rw[<- e,a1] at ag;cases ag;lia
    left;refine dc hP (λd d0 d1=>?_) (by lia);left;refine yU (λ_=>?_) (λ_=>⟨ad ⟨by lia,by lia,bk,_,_,rfl,D,by lia⟩⟩);left;refine zeJ.i hR hO hT bn λx hx _=>?_;left;refine⟨by rw[ab];exact aP (by lia:_<=1000) (by decide),ad ⟨by lia,by lia,bk++[x],_,_,by rw[aE];rfl,D.app (λy hy=>by rw[aw.mp hy];exact hx),by rw[aD];simp;lia⟩⟩
   ·rintro ρ m2 ⟨bd,bl,bk,L,O,rfl,D,U⟩;left;exact bb ⟨by lia,bk,_,_,_,rfl,D,by lia⟩
  ·rintro ρ m' ⟨a7,bk,v7,L,O,rfl,D,U⟩;left;exact hC ⟨by lia,bk,_,_,_,_,rfl,D,by lia⟩
 ·rintro ρ m ⟨hm,bk,v5,v7,L,O,rfl,D,U⟩;left;exact r bk m D (by lia) (by lia)
def zdC  : FV:=λPn B n R=>∃ (p:Addr) (rm:List Int) (bk:List Wi),B=[.pen p,.d (stD rm),.d (.lst (bk.map yw))]/\(IsP Pn p)/\(n+100<=1000000)/\(RoomOk rm)/\(xl rm bk)/\(bk.length<=2000)/\(∀q m,xl rm q->q.length<=2001->m<=n+50->R (.d (.lst (q.map yw))) m)
def zdC.i{rm:List Int}(B:IsP Pn p)(D:RoomOk rm)(F:xl rm bk)(I:bk.length<=2000)(h:∀q m,xl rm q->q.length<=2001->m<=n+50->R (.d (.lst (q.map yw))) m)(J:n+100<=1000000:=by lia):zdC Pn [.pen p,.d (stD rm),.d (.lst (bk.map yw))] n R:=⟨p,rm,bk,rfl,B,J,D,F,I,h⟩
def zbN (T:Txt K mg t):FnOk P w K mg base CX0 4 t.f13 t.d13 lh (spG 3 true zdC):=by
 have G1:=zN (P:=P) (w:=w) (base:=base) T;have G6:=zaS (P:=P) (w:=w) (base:=base) T
 refine Fun.okG (k:=3) (fr:=true) [2] 6 T.q13.F z7 rfl (by decide) (by decide) rfl λan A ad s H E Pn L=>⟨_,(zb (wS zl <| zu (i:=3) z7.nd (wE zq <| yA T.q1 G1 L (za (kv 0) (za zm zd))))
   (zb (wS zz <| yk (JW.t (wW zhk <| zlV (wT zo <| zA xg za4 (kb 3) (JE.bo zm) (zy _)) (uY (.inr rfl) (wT zo <| zA (zr0 L.units) zvL (kb 2) (JE.bo (xP zd)) (zy _))))) (zb (wS zoP <| zrA 2 (wE zq <| yA T.q1 G1 L (za (kv 0) (za (y9 yi uz (JE.bo (yc yQ uT (by rfl) T.b_len aZ (zn (kb 2) zt))) (JE.bo zm)) zd))) (wE zq <| yA T.q6 G6 L (za (kv 0) (za (kv 1) zd))))
   (ze (wS zaO <| zcj 2))) zE)
   (zb (wS zl <| zu (i:=4) z7.nd (wE zq <| yA T.q1 G1 L (za (kv 0) (za (yc yQ uT (by rfl) T.b_len aZ (zn (kb 2) zt)) zd))))
   (zb (znp (uL xo zbP (kb 2) (kb 4) (λ_ _=>rfl)) (wG uj <| uo (n:=4) K rfl rfl (wH zV <| zx (wG zF <| zi (i:=5) z7.nd) (wH zV <| zx (wG zF <| zi (i:=6) z7.nd) (wH zV <| zx (wG zF <| zi (i:=7) z7.nd) (wH zV <| zx (wG zF <| zi (i:=8) z7.nd) (wH ui xn)))))))
   (zb (wS zz <| yk (wT zo <| zA xg za4 (kb 3) (JE.bo zm) (zy _)) (ze (wS zjV <| znq 2 (kb 4) (yr (za (kv 5) (za (kv 6) (za (kv 8) (za (kv 7) zd))))))) zE)
   (zb (wS zz <| yk (wT zo <| zA xg za4 (kb 3) (JE.bo zm) (zy _)) (ze (wS zl8 <| zoH 2 (kb 4))) zE)
   (zb (wS zz <| yk (wT zo <| zA xg za4 (kb 3) (JE.bo zm) (zy _)) (ze (wS u7 <| zbo 2 (uL xo zbP (kb 2) (kb 4) (λ_ _=>rfl)))) zE)
   (zb (wS zz <| yk (wT zo <| zA xg za4 (kb 3) (JE.bo zm) (zy _)) (ze (wS zjV <| znq 2 (kb 4) (yr (za (wE zT <| xI (kb 5) (wO zC <| zL (JE.bo zm)) zK) (za (kv 6) (za (kv 7) (za (kv 8) zd))))))) zE)
   (ze (wS zaO <| zcj 2)))))))))),λws n R hF=>?_⟩
 obtain⟨p,rm,bk,rfl,Z,hn,hR,B,hl,r⟩:=hF;left;have h8:=hR.few;refine dc Z λq w0 w1=>?_;left;refine' zu9 _ (λkey=>?_) ?_;rotate_left
 ·refine yU (λh4=>?_) (λh4=>?_)
  ·left;rw[ab];generalize W.d (Dt.int q)=x;exact key x
  ·left;refine⟨zqL B,zqL (rm:=rm) (bk:=[]) (by intro x J;simp at J),λb hb=>?_⟩;left;refine zgx (λD=>?_) (λD=>?_)
   ·left;rw[ab];exact key (.d (.int q))
   ·left
    have ag:bk≠[]:=λz=>by have:=hb.mpr (by rw[z];rfl);rw[this] at D;cases D
    have al:0<bk.length:=List.length_pos_iff.mpr ag;rw[ab];refine dc Z λO a0 a1=>?_;obtain⟨j,rfl⟩:∃j:Nat,O=(j:Int):=⟨O.toNat,by lia⟩;have hj:j<bk.length:=by lia
    have J:=B _ (bO hj);have I:atI (bk.map yw) (j:Int)=some (yw bk[j]):=zdd (by rw[am,ah hj];rfl);generalize bk[j]=x at J I;left;refine y4 I ?_;left;have U:q=0\/q=1\/q=2\/q=3:=by lia
    rcases U with rfl | rfl | rfl | rfl
    ·walk_at "ct";refine⟨⟨by lia,by rw[ab];lia⟩,?_⟩;rw[aO,show (bk.map yw).set j (Dt.tup [Dt.tup (x.g.map zan),.int x.b,.int x.w,.int x.r])=(bk.set j (ztj x)).map yw by rw[List.map_set];rfl];left;walk_at "cf";walk_at "cf";walk_at "cf";exact r _ _ (B.set (zql J) j) (by rw[bc];lia) (by lia)
    ·walk_at "cf";walk_at "ct";refine⟨⟨by lia,by rw[ab];lia,by rw[ab];exact ay hl (by decide)⟩,?_⟩;rw[aO,<- ze0];left;walk_at "cf";walk_at "cf";exact r _ _ (λy Y=>B y (List.mem_of_mem_eraseIdx Y)) (by have:=List.length_eraseIdx_le bk j;lia) (by lia)
    ·walk_at "cf";walk_at "cf";walk_at "ct";refine y4 I ?_;left;refine⟨by rw[ab];exact aP hl (by decide),?_⟩;rw[show bk.map yw++[yw x]=(bk++[x]).map yw by rw[aE];rfl];left;walk_at "cf";exact r _ _ (B.app λy Y=>by rw[aw.mp Y];exact J) (by rw[aD];simp;lia) (by lia)
    ·walk_at "cf";walk_at "cf";walk_at "cf";walk_at "ct";refine⟨⟨by lia,by rw[ab];lia⟩,?_⟩;rw[aO,x9,show (bk.map yw).set j (Dt.tup [Dt.tup ((xE x.g (some 1) none).map zan),.int x.b,.int x.r,.int x.w])=(bk.set j { x with g:=xE x.g (some 1) none }).map yw by rw[List.map_set] <;> rfl];left;exact r _ _ (B.set (zn8 J) j) (by rw[bc];lia) (by lia)
 intro x;refine dc Z λk k0 k1=>?_;obtain⟨j,rfl⟩:∃j:Nat,k=(j:Int):=⟨k.toNat,by lia⟩;left;refine ziy.i Z hR λy m Y hm=>?_;left;refine⟨⟨by lia,by lia,aP hl (by decide)⟩,?_⟩;rw[aO,zoA];left;exact r _ _ (B.ins Y j) (by rw[zoz];lia) (by lia)
def zgN  : FV:=λPn q n R=>∃ (p:Addr) (rm:List Int),q=[.pen p,.d (stD rm)]/\(IsP Pn p)/\(n+4000<=1000000)/\(RoomOk rm)/\(yu rm<=256)/\(∀bk m,xl rm bk->bk.length<=80->m<=n+2000->R (.d (xi bk)) m)
def zgN.i{rm:List Int}(q:IsP Pn p)(B:RoomOk rm)(D:yu rm<=256)(h:∀bk m,xl rm bk->bk.length<=80->m<=n+2000->R (.d (xi bk)) m)(F:n+4000<=1000000:=by lia):zgN Pn [.pen p,.d (stD rm)] n R:=⟨p,rm,rfl,q,F,B,D,h⟩
def zeb (T:Txt K mg t):FnOk P w K mg base CX0 5 t.f14 t.d14 la (spV 2 false zgN):=by
 have G1:=zN (P:=P) (w:=w) (base:=base) T;have G2:=xJ (P:=P) (w:=w) (base:=base) T;have G4:=yB (P:=P) (w:=w) (base:=base) T;have G6:=zaS (P:=P) (w:=w) (base:=base) T;have G8:=zbg (P:=P) (w:=w) (base:=base) T;have G11:=zc3 (P:=P) (w:=w) (base:=base) T;have G12:=zcs (P:=P) (w:=w) (base:=base) T;have G13:=zbN (P:=P) (w:=w) (base:=base) T
 refine Fun.okW (k:=4) (fr:=false) [5] 4 T.q14.F yf rfl (by decide) rfl λa5 A as s H E Pn B=>⟨_,(zb (wS zl <| zu (i:=2) yf.nd (wE zq <| yA T.q1 G1 B (za (kv 0) (za zm zd))))
   (zb (wS zl <| zu (i:=3) yf.nd (wE zq <| yA T.q1 G1 B (za (kv 0) (za zm zd))))
   (zb (wS zl <| zu (i:=4) yf.nd (yc yQ uT (by rfl) T.b_len aZ (zn (JE.bo (wE zq <| yA T.q4 G4 B (za (kv 1) zd))) zt)))
   (zb (wS zz <| yk (wT zo <| zA xg za4 (kb 2) (JE.bo zm) (zy _)) (ze (wS yt <| xF (i:=5) yf.nd (wE zq <| yA T.q11 G11 B (za (kv 0) (za (kv 1) zd))))) (ze (wS zz <| yk (JW.t (wW u6 <| zbp (wT zo <| zA xg za4 (kb 2) (JE.bo zm) (zy _)) (uY (.inl rfl) (wT zo <| zA zmd zt3 (kb 4) (JE.bo zm) (zy _))))) (ze (wS yt <| xF (i:=5) yf.nd (wE zq <| yA T.q12 G12 B (za (kv 0) (za (kv 1) zd))))) (ze (wS zz <| yk (wT zo <| zA zme zvP (kb 2) (JE.bo zm) (zy _)) (ze (wS yt <| xF (i:=5) yf.nd (wE zq <| yA T.q8 G8 B (za (kv 0) (za (kv 1) zd))))) (ze (wS yt <| zgj (i:=5) (zbU (ix:=5) yf.nd rfl rfl (N:=lE) (cix:=[none,some 0,some 1]) rfl (by walk_at "c") (wI xS <| yL rfl T.b_range (zn (JE.bo (wE zq <| yA T.q1 G1 B (za (kv 0) (za zm zd)))) zt)) (λ_ _ _ _=>(wG zF <| zi (i:=0) (show (lE:List Str).Nodup by decide +kernel))) (λ_ _ _ _=>y1) (λ_ _ _ _=>(wE zq <| yA T.q6 G6 B (za (kv 1) (za (kv 2) zd))))))))))))
   (zb (wS zz <| yk (wT zo <| zA xg za4 (kb 3) (JE.bo zm) (zy _)) (ze (zrz (i:=5) T.q13 G13 B (kv 0) (kv 1) yf.nd rfl (Or.inl rfl))) zE)
   (ze (zI (xp yH zax (by rfl) T.b_tuple bu (zn (JE.bo (wE zq <| yA T.q2 G2 B (za (kv 0) (za (wE zbe <| zh4 (kb 5) zK (wO zC <| zL (JE.bo zm))) zd)))) zt))))))))),λws n R hF=>?_⟩
 obtain⟨p,rm,rfl,D,hn,I,hp,r⟩:=hF;left;refine dc D λkind k0 k1=>?_;left;refine dc D λsp s0 s1=>?_;left;refine zbn.i I ?_;left;have hsz:=xm rm λn hn=>by have:=I.box n hn;lia
 rw[ab,hsz];refine' zh8 (λ(bk:List Wi) (U:Nat)=>xl rm bk/\bk.length<=1000/\U<=n+1100) _ (λzR=>?_) ?_;rotate_left
 ·refine yU (λh0=>?_) (λh0=>?_)
  ·left;refine zdB.i D I hp λbk m q Y Z=>?_;left;exact zR bk m ⟨q,by lia,by lia⟩
  left;refine yU (λh1=>?_) (λh1=>?_)
  ·left;refine yU (λad=>?_) (λad=>?_)
   ·left;refine zgO.i D I ad λbk m q Y Z=>?_;left;exact zR bk m ⟨q,by lia,by lia⟩
   ·left;refine yU (λh4=>?_) (λh4=>absurd (by lia) h4);left;refine zit.i D I λbk m q Y Z=>?_;left;exact zR bk m ⟨q,by lia,by lia⟩
  left;refine yU (λh4=>?_) (λh4=>?_)
  ·left;refine zit.i D I λbk m q Y Z=>?_;left;exact zR bk m ⟨q,by lia,by lia⟩
  ·left;refine dc D λt t0 t1=>?_;left;refine⟨⟨by lia,by lia⟩,?_⟩;rw[zak];refine zgY (List.range t.toNat) (λk:Nat=>W.d (.int (k:Int))) rfl (by rw[aA];exact ay (by lia:_<=14) (by decide)) (λi J n' acc=>n'<=n+3+30 * i/\i<=t.toNat/\∃ (v:Option W) (bk:List Wi),J=[v,some (.pen p),some (.d (stD rm))]/\acc=bk.map yw/\xl rm bk/\bk.length=i) ⟨by lia,aN _,none,[],rfl,rfl,by intro x L;simp at L,rfl⟩ ?_ ?_
   ·rintro i k J n' acc hk ⟨ag,hi,v,bk,rfl,rfl,q,O⟩ C hC;have al:=(ac.mp hk).1;rw[aA] at al;left;refine ziy.i D I λx m L Z=>?_;exact hC ⟨by lia,al,_,bk++[x],rfl,by rw[aE];rfl,q.app (λy hy=>by rw[aw.mp hy];exact L),by rw[aD,O];rfl⟩
   ·rintro J n' acc ⟨ag,hi,v,bk,rfl,rfl,q,O⟩;rw[aA] at O ag;left;exact zR bk n' ⟨q,by lia,by lia⟩
 rintro bk U ⟨q,Y,av⟩;refine' zh8 (λ(bk:List Wi) (U:Nat)=>xl rm bk/\bk.length<=2001/\U<=n+1150) _ (λzR=>?_) ?_;rotate_left
 ·left;refine yU (λh0=>?_) (λh0=>?_)
  ·left;refine zdC.i D I q (by lia) λa0 m a1 a2 Z=>?_;left;exact zR a0 m ⟨a1,a2,by lia⟩
  ·left;exact zR bk U ⟨q,by lia,by lia⟩
 rintro bk U ⟨q,Y,av⟩;left;rw[x9,show (80:Int)=((80:Nat):Int) from rfl,L3.zbS];have an:xl rm (bk.take 80):=λx L=>q x (bX L);have a3:(bk.take 80).length<=80:=by rw[aQ];lia
 generalize bk.take 80=b2 at an a3;left;refine tc D (λl a4=>?_) (by rw[ab];lia) (by rw[ab];lia);rw[ab];obtain⟨b3,rfl,ap⟩:=zbX a4;have a7:=ap.length_eq;left;exact r b3 _ (λx L=>an x (ap.mem_iff.mp L)) (by lia) (by lia)
def zgv (T:Txt K mg t):FnOk P w K mg base CX0 1 t.f15 t.d15 lT (zdz K):=by
 refine T.q15.F.okQ uI (λvs H Q E h=>?_) (λb2 A bd s H vs Q E hr h=>?_)
 ·obtain⟨ca,xs,cs,rfl,_⟩:=h;rfl
 ·obtain⟨ca,xs,cs,rfl,a1,hL,bk,a2,k⟩:=h;have Z:=zgS bk a2
  refine⟨_,(ye (x5 (i:=1) uI.nd rfl (Or.inl rfl) (zkp (zO (zgD yC) yC)))
   (ye (znz aF rfl (zem (qv 0)) (zcx (i:=2) uI.nd rfl (Or.inr rfl)) (uG (zmF (ix:=1) uI.nd rfl rfl (N:=lJ) (cix:=[none,none,some 2]) rfl (by walk_at "c") (zem (qv 1)) (λ_ _ _ _=>(zcx (i:=0) (show (lJ:List Str).Nodup by decide +kernel) rfl (Or.inl rfl))) (λ_ _ _ _=>zer) (λ_ _ _ _=>(zhx K rfl (qv 2))) (λ_ _ _ _=>(zcx (i:=1) (show (lJ:List Str).Nodup by decide +kernel) rfl (Or.inl rfl))) (λ_ _ _ _=>zer) (λ_ _ _ _=>(xa (zmc K rfl) (qv 0) (zgD (zO (qv 1) yC)))))))
   (uG (zbx (qv 1))))),?_⟩
  refine⟨(by show 0<=sizeLine;decide),λe0 H1 _ g1 S1=>⟨(by show 1<=sizeLine;decide),λr0 H2 n2 g2 S2=>?_⟩⟩;have S02:xh H H2:=λb o e=>S2 _ _ (S1 _ _ e)
  have bl:H r0=none:=by
   cases e:H r0 with
   | none=>rfl
   | some o=>rw[S1 _ _ e] at n2;cases n2
  refine⟨_,rfl,ca,rfl,⟨xs,.of (S02 _ _ a1)⟩,zlD (K:=K) (xs:=xs) (λi σ H3=>∃ (ra:Addr) (ys:List V) (v2:Option V),σ=[some (.ref ca),some (.ref ra),v2]/\H ra=none/\H3 ra=some (.lst ys)/\IsL H3 ((yh (cs.take i)).map stD) ys/\xh H H3)
   ⟨r0,_,none,rfl,bl,g2,⟨_,_,rfl,⟨e0,_,rfl,S2 _ _ g1,rfl⟩,rfl⟩,S02⟩ (λi σ H3 _ ⟨_,_,_,_,_,_,_,S⟩=>.of (S _ _ a1)) ?_ ?_⟩
  ·rintro i x σ H3 hi ⟨ra,ys,v2,rfl,a3,Y,O,S3⟩;have bn:=(ac.mp hi).1;have U:i<cs.length:=by rw[<- hL.1];exact bn
   obtain⟨wa,a4,a5⟩:=hL.2 i cs[i] (ah U);rw[hi] at a4;cases a4;have ad:=a2 cs[i] (bO U);have an:cs.take (i+1)=cs.take i++[cs[i]]:=zh (ah U);have bo:=Z i;have ap:=Z (i+1);rw[an,yW] at ap;have as:=O.length;rw[ab] at as
   have ag:∀D∈yh (cs.take i),D.length<=8:=λD hr=>by rw[zdE _ _ hr,aQ];lia
   generalize cs[i]=ws at a5 ad an ap;generalize av:yh (cs.take i)=rows at O bo ap as ag;have al:=S3 _ _ a5;refine⟨_,rfl,ra,rfl,⟨_,.of Y⟩,λacc J=>?_⟩;refine zhT (xs:=ys) J (λj I H'=>(∃v0 v1,I=[v0,v1,some (.ref wa)])/\(∃zs,H' acc=some (.lst zs)/\IsL H' ((xw (rows.take j) ws).map stD) zs)/\xh H3 H') (λH' z1 z2=>⟨⟨_,_,rfl⟩,⟨[],z1,rfl⟩,z2⟩) (λ_ _ _ _ ⟨_,_,S⟩=>.of (S _ _ Y)) ?_ ?_
   ·rintro j y I H4 hy ⟨⟨v0,v1,rfl⟩,⟨zs,B,q⟩,S4⟩;obtain⟨d,hd,bs⟩:=(O.stay (zB.same S4)).get hy;rw[am] at hd;obtain⟨D,a0,rfl⟩:=aB.mp hd;obtain⟨rwa,rv,rfl,a7,bx⟩:=bs;obtain rfl:=bx.of_ints;have b3:=(ac.mp a0).1;have cc:=ag D (aj a0);show ziR _ zbl _ _ _ _ _ _ _ _ _;refine zns ?_;refine⟨_,rfl,wa,rfl,⟨_,.of (S4 _ _ al)⟩,?_⟩;refine zh1 (xs:=ws.map V.int) (λm I H'=>(∃v1,I=[some (.ref rwa),v1,some (.ref wa)])/\(∃zs,H' acc=some (.lst zs)/\IsL H' ((xw (rows.take j) ws++(ws.take m).map λw=>D++[w]).map stD) zs)/\xh H3 H'/\H' rwa=some (.tup (D.map V.int))) ⟨⟨_,rfl⟩,⟨zs,B,by simpa using q⟩,S4,a7⟩ (λ_ _ _ _ ⟨_,_,S,_⟩=>.of (S _ _ al)) ?_ ?_
    ·rintro m u I H5 hu ⟨⟨v1,rfl⟩,⟨zs,B,q⟩,S5,L⟩;rw[am] at hu;obtain⟨wv,bb,rfl⟩:=aB.mp hu;have cd:=(ac.mp bb).1;refine znb ⟨_,rfl,_,rfl,(by show 1<=sizeLine;decide),λt1 H6 _ g6 S6=>?_⟩;refine⟨rwa,t1,_,_,rfl,rfl,S6 _ _ L,g6,cj (zcM (by rw[ab];show D.length+1<=1000;lia)),λt2 H7 g7 S7=>?_⟩;have S57:xh H5 H7:=λb o e=>S7 _ _ (S6 _ _ e);have b0:=q.length;rw[ab,aD,uh,ab,aQ,aQ] at b0;have ch:=uh rows ws;have b1:(min j rows.length) * ws.length<=65536 * 4:=Nat.mul_le_mul (by lia) ad;refine⟨zs,S57 _ _ B,aP (show zs.length<=500000 by lia) (by decide),⟨_,rfl⟩,⟨_,zk,?_⟩,zmN J λb o e=>S57 _ _ (S5 _ _ e),?_⟩
     ·refine IsL.stayT (ziC.app (S57 _ _ B)) (uF _) ?_;rw[zh bb,aE (l₁:=ws.take m),<- b6,aE];refine (q.stay (zB.same S57)).append (IsL.one ⟨t2,_,rfl,g7,?_⟩);rw[aE];exact IsL.ints.append (IsL.ints (ns:=[wv]))
     ·rw[zg (zj4 (S57 _ _ L) (S57 _ _ B) (by intro z;cases z))];exact S57 _ _ L
    ·rintro I H5 ⟨⟨v1,rfl⟩,⟨zs,B,q⟩,S5,L⟩;rw[ab,aK] at q;refine⟨⟨_,_,rfl⟩,⟨zs,B,?_⟩,S5⟩;rw[zh a0,zb4];exact q
   ·rintro I H4 ⟨⟨v0,v1,rfl⟩,⟨zs,B,q⟩,S4⟩;rw[as,aK] at q;refine⟨acc,zs,_,rfl,?_,B,?_,λb o e=>S4 _ _ (S3 _ _ e)⟩
    ·cases e:H acc with
     | none=>rfl
     | some o=>rw[S3 _ _ e] at J;cases J
    ·rw[an,yW,av];exact q
  ·rintro σ H3 ⟨ra,ys,v2,rfl,a3,Y,O,S3⟩;rw[hL.1,aK] at O;exact⟨_,rfl,k ra ys H3 a3 Y O S3⟩
def zfo (T:Txt K mg t):FnOk P w K mg base CX0 1 t.f15 t.d15 lT (spV 1 true zdc):=FnOk.lift (FnOk.mono (zgv T) (by decide)) zd4
def zlj  : FV:=λPn q n R=>∃ (rm:List Int),q=[.d (stD rm)]/\(RoomOk rm)/\(R (.d (xL (yh (rm.map zj)))) n)
def zlj.i{rm:List Int}(q:RoomOk rm)(h:R (.d (xL (yh (rm.map zj)))) n)  : zlj Pn [.d (stD rm)] n R:=⟨rm,rfl,q,h⟩
def zee (T:Txt K mg t):FnOk P w K mg base CX0 2 t.f16 t.d16 lP (spV 1 true zlj):=by
 have G15:=zfo (P:=P) (w:=w) (base:=base) T;refine Fun.okW (k:=1) (fr:=true) [] 0 T.q16.F zfD rfl (by decide) rfl λI A B s H E Pn J=>⟨_,(ze (zI (wE zq <| yA T.q15 G15 J (za (um (N:=["worths"]) (cix:=[none]) rfl (by walk_at "c") (wI xD <| uM K rfl (kv 0)) (λ_ _ _ _=>(wG zF <| zi (i:=0) (show (["worths"]:List Str).Nodup by decide +kernel))) (λ_ _ _ _=>y1) (λ_ _ _ _=>(wE xT <| uX T.b_list T.b_range (zn (kb 0) zt)))) zd)))),λws n R L=>?_⟩;obtain⟨rm,rfl,q,r⟩:=L;left;refine zaC rm (λi=>W.d (.int i)) (by rw[au];rfl) (λρ=>∃a,ρ=[a]) (λm=>lsD (zj m)) (ay q.few (by decide)) ⟨_,rfl⟩ ?_ ?_
 ·rintro m D O ⟨a,rfl⟩ C U;have hb:=q.box m D;left;refine⟨⟨by lia,by lia⟩,?_⟩;have Y:lsD (zj m)=Dt.lst (zeu m.toNat):=by unfold lsD zj zeu;rw[au];rfl
  rw[<- Y];exact U ⟨_,rfl⟩
 ·left;refine⟨rm.map zj,by rw[au];rfl,by rw[ab];exact q.few,λc Z=>?_,r⟩;obtain⟨m,D,rfl⟩:=az.mp Z;have:=q.box m D;rw[yP];lia
def ziu  : FV:=λPn q n R=>∃ (st:List Int) (b x:Int),q=[.d (stD st),.d (.int b),.d (.int x)]/\(0<=b)/\(st.length<=1000)/\(R (.d (stD (chg st b x))) n)
def ziu.i{st:List Int}{b x:Int}(q:0<=b)(B:st.length<=1000)(h:R (.d (stD (chg st b x))) n)  : ziu Pn [.d (stD st),.d (.int b),.d (.int x)] n R:=⟨st,b,x,rfl,q,B,h⟩
def zgw (T:Txt K mg t):FnOk P w K mg base CX0 1 t.f17 t.d17 lv (spV 3 false ziu):=by refine Fun.okW (k:=0) (fr:=false) [] 0 T.q17.F zij rfl (by decide) rfl λD A q s H E Pn L=>⟨_,(ze (zI (y9 zS yE (JE.bo (y9 zS yE (JE.bo (wE zT <| xI (kb 0) zK (wO zC <| zL (kb 1)))) (JE.bo (yr (za (kv 2) zd))))) (JE.bo (wE zT <| xI (kb 0) (wO zC <| zL (JE.bo (y9 yi uz (kb 1) (JE.bo zm)))) zK))))),λO n R I=>?_⟩;obtain⟨st,b,x,rfl,J,B,r⟩:=I;left;refine⟨zdK B,?_⟩;left;refine⟨zdL B,?_⟩;rw[zfU J B];exact r
def zix  : FV:=λPn B n R=>∃ (st:List Int) (g:List (Int×Int)),B=[.d (stD st),.d (zeG g)]/\(∀q∈g,0<=q.1/\q.1<st.length)/\(R (.d (.bl (uZ st g))) n)
def zix.i{st:List Int}{g:List (Int×Int)}(B:∀q∈g,0<=q.1/\q.1<st.length)(h:R (.d (.bl (uZ st g))) n)  : zix Pn [.d (stD st),.d (zeG g)] n R:=⟨st,g,rfl,B,h⟩
def zkc (T:Txt K mg t):FnOk P w K mg base CX0 1 t.f18 t.d18 lN (spV 2 false zix):=by
 refine Fun.okW (k:=0) (fr:=false) [] 2 T.q18.F zev rfl (by decide) rfl λY A I s H E Pn hr=>⟨_,(zb (zZ aF rfl (wI xD <| uM K rfl (kv 1)) (wG uj <| uo (n:=2) K rfl rfl (wH zV <| zx (wG zF <| zi (i:=2) zev.nd) (wH zV <| zx (wG zF <| zi (i:=3) zev.nd) (wH ui xn)))) (ze (wS zz <| yk (wT zo <| zA zei zmW (JE.bo (uL yo xC (kb 0) (kb 2) (λ_ _=>rfl))) (kb 3) (zy _)) (ze (zI zeH)) zE)))
   (ze (zI zeH))),λws n R Z=>?_⟩
 obtain⟨st,g,rfl,hg,r⟩:=Z;left;refine zH g (λq=>.d (zan q)) (by rw[au];rfl) (λi ρ m=>m=n/\(∃J L,ρ=[some (.d (stD st)),some (.d (zeG g)),J,L])/\uZ st (g.take i)=true) ⟨rfl,⟨_,_,rfl⟩,rfl⟩ ?_ ?_
 ·rintro i q ρ m O ⟨rfl,⟨J,L,rfl⟩,D⟩ C B E hC _ hE;have U:=hg q (aj O);left;refine onA U.1 U.2 ?_;left;refine zef (λh=>?_) (λh=>?_)
  ·left;refine hE ?_
   have e:uZ st g=false:=by unfold uZ;exact List.all_eq_false.mpr ⟨q,aj O,λz=>h (b7 z)⟩
   rw[e] at r;exact r
  ·left;refine hC ⟨rfl,⟨_,_,rfl⟩,?_⟩;unfold uZ at D ⊢;rw[zh O,List.all_append,D];simp[h]
 ·rintro ρ m ⟨rfl,⟨J,L,rfl⟩,D⟩;rw[aK] at D;rw[D] at r;left;exact r
def zgW{rm:List Int}{bk:List Wi}{st hs:List Int}(I:RoomOk rm)(F:xl rm bk)(B:st.length=rm.length){Q:W->Nat->Prop}(r:Q (.d (xL (zaz bk st hs))) n):scR (eTp 4 (eCn (eN 0) (eCn (eN 1) (eCn (eN 2) (eCn (eN 3) eNl))))) (ztL (zq6 (zl4 dEq (zl4 ztM (zfZ 4) (zfZ 1)) (zfZ 3))) (ztL (zq6 (zl4 zdR (zfZ 1) (zfZ 5))) (zq6 (dFn 2 (zix Pn) (zfh (zfZ 4) (zfh (zfZ 0) zrJ))))))
  (dFn 3 (ziu Pn) (zfh (zfZ 4) (zfh (zfZ 1) (zfh (zfZ 2) zrJ)))) [none,none,none,none,some (.d (stD st)),some (.d (stD hs))] (λks n'=>∃m,ks.length<64/\1<=m/\(∀st∈ks,st.length=m)/\∀l':List (List Int),l'.Perm ks->(l'.Pairwise λa b=>HT.lexLt a b=true)->Q (.d (xL l')) n') ((bk.map yw).map W.d) n:=by
 have h8:=I.few;have D:∀ks:List (List Int),ks.Nodup->(∀z∈ks,z∈zaF bk st hs)->ks.length<=32:=λks h1 h2=>zaG F h8 I.box h1 h2;refine zqb bk (λx=>W.d (yw x)) (by rw[au];rfl) (λρ=>∃a b c d,ρ=[a,b,c,d,some (.d (stD st)),some (.d (stD hs))]) (λx=>zbc st x&&!hs.contains x.b) (λx=>chg st x.b x.r) ⟨_,_,_,_,rfl⟩ ?_ (λks h1 h2=>by have:=D ks h1 h2;lia) ?_
 ·rintro x hx ad ⟨a,b,c,d,rfl⟩ C hY J;have L:=F x hx;have b0:=L.b0;have b1:=L.b1;left;refine onA b0 (by lia) ?_;left;refine yU (λO=>?_) (λO=>J (by unfold zbc;rw[ba O];simp) ⟨_,_,_,_,rfl⟩);left;refine⟨hs,rfl,?_⟩;left;refine znu (λU=>?_) (λU=>J (by rw[U];simp) ⟨_,_,_,_,rfl⟩);left;refine zix.i (λq hq=>?_) ?_
  ·have:=L.giv.ok q hq;rw[B];exact⟨this.1,this.2.1⟩
  left;refine zgx (λY=>?_) (λY=>J (by unfold zbc;rw[Y];simp) ⟨_,_,_,_,rfl⟩);left;refine ziu.i b0 (by lia) ⟨_,rfl,hY ?_ ⟨_,_,_,_,rfl⟩⟩;unfold zbc;rw[a9 O,Y,U];rfl
 ·intro ks h1 h2;refine⟨rm.length,by have:=D ks h1 λz Z=>(h2 z).mp Z;lia,I.pos,λz Z=>uk F B z ((h2 z).mp Z),λl' hp hu=>?_⟩;rw[show l'=zaz bk st hs from zhD (uk F B) hu λz=>(hp.mem_iff).trans (h2 z)];exact r
def zlc  : FV:=λPn q n R=>∃ (rm:List Int) (bk:List Wi) (st hs:List Int) (v:W),q=[.d (stD rm),.d (xi bk),.d (stD st),v]/\(v = .d (stD hs)\/(hs=[]/\v = .d .non))/\(RoomOk rm)/\(xl rm bk)/\(st.length=rm.length)/\(R (.d (xL (zaz bk st hs))) n)
def zlc.i{rm:List Int}{st hs:List Int}(B:v = .d (stD hs)\/(hs=[]/\v = .d .non))(D:RoomOk rm)(F:xl rm bk)(q:st.length=rm.length)(h:R (.d (xL (zaz bk st hs))) n)  : zlc Pn [.d (stD rm),.d (xi bk),.d (stD st),v] n R:=⟨rm,bk,st,hs,v,rfl,B,D,F,q,h⟩
def zc7 (T:Txt K mg t):FnOk P w K mg base CX0 2 t.f19 t.d19 lz (spV 4 true zlc):=by
 have G17:=zgw (P:=P) (w:=w) (base:=base) T;have G18:=zkc (P:=P) (w:=w) (base:=base) T
 refine FunD.okW (k:=1) (fr:=true) [] 1 T.q19.F za2 rfl (by decide) rfl λL A B s H E Pn D=>⟨_,(zb (wS zl <| zu (i:=4) za2.nd (wE zrI <| j_if (wT zo <| zrB (kb 3)) (yr zd) (kv 3)))
   (ze (zI (zlS T.b_sorted (xy D) (N:=lc) (cix:=[none,none,none,none,some 2,some 4]) rfl (by walk_at "c") (wI xD <| uM K rfl (kv 1)) (λ_ _ _ _=>(wG uj <| uo (n:=4) K rfl rfl (wH zV <| zx (wG zF <| zi (i:=0) (show (lc:List Str).Nodup by decide +kernel)) (wH zV <| zx (wG zF <| zi (i:=1) (show (lc:List Str).Nodup by decide +kernel)) (wH zV <| zx (wG zF <| zi (i:=2) (show (lc:List Str).Nodup by decide +kernel)) (wH zV <| zx (wG zF <| zi (i:=3) (show (lc:List Str).Nodup by decide +kernel)) (wH ui xn))))))) (λ_ _ _ _=>(zbd (JW.t (wW u6 <| zbp (wT zo <| zA xg za4 (JE.bo (uL yo xC (kb 4) (kb 1) (λ_ _=>rfl))) (kb 3) (zy _)) (wW u6 <| zbp (wT zo <| zA zft zmY (kb 1) (kb 5) (by with_unfolding_all rfl)) (uY (.inl rfl) (wT zo <| zdk (JE.bo (wE zq <| yA T.q18 G18 D (za (kv 4) (za (kv 0) zd))))))))))) (λ_ _ _ _=>(wE zq <| yA T.q17 G17 D (za (kv 4) (za (kv 1) (za (kv 2) zd))))))))),λY n R O=>?_⟩
 obtain⟨rm,bk,st,hs,v,rfl,U,I,J,q,r⟩:=O;left;rcases U with rfl | ⟨rfl,rfl⟩
 ·left;exact zgW I J q r
 ·left;exact zgW I J q r
structure Gr (V:List (List Int))(g:List Int->List (List Int)):Prop where
 nd:V.Nodup
 few:V.length<=256
 sub:∀s∈V,∀t∈g s,t∈V
 snd:∀s∈V,(g s).Nodup
 gl:∀s∈V,(g s).length<=32
def ldD (V:List (List Int))(g:List Int->List (List Int)):List (List Int×Dt):=V.map λs=>(s,xL (g s))
def mkD (V:List (List Int))(c:List Int->Int):List (List Int×Dt):=V.map λs=>(s,.int (c s))
def yO {f:List Int->Dt}{s:List Int}:∀ {V:List (List Int)},s∈V->yy (V.map λs=>(s,f s)) s=some (f s)
 | v::V,h=>by
  by_cases e:v=s
  ·simp[yy,e]
  ·have:=yO (f:=f) ((aG.mp h).resolve_left λz=>e z.symm);simpa [yy,e] using this
def zgt {V:List (List Int)}{c:List Int->Int}{t:List Int}{x:Int}(h:t∈V):zeI (mkD V c) t (.int x)=mkD V λs=>if s=t then x else c s:=by
 unfold zeI mkD;rw[if_pos (fL.mpr ⟨(t,.int (c t)),az.mpr ⟨t,h,rfl⟩,a9 rfl⟩),au];refine de λs _=>?_;by_cases e:s=t
 ·simp[e]
 ·simp[e]
def zah {V:List (List Int)}{g:List Int->List (List Int)}:((ldD V g).map λq=>W.d (stD q.1))=V.map λs=>W.d (stD s):=by unfold ldD;rw[au];rfl
def zqK{rm:List Int}{s t:List Int}(B:xl rm bk)(hs:StOk rm s)(D:t∈zaz bk s []):StOk rm t:=by obtain⟨x,F,_,_,rfl⟩:=zce.mp (zag.mp D);have q:=B x F;exact zhF hs q.b0 q.b1 q.r0 q.r1
def ziJ{rm:List Int}(B:RoomOk rm)(q:xl rm bk)(D:(yh (rm.map zj)).length<=256):Gr (yh (rm.map zj)) λs=>zaz bk s [] where
 nd:=zm8 rm
 few:=D
 sub:=λs hs t F=>zkS (zqK q (zat _ _ hs) F)
 snd:=λs hs=>ztt (znZ q (zat _ _ hs).len)
 gl:=λs hs=>znY q B.few B.box (zat _ _ hs).len
def zqA  : FV:=λPn q n R=>∃ (rm:List Int) (bk:List Wi),q=[.d (stD rm),.d (xi bk)]/\(RoomOk rm)/\(xl rm bk)/\(R (.df (ldD (yh (rm.map zj)) λs=>zaz bk s [])) n)
def zqA.i{rm:List Int}(q:RoomOk rm)(B:xl rm bk)(h:R (.df (ldD (yh (rm.map zj)) λs=>zaz bk s [])) n)  : zqA Pn [.d (stD rm),.d (xi bk)] n R:=⟨rm,bk,rfl,q,B,h⟩
def x3 (T:Txt K mg t):FnOk P w K mg base CX0 3 t.f20 t.d20 lu (spV 2 false zqA):=by
 have G16:=zee (P:=P) (w:=w) (base:=base) T;have G19:=zc7 (P:=P) (w:=w) (base:=base) T;refine Fun.okW (k:=2) (fr:=false) [] 0 T.q20.F zbk rfl (by decide) rfl λI A q s H E Pn B=>⟨_,(ze (zI (zuK (zhc (xy B) (N:=["standing","room","book"]) (cix:=[none,some 0,some 1]) rfl (by walk_at "c") (wI yT <| yS K rfl (wE zq <| yA T.q16 G16 B (za (kv 0) zd))) (λ_ _ _ _=>(wG zF <| zi (i:=0) (show (["standing","room","book"]:List Str).Nodup by decide +kernel))) (λ_ _ _ _=>y1) (λ_ _ _ _=>(kb 0)) (λ_ _ _ _=>(zuJ T.q19 G19 B (za (kv 1) (za (kv 2) (za (kv 0) zd))))))))),λZ n R J=>?_⟩;obtain⟨rm,bk,rfl,D,L,r⟩:=J;left;refine zlj.i D ?_;left;refine zdS (yh (rm.map zj)) (by rw[au];rfl) (λρ=>∃a,ρ=[a,some (.d (stD rm)),some (.d (xi bk))]) (λ_=>true) (λs=>xL (zaz bk s [])) (zm8 rm) (ay (znV D) (by decide)) ⟨_,rfl⟩ ?_ ?_
 ·rintro s hs O ⟨a,rfl⟩ C U Y;left;refine zlc.i (.inr ⟨rfl,rfl⟩) D L (zat _ _ hs).len ?_;left;exact⟨_,rfl,U rfl ⟨_,rfl⟩⟩
 ·rw[dg.mpr λ_ _=>rfl];exact r
def ztF  : FV:=λPn q n R=>∃ (V:List (List Int)) (g:List Int->List (List Int)),q=[.df (ldD V g)]/\(Gr V g)/\(∀c:List Int->Int,(∀t∈V,c t=((V.flatMap g).count t:Nat))->R (.dt (mkD V c)) n)
def ztF.i{V:List (List Int)}{g:List Int->List (List Int)}(q:Gr V g)(h:∀c:List Int->Int,(∀t∈V,c t=((V.flatMap g).count t:Nat))->R (.dt (mkD V c)) n)  : ztF Pn [.df (ldD V g)] n R:=⟨V,g,rfl,q,h⟩
def zed (T:Txt K mg t):FnOk P w K mg base CX0 1 t.f21 t.d21 ["leads"] (spV 1 true ztF):=by
 refine Fun.okW (k:=0) (fr:=true) [1] 3 T.q21.F x8 rfl (by decide) rfl λag A U s H E Pn Y=>⟨_,(zb (wS yt <| zgj (i:=1) (zh6 (ix:=1) (xy Y) x8.nd rfl rfl (N:=lS) (cix:=[none]) rfl (by walk_at "c") (zh5 (kv 0)) (λ_ _ _ _=>(wG zF <| zi (i:=0) (show (lS:List Str).Nodup by decide +kernel))) (λ_ _ _ _=>y1) (λ_ _ _ _=>(kb 0)) (λ_ _ _ _=>zm)))
   (zb (zZ aF rfl (zh5 (kv 0)) (wG zF <| zi (i:=2) x8.nd) (ze (zZ aF rfl (wI yT <| yS K rfl (zd0 (xy Y) (kb 0) (kb 2) (λ_ _=>rfl))) (wG zF <| zi (i:=3) x8.nd) (ze (zjE (F:=λi j=>i+j) 1 (xy Y) (kb 3) zrm (JE.bo zm))))))
   (ze (wS zaO <| zcj 1)))),λws n R hF=>?_⟩
 obtain⟨V,g,rfl,Z,r⟩:=hF;left;have hV:=Z.few;intro _;rw[zah];refine zdS V rfl (λρ=>∃a,ρ=[a]) (λ_=>true) (λ_=>.int 0) Z.nd (ay hV (by decide)) ⟨_,rfl⟩ ?_ ?_
 ·rintro s hs al ⟨a,rfl⟩ C hY an;left;exact⟨_,rfl,hY rfl ⟨_,rfl⟩⟩
 rw[dg.mpr λ_ _=>rfl];left;intro _;rw[zah];refine zH V (λs=>W.d (stD s)) rfl (λi ρ m=>m=n/\∃ (c:List Int->Int) (v2 I:Option W),ρ=[some (.df (ldD V g)),some (.dt (mkD V c)),v2,I]/\∀t∈V,c t=(((V.take i).flatMap g).count t:Nat)) ⟨rfl,λ_=>0,_,_,rfl,by simp⟩ ?_ ?_
 ·rintro i s ρ m hs ⟨rfl,c,v2,I,rfl,D⟩ C B E hC _ _;have J:=aj hs;left;refine⟨s,rfl,y4 (yO J) ?_⟩;left;refine zH (g s) (λs=>W.d (stD s)) (by rw[au];rfl) (λj ρ m'=>m'=m/\∃ (c:List Int->Int) (I:Option W),ρ=[some (.df (ldD V g)),some (.dt (mkD V c)),some (.d (stD s)),I]/\∀t∈V,c t=(((V.take i).flatMap g++(g s).take j).count t:Nat)) ⟨rfl,c,_,rfl,by simpa using D⟩ ?_ ?_
  ·rintro j t ρ m' O ⟨rfl,c,I,rfl,D⟩ C' B' E' ad _ _;have L:=Z.sub s J t (aj O);left;refine⟨t,rfl,_,yO L,?_⟩;left;refine⟨aP (by unfold mkD;rw[ab];exact hV) (by decide),?_⟩;rw[zgt L];refine ad ⟨rfl,_,_,rfl,λz hz=>?_⟩;have:=D z hz;rw[zh O,<- b6,cY];by_cases e:z=t
   ·subst e;simp only[if_pos,List.count_singleton_self];rw[this];lia
   ·rw[if_neg e,this,List.count_singleton,if_neg (by simpa using λq=>e q.symm),Nat.add_zero]
  ·rintro ρ m' ⟨rfl,c,I,rfl,D⟩;rw[aK] at D;refine hC ⟨rfl,c,_,_,rfl,λt O=>?_⟩;rw[D t O,zh hs,List.flatMap_append];simp
 ·rintro ρ m ⟨rfl,c,v2,I,rfl,D⟩;rw[aK] at D;left;exact r c D
def ztH  : FV:=λPn q n R=>∃ (V lf:List (List Int)) (g:List Int->List (List Int)),q=[.df (ldD V g),.d (xL lf)]/\(Gr V g)/\(∀s∈lf,s∈V)/\(lf.Nodup)/\(lf≠[])/\(∀t∈lf,∃s∈lf,t∈g s)/\(∀B:List (List Int),R (.d (xL B)) n)
def ztH.i{V lf:List (List Int)}{g:List Int->List (List Int)}(q:Gr V g)(hs:∀s∈lf,s∈V)(B:lf.Nodup)(D:lf≠[])(F:∀t∈lf,∃s∈lf,t∈g s)(h:∀I:List (List Int),R (.d (xL I)) n)  : ztH Pn [.df (ldD V g),.d (xL lf)] n R:=⟨V,lf,g,rfl,q,hs,B,D,F,h⟩
def zc9 (T:Txt K mg t):FnOk P w K mg base CX0 1 t.f22 t.d22 lQ (spV 2 true ztH):=by
 refine Fun.okW (k:=0) (fr:=true) [3,6] 5 T.q22.F yg rfl (by decide) rfl λbd A a1 s H E Pn hr=>⟨_,(zb (wS zl <| zu (i:=2) yg.nd (xp (zn6 hr.units rfl) ztq (by rfl) T.b_set PyProof.Rows.boot_set (zn (kb 1) zt)))
   (zb (wS yt <| xF (i:=3) yg.nd zjC)
   (zb (zZ aF rfl (wI yT <| yS K rfl (kv 1)) (wG zF <| zi (i:=4) yg.nd) (ze (zZ aF rfl (wI yT <| yS K rfl (zd0 (xy hr) (kb 0) (kb 4) (λ_ _=>rfl))) (wG zF <| zi (i:=5) yg.nd) (ze (wS zz <| yk (wT zo <| zA (zr1 (xy hr)) zvO (kb 5) (kb 2) (by with_unfolding_all rfl)) (ze (wS zco <| zd2 3 (xy hr) (kb 5) (kv 4))) zE)))))
   (zb (wS yt <| xF (i:=6) yg.nd (xP zd))
   (zb (wS zl <| zu (i:=4) yg.nd (uL xo zbP (kb 1) (JE.bo zm) (λ_ _=>rfl)))
   (zb (zhd aF (wT zo <| zA (zfs hr.units) ztn (kb 4) (kb 6) (by with_unfolding_all rfl)) (zb (wS u7 <| zbo 6 (kv 4))
   (ze (wS zl <| zu (i:=4) yg.nd (wE yM <| xO (xy hr) (kb 3) (kb 4) (λ_ _=>rfl))))))
   (ze (zI (wE zhl <| zno (JE.bo (wE zbe <| zh4 (kb 6) (wO zC <| zL (JE.bo (zlR K rfl hr.units (kb 6) (kb 4)))) zK))))))))))),λws n R hF=>?_⟩
 obtain⟨V,lf,g,rfl,hG,hs,hN,h0,hp,r⟩:=hF;left;have hV:=hG.few;have hl:=xf hN hs;refine⟨lf,rfl,by lia,λks bk a2=>?_⟩;left;refine zH lf (λs=>W.d (stD s)) (by rw[au];rfl) (λi ρ m=>m=n/\i<=lf.length/\∃ (kvs:List (List Int×Dt)) (v4 v5:Option W),ρ=[some (.df (ldD V g)),some (.d (xL lf)),some (.ss P w ks),some (.dt kvs),v4,v5,none]/\kvs.length<=32 * i/\(∀t d,yy kvs t=some d->∃s∈lf,t∈g s/\d=stD s)/\∀s∈lf.take i,∀t∈g s,t∈lf->yy kvs t≠none) ⟨rfl,aN _,[],_,_,rfl,ai _,λt d h=>by simp[yy] at h,by simp⟩ ?_ ?_
 ·rintro i s ρ m ag ⟨rfl,bl,kvs,v4,v5,rfl,ad,L,J⟩ C B E hC _ _;have al:=aj ag;have hi:=(ac.mp ag).1;have bn:=hG.gl s (hs s al);left;refine⟨s,rfl,y4 (yO (hs s al)) ?_⟩;left;refine zH (g s) (λs=>W.d (stD s)) (by rw[au];rfl) (λj ρ m'=>m'=m/\∃ (kvs:List (List Int×Dt)) (v5:Option W),ρ=[some (.df (ldD V g)),some (.d (xL lf)),some (.ss P w ks),some (.dt kvs),some (.d (stD s)),v5,none]/\kvs.length<=32 * i+j/\(∀t d,yy kvs t=some d->∃s∈lf,t∈g s/\d=stD s)/\(∀s∈lf.take i,∀t∈g s,t∈lf->yy kvs t≠none)/\∀t∈(g s).take j,t∈lf->yy kvs t≠none) ⟨rfl,kvs,_,rfl,ad,L,J,by simp⟩ ?_ ?_
  ·rintro j t ρ m' ht ⟨rfl,kvs,v5,rfl,ad,L,J,U⟩ C' B' E' ap _ _;have hj:=(ac.mp ht).1;left;refine⟨t,ks,rfl,rfl,λc hc=>?_⟩;left;refine zgx (λh=>?_) (λh=>?_)
   ·left;refine⟨t,rfl,aP (by lia:_<=10000) (by decide),ap ⟨rfl,_,_,rfl,by have:=zgB kvs t (stD s);lia,λz d O=>?_,λz O y Y I=>?_,λy Y I=>?_⟩⟩
    ·rw[zaN] at O;by_cases e:z=t
     ·rw[if_pos e] at O;exact⟨s,al,e ▸ aj ht,(bw O).symm⟩
     ·rw[if_neg e] at O;exact L z d O
    ·rw[zaN];split
     ·exact Option.some_ne_none _
     ·exact J z O y Y I
    ·rw[zaN];split
     ·exact Option.some_ne_none _
     ·rename_i e;rw[zh ht] at Y;exact U y ((aH.mp Y).resolve_right λz=>e (aw.mp z)) I
   ·left;refine ap ⟨rfl,kvs,_,rfl,by lia,L,J,λy Y I=>?_⟩;rw[zh ht] at Y;rcases aH.mp Y with z | z
    ·exact U y z I
    ·rw[aw.mp z] at I;rw[hc.mpr ((a2 t).mpr I)] at h;cases h
  ·rintro ρ m' ⟨rfl,kvs,v5,rfl,ad,L,J,U⟩;rw[aK] at U;refine hC ⟨rfl,hi,kvs,_,_,rfl,by lia,L,λz O y Y I=>?_⟩;rw[zh ag] at O;rcases aH.mp O with q | q
   ·exact J z q y Y I
   ·rw[aw.mp q] at Y;exact U y Y I
 rintro ρ m ⟨rfl,_,kvs,v4,v5,rfl,ad,L,J⟩;rw[aK] at J
 have a3:∀t∈lf,∃s∈lf,t∈g s/\yy kvs t=some (stD s):=λt ht=>by
  obtain⟨s,h1,h2⟩:=hp t ht
  cases e:yy kvs t with
  | none=>exact absurd e (J s h1 t h2 ht)
  | some d=>
   obtain⟨s',h3,h4,rfl⟩:=L t d e;exact⟨s',h3,h4,rfl⟩
 left;obtain⟨Z,l0,rfl⟩:=List.exists_cons_of_ne_nil h0;have e0:atI ((Z::l0).map stD) 0=some (stD Z):=zdd (i:=0) rfl;refine y4 e0 ?_;left;refine znQ (λk ρ n'=>n'=m/\∃ (D:List (List Int)) (h:List Int),k=(Z::l0).length - D.length/\ρ=[some (.df (ldD V g)),some (.d (xL (Z::l0))),some (.ss P w ks),some (.dt kvs),some (.d (stD h)),v5,some (.d (xL D))]/\D.Nodup/\(∀z∈D,z∈Z::l0)/\h∈Z::l0) (Z::l0).length ⟨rfl,[],Z,rfl,rfl,.nil,by simp,ak⟩ ?_;rintro k ρ n' ⟨rfl,D,h,rfl,rfl,as,av,hh⟩ C B X hC hB hX;have bs:=xf as av;left;refine⟨zca,zgl D,λb hb=>?_⟩;left;refine znu (λhn=>?_) (λhn=>?_)
 ·have a4:h∉D:=λz=>by
   rw[hb.mpr (zgq.mpr z)] at hn;cases hn
  obtain⟨s,a5,an,a7⟩:=a3 h hh;left;refine⟨aP (by rw[ab];lia:_<=1000) (by decide),?_⟩;have e2:D.map stD++[stD h]=(D++[h]).map stD:=by rw[aE];rfl
  rw[e2];refine⟨h,rfl,y4 a7 ?_⟩
  have a0:(D++[h]).Nodup:=by rw[cr];exact⟨as,by simp,λa ha c hc e=>a4 (by rw[<- aw.mp hc,<- e];exact ha)⟩
  have an:∀z∈D++[h],z∈Z::l0:=λz O=>by
   rcases aH.mp O with q | q
   ·exact av z q
   ·rw[aw.mp q];exact hh
  have:=xf a0 an;rw[aD,dR] at this;refine hC ((Z::l0).length - (D++[h]).length) (by rw[aD,dR];lia) ⟨rfl,D++[h],s,rfl,rfl,a0,an,a5⟩
 ·have bb:stD h∈D.map stD:=hb.mp hn;refine hB ?_;left;refine⟨zca,zgl D,bb,λj bx b0=>?_⟩;left;rw[zi0,<- List.map_drop,<- List.map_reverse];exact r _
def rsV (V P:List (List Int)):List (List Int):=V.filter λs=>decide (s∉P)
def cnt (V:List (List Int))(g:List Int->List (List Int))(P:List (List Int))(t:List Int):Nat:=((rsV V P).flatMap g).count t
def zdM {g:List Int->List (List Int)}{P:List (List Int)}{h t:List Int}(F:h∉P):∀ {V:List (List Int)},V.Nodup->h∈V->cnt V g P t=cnt V g (P++[h]) t+(g h).count t
 | v::V,I,J=>by
  have q:=bT.mp I;unfold cnt rsV;by_cases e:v=h
  ·subst e
   have L:(V.filter λs=>decide (s∉P++[v]))=V.filter λs=>decide (s∉P):=List.filter_congr λs hs=>by have:s≠v:=λz=>q.1 (z ▸ hs);simp[this]
   rw[dy (by simpa using F),dz (by simp),L,ff,cY];lia
  ·have D:=zdM (g:=g) (t:=t) F q.2 ((aG.mp J).resolve_left λz=>e z.symm);unfold cnt rsV at D;by_cases B:v∈P
   ·rw[dz (by simpa using B),dz (by simp[B])];exact D
   ·rw[dy (by simpa using B),dy (by simp[B,e]),ff,ff,cY,cY,D];lia
structure Kn (V:List (List Int))(g:List Int->List (List Int))(P row:List (List Int))(d:List (List Int))(c:List Int->Int):Prop where
 nd:row.Nodup
 sub:∀z∈row,z∈V
 zero:∀t∈V,t∈row↔c t=0
 c:∀t∈V,c t=(cnt V g P t:Int) - (d.count t:Nat)
def zlh  : FV:=λPn q n R=>∃ (rm:List Int) (bk:List Wi),q=[.d (stD rm),.d (xi bk)]/\(RoomOk rm)/\(xl rm bk)/\((yh (rm.map zj)).length<=256)/\((∀B:List (List Int),R (.d (.tup [.str "ring",xL B])) n)/\∀L:List Int,L.length=(yh (rm.map zj)).length->(∀x∈L,0<=x/\x<=256)->R (.d (.tup [.str "worths",stD L])) n)
def zlh.i{rm:List Int}(q:RoomOk rm)(B:xl rm bk)(D:(yh (rm.map zj)).length<=256)(h:(∀F:List (List Int),R (.d (.tup [.str "ring",xL F])) n)/\∀L:List Int,L.length=(yh (rm.map zj)).length->(∀x∈L,0<=x/\x<=256)->R (.d (.tup [.str "worths",stD L])) n)  : zlh Pn [.d (stD rm),.d (xi bk)] n R:=⟨rm,bk,rfl,q,B,D,h⟩
def zaT (T:Txt K mg t):FnOk P w K mg base CX0 4 t.f23 t.d23 lu (spV 2 false zlh):=by
 have G20:=x3 (P:=P) (w:=w) (base:=base) T;have G21:=zed (P:=P) (w:=w) (base:=base) T;have G22:=zc9 (P:=P) (w:=w) (base:=base) T
 refine Fun.okW (k:=3) (fr:=false) [3,4,5] 8 T.q23.F zD rfl (by decide) rfl λbn A a7 s H E Pn Z=>⟨_,(zb (wS zl <| zu (i:=2) zD.nd (wE zq <| yA T.q20 G20 Z (za (kv 0) (za (kv 1) zd))))
   (zb (wS yt <| xF (i:=3) zD.nd (wE zq <| yA T.q21 G21 Z (za (kv 2) zd)))
   (zb (wS yt <| xF (i:=4) zD.nd (zhc (xy Z) (N:=lS) (cix:=[none]) rfl (by walk_at "c") (zh5 (kv 2)) (λ_ _ _ _=>(wG zF <| zi (i:=0) (show (lS:List Str).Nodup by decide +kernel))) (λ_ _ _ _=>y1) (λ_ _ _ _=>(kb 0)) (λ_ _ _ _=>zm)))
   (zb (wS yt <| zgj (i:=5) (zbU (ix:=5) zD.nd rfl rfl (N:=lC) (cix:=[none,some 3]) rfl (by walk_at "c") (zh5 (kv 2)) (λ_ _ _ _=>(wG zF <| zi (i:=0) (show (lC:List Str).Nodup by decide +kernel))) (λ_ _ _ _=>(zbd (wT zo <| zA xg za4 (JE.bo (wE yM <| xO (xy Z) (kb 1) (kb 0) (λ_ _=>rfl))) (JE.bo zm) (zy _)))) (λ_ _ _ _=>(kv 0))))
   (zb (wS zl <| zu (i:=6) zD.nd zm)
   (zb (zhd aF (wT zo <| zA zme zvP (kb 6) (JE.bo (yc yQ uT (by rfl) T.b_len aZ (zn (kb 5) zt))) (zy _)) (zb (wS zl <| zu (i:=7) zD.nd (uL xo zbP (kb 5) (kb 6) (λ_ _=>rfl)))
   (zb (zZ aF rfl (wI yT <| yS K rfl (zd0 (xy Z) (kb 2) (kb 7) (λ_ _=>rfl))) (wG zF <| zi (i:=8) zD.nd) (zb (wS zco <| zd2 4 (xy Z) (kb 8) (yc (zn5 rfl) zvQ (by rfl) T.b_max PyProof.Rows.boot_max (zn (JE.bo (wE yM <| xO (xy Z) (kb 4) (kb 8) (λ_ _=>rfl))) (zn (JE.bo (y9 yi uz (JE.bo (wE yM <| xO (xy Z) (kb 4) (kb 7) (λ_ _=>rfl))) (JE.bo zm))) zt))))
   (zb (zjE (F:=λi j=>i - j) 3 (xy Z) (kb 8) zrn (JE.bo zm))
   (ze (wS zz <| yk (wT zo <| zA xg za4 (JE.bo (wE yM <| xO (xy Z) (kb 3) (kb 8) (λ_ _=>rfl))) (JE.bo zm) (zy _)) (ze (wS u7 <| zbo 5 (kv 8))) zE)))))
   (ze (zry (F:=λi j=>i+j) (i:=6) zD.nd zro (JE.bo zm))))))
   (zb (wS zl <| zjG (i:=9) (zbU (ix:=9) zD.nd rfl rfl (N:=lC) (cix:=[none,some 3]) rfl (by walk_at "c") (zh5 (kv 2)) (λ_ _ _ _=>(wG zF <| zi (i:=0) (show (lC:List Str).Nodup by decide +kernel))) (λ_ _ _ _=>(zbd (wT zo <| zA zkh zvM (JE.bo (wE yM <| xO (xy Z) (kb 1) (kb 0) (λ_ _=>rfl))) (JE.bo zm) (zy _)))) (λ_ _ _ _=>(kv 0))))
   (zb (wS zz <| yk (wT zo3 <| zlU (kb 9)) (ze (zI (yr (za zjD (za (wE zq <| yA T.q22 G22 Z (za (kv 2) (za (kv 9) zd))) zd))))) zE)
   (ze (zI (yr (za zjD (za (xp yH zax (by rfl) T.b_tuple bu (zn (JE.bo (um (N:=["standing","longest"]) (cix:=[none,some 4]) rfl (by walk_at "c") (zh5 (kv 2)) (λ_ _ _ _=>(wG zF <| zi (i:=0) (show (["standing","longest"]:List Str).Nodup by decide +kernel))) (λ_ _ _ _=>y1) (λ_ _ _ _=>(wE yM <| xO (xy Z) (kb 1) (kb 0) (λ_ _=>rfl))))) zt)) zd))))))))))))),λws n R hF=>?_⟩
 obtain⟨rm,bk,rfl,hR,hB,hq,r⟩:=hF;left;obtain⟨rR,rW⟩:=r;have hG:=ziJ hR hB hq;refine zqA.i hR hB ?_;left;generalize yh (rm.map zj)=V at *;generalize (λs=>zaz bk s [])=g at *;have hV:=hG.few;refine ztF.i hG λc0 bb=>?_;left;intro _;rw[zah];refine zdS V rfl (λρ=>∃a,ρ=[a]) (λ_=>true) (λ_=>.int 0) hG.nd (ay hV (by decide)) ⟨_,rfl⟩ ?_ ?_
 ·rintro s hs as ⟨a,rfl⟩ C hY ag;left;exact⟨_,rfl,hY rfl ⟨_,rfl⟩⟩
 rw[dg.mpr λ_ _=>rfl];left;intro _;rw[zah];refine zdN V (λs=>W.d (stD s)) rfl (λρ=>∃a,ρ=[a,some (.dt (mkD V c0))]) (λs=>decide (c0 s=0)) (λs=>stD s) (ay hV (by decide)) ⟨_,rfl⟩ ?_ ?_
 ·rintro s hs as ⟨a,rfl⟩ C hY ag;left;refine⟨s,rfl,y4 (yO hs) ?_⟩;left;exact yU (λz=>hY (a9 z) ⟨_,rfl⟩) (λz=>ag (ba z) ⟨_,rfl⟩)
 left
 have k0:Kn V g [] (V.filter λs=>decide (c0 s=0)) [] c0:=⟨hG.nd.filter _,λz hz=>(bv.mp hz).1,λt ht=>by simp[bv,ht],λt ht=>by rw[bb t ht];unfold cnt rsV;rw[dg.mpr λ_ _=>by simp];simp⟩
 refine znQ (λk ρ n'=>n'=n/\∃ (D:List (List Int)) (a:Nat) (c L:List Int->Int) (v7 v8:Option W),k=V.length - a/\ρ=[some (.d (stD rm)),some (.d (xi bk)),some (.df (ldD V g)),some (.dt (mkD V c)),some (.dt (mkD V L)),some (.d (xL D)),some (.d (.int (a:Int))),v7,v8,none]/\a<=D.length/\Kn V g (D.take a) D [] c/\∀t∈V,0<=L t/\L t<=a) V.length ⟨rfl,_,0,c0,λ_=>0,_,_,rfl,rfl,aN _,k0,λ_ _=>⟨Int.le_refl _,Int.le_refl _⟩⟩ ?_;rintro k ρ n' ⟨rfl,D,a,c,L,v7,v8,rfl,rfl,al,I,hL⟩ C B X hC bd hX;have a1:=xf I.nd I.sub;left;rw[ab];refine yU (λbs=>?_) (λbx=>?_)
 ·have ha:a<D.length:=by lia
  obtain⟨h,hh⟩:∃h,D[a]?=some h:=⟨_,ah ha⟩;have bl:=aj hh;have Y:=I.sub h bl
  have a2:h∉D.take a:=λz=>by
   have:=I.nd;rw[<- dU a D,cr] at this;refine this.2.2 h z h ?_ rfl;rw[c9 ha];have e:D[a]=h:=by rw[ah ha] at hh;exact bw hh
   rw[e];exact ak
  generalize hP:D.take a=P at *;left;refine y4 (show atI (D.map stD) (a:Int)=some (stD h) from zdd (by rw[am,hh];rfl)) ?_;left;refine⟨h,rfl,y4 (yO Y) ?_⟩;left;refine zH (g h) (λs=>W.d (stD s)) (by rw[au];rfl) (λj ρ m'=>m'=n'/\∃ (D:List (List Int)) (c L:List Int->Int) (v8:Option W),ρ=[some (.d (stD rm)),some (.d (xi bk)),some (.df (ldD V g)),some (.dt (mkD V c)),some (.dt (mkD V L)),some (.d (xL D)),some (.d (.int (a:Int))),some (.d (stD h)),v8,none]/\D[a]?=some h/\D.take a=P/\Kn V g P D ((g h).take j) c/\L h<=a/\∀t∈V,0<=L t/\L t<=a+1) ⟨rfl,D,c,L,_,rfl,hh,hP,by simpa using I,(hL h Y).2,λt ht=>by have:=hL t ht;lia⟩ ?_ ?_
  ·rintro j t ρ m' ht ⟨rfl,D,c,L,v8,rfl,J,an,I,av,hL⟩ C' B' E' ap _ _;have a3:=aj ht;have O:=hG.sub h Y t a3;have a1:=xf I.nd I.sub;have al:=(ac.mp J).1
   have c1:((g h).take j).count t=0:=by
    have:=hG.snd h Y;rw[<- dU j (g h),cr] at this;refine List.count_eq_zero.mpr λz=>this.2.2 t z t ?_ rfl;have hj:=(ac.mp ht).1;rw[c9 hj];have e:(g h)[j]=t:=by rw[ah hj] at ht;exact bw ht
    rw[e];exact ak
   have c2:=zdM (g:=g) (t:=t) a2 hG.nd Y;have c3:0<(g h).count t:=List.count_pos_iff.mpr a3;have c4:=I.c t O
   have a0:t∉D:=λz=>by have:=(I.zero t O).mp z;lia
   have a4:h≠t:=λz=>a0 (z ▸ aj J)
   have a5:∀z∈V,0<=(if z=t then if L h+1 > L t then L h+1 else L t else L z)/\(if z=t then if L h+1 > L t then L h+1 else L t else L z)<=a+1:=λz hz=>by
    have l1:=hL z hz;have l2:=hL h Y;have l3:=hL t O;split
    ·split <;> lia
    ·lia
   have ct:∀z,((g h).take (j+1)).count z=((g h).take j).count z+if t=z then 1 else 0:=λz=>by
    rw[zh ht,cY,List.count_singleton];by_cases e:t=z
    ·simp[e]
    ·simp[e]
   left;refine⟨t,rfl,y4 (yO O) ?_⟩;left;refine⟨h,rfl,y4 (yO Y) ?_⟩;left;refine⟨t,rfl,aP (by unfold mkD;rw[ab];exact hV) (by decide),?_⟩;rw[zgt O];refine⟨t,rfl,_,yO O,?_⟩;left;refine⟨aP (by unfold mkD;rw[ab];exact hV) (by decide),?_⟩;rw[zgt O];left;refine⟨t,rfl,y4 (yO O) ?_⟩;left;refine yU (λhz=>?_) (λhz=>?_)
   ·rw[if_pos rfl] at hz;left;refine⟨aP (by rw[ab];lia:_<=1000) (by decide),?_⟩;have e2:D.map stD++[stD t]=(D++[t]).map stD:=by rw[aE];rfl
    rw[e2];refine ap ⟨rfl,D++[t],_,_,_,rfl,by rw[a8 al];exact J,by rw[List.take_append_of_le_length (by lia)];exact an,⟨?_,λz U=>?_,λz U=>?_,λz U=>?_⟩,by rw[if_neg a4];exact av,a5⟩
    ·rw[cr];exact⟨I.nd,by simp,λa ha c hc e=>a0 (by rw[<- aw.mp hc,<- e];exact ha)⟩
    ·rcases aH.mp U with q | q
     ·exact I.sub z q
     ·rw[aw.mp q];exact O
    ·rw[aH,aw];by_cases e:z=t
     ·subst e;rw[if_pos rfl];exact⟨λ_=>by lia,λ_=>.inr rfl⟩
     ·rw[if_neg e,<- I.zero z U];exact⟨λq=>q.resolve_right e,.inl⟩
    ·have:=I.c z U;rw[ct z];by_cases e:z=t
     ·subst e;rw[if_pos rfl,if_pos rfl];lia
     ·rw[if_neg e,if_neg λq=>e q.symm];lia
   ·rw[if_pos rfl] at hz;left;refine ap ⟨rfl,D,_,_,_,rfl,J,an,⟨I.nd,I.sub,λz U=>?_,λz U=>?_⟩,by rw[if_neg a4];exact av,a5⟩
    ·by_cases e:z=t
     ·subst e;rw[if_pos rfl];exact⟨λq=>absurd q a0,λq=>absurd (by lia) hz⟩
     ·rw[if_neg e];exact I.zero z U
    ·have:=I.c z U;rw[ct z];by_cases e:z=t
     ·subst e;rw[if_pos rfl,if_pos rfl];lia
     ·rw[if_neg e,if_neg λq=>e q.symm];lia
  ·rintro ρ m' ⟨rfl,D,c,L,v8,rfl,J,an,I,av,hL⟩;rw[aK] at I;have al:=(ac.mp J).1;have a1:=xf I.nd I.sub;left;refine hC (V.length - (a+1)) (by lia) ⟨rfl,D,a+1,c,L,_,_,rfl,rfl,al,⟨I.nd,I.sub,I.zero,λz hz=>?_⟩,λz hz=>by have:=hL z hz;lia⟩;have:=I.c z hz;have c2:=zdM (g:=g) (t:=z) a2 hG.nd Y;rw[zh J,an];simp only[List.count_nil];lia
 ·have J:D.take a=D:=bY (by lia);rw[J] at I;refine bd ?_;left;intro _;rw[zah];refine zdN V (λs=>W.d (stD s)) rfl (λρ=>∃a,ρ=[a,some (.dt (mkD V c))]) (λs=>decide (0<c s)) (λs=>stD s) (ay hV (by decide)) ⟨_,rfl⟩ ?_ ?_
  ·rintro s hs as ⟨a,rfl⟩ C hY ag;left;refine⟨s,rfl,y4 (yO hs) ?_⟩;left;exact yU (λz=>hY (a9 z) ⟨_,rfl⟩) (λz=>ag (ba z) ⟨_,rfl⟩)
  left;have ad:∀t,t∈(V.filter λs=>decide (0<c s))↔t∈V/\0<c t:=λt=>by simp[bv]
  cases ef:V.filter λs=>decide (0<c s) with
  | nil=>
   with_reducible refine zo6 ?_ ?_
   ·rfl
   left;intro _;rw[zah];refine zaC V (λs=>W.d (stD s)) rfl (λρ=>∃a,ρ=[a,some (.dt (mkD V L))]) (λs=>.int (L s)) (ay hV (by decide)) ⟨_,rfl⟩ ?_ ?_
   ·rintro s hs as ⟨a,rfl⟩ C ap;left;refine⟨s,rfl,y4 (yO hs) ?_⟩;left;exact ap ⟨_,rfl⟩
   left
   have:=rW (V.map L) (by rw[ab]) λx hx=>by obtain⟨s,hs,rfl⟩:=az.mp hx;have:=hL s hs;lia
   unfold stD at this;rwa[au] at this
  | cons x l=>
   rw[ef] at ad;have hs:=λs hs=>(ad s).mp hs;with_reducible refine zo7 ?_ ?_
   ·rfl
   left;refine ztH.i (lf:=x::l) hG (λs h=>(hs s h).1) (ef ▸ hG.nd.filter _) (by simp) (λt ht=>?_) λrd=>?_
   ·obtain⟨h1,h2⟩:=hs t ht;have:=I.c t h1;simp only[List.count_nil] at this;have hc:0<cnt V g D t:=by lia
    obtain⟨s,h3,h4⟩:=fM.mp (List.count_pos_iff.mp hc);obtain⟨h5,h6⟩:=bv.mp h3;have h7:s∉D:=b7 h6;have h8:=I.c s h5;simp only[List.count_nil] at h8;have h9:c s≠0:=λz=>h7 ((I.zero s h5).mpr z);exact⟨s,(ad s).mpr ⟨h5,by lia⟩,h4⟩
   ·left;exact rR rd
def zfN:Dt->Bool
 | .int _=>true
 | _=>false
def ztI  : FV:=λPn q n R=>∃ (d:Dt),q=[.d d]/\(R (.d (.bl (zfN d))) n)
def ztI.i(h:R (.d (.bl (zfN d))) n)  : ztI Pn [.d d] n R:=⟨d,rfl,h⟩
def zfp (T:Txt K mg t):FnOk P w K mg base CX0 1 t.f24 t.d24 ["thing"] (spV 1 false ztI):=by refine Fun.okW (k:=0) (fr:=false) [] 0 T.q24.F zgI rfl (by decide) rfl λB A q s H E Pn I=>⟨_,(ze (zI (wE zl3 <| zuH (JE.bo (wE zcp <| ze9 (by rfl) T.b_isinstance T.b_int (kb 0))) (zuM (wE zl7 <| zuL (JE.bo (wE zcp <| uE (by rfl) T.b_isinstance T.b_bool (kb 0)))))))),λJ n R D=>?_⟩;obtain⟨d,rfl,r⟩:=D;left;cases d <;> exact r
def zlf  : FV:=λPn q n R=>∃ (rm:List Int),q=[.d (stD rm)]/\(∀r∈rm,2<=r/\r<=4)/\(R (.d (.int (yu rm))) n)
def zlf.i{rm:List Int}(q:∀r∈rm,2<=r/\r<=4)(h:R (.d (.int (yu rm))) n)  : zlf Pn [.d (stD rm)] n R:=⟨rm,rfl,q,h⟩
def zc8 (T:Txt K mg t):FnOk P w K mg base CX0 1 t.f25 t.d25 lP (spV 1 false zlf):=by
 refine Fun.okW (k:=0) (fr:=false) [] 2 T.q25.F xK rfl (by decide) rfl λI A q s H E Pn U=>⟨_,(zb (wS zl <| zu (i:=1) xK.nd zm)
   (zb (zZ aF rfl (wI xD <| uM K rfl (kv 0)) (wG zF <| zi (i:=2) xK.nd) (ze (wS zl <| zu (i:=1) xK.nd (y9 zar zqn (kb 1) (kb 2)))))
   (ze (zI (kv 1))))),λY n R J=>?_⟩
 obtain⟨rm,rfl,L,r⟩:=J;left;refine zH rm (λi=>.d (.int i)) (by rw[au];rfl) (λi ρ m=>m=n/\∃v,ρ=[some (.d (stD rm)),some (.d (.int (yu (rm.take i)))),v]) ⟨rfl,none,rfl⟩ ?_ ?_
 ·rintro i a ρ m D ⟨rfl,v,rfl⟩ C B E O _ _;have Z:=L a (aj D);left;refine⟨.inr ⟨by lia,by lia⟩,O ⟨rfl,some (.d (.int a)),?_⟩⟩;rw[zh D,xN]
 ·rintro ρ m ⟨rfl,v,rfl⟩;rw[aK];left;exact r
def zlg  : FV:=λPn q n R=>∃ (rm st:List Int),q=[.d (stD rm),.d (stD st)]/\(RoomOk rm)/\(st.length=rm.length)/\(R (.d (.int (zbM 0 rm st))) n)
def zlg.i{rm st:List Int}(q:RoomOk rm)(B:st.length=rm.length)(h:R (.d (.int (zbM 0 rm st))) n)  : zlg Pn [.d (stD rm),.d (stD st)] n R:=⟨rm,st,rfl,q,B,h⟩
def zid (T:Txt K mg t):FnOk P w K mg base CX0 1 t.f26 t.d26 lO (spV 2 false zlg):=by
 refine Fun.okW (k:=0) (fr:=false) [] 3 T.q26.F zae rfl (by decide) rfl λU A J s H E Pn hr=>⟨_,(zb (wS zl <| zu (i:=2) zae.nd zm)
   (zb (zZ aF rfl (wI zoU <| zrx rfl T.b_zip (za (kv 0) (za (kv 1) zd))) (wG uj <| uo (n:=2) K rfl rfl (wH zV <| zx (wG zF <| zi (i:=3) zae.nd) (wH zV <| zx (wG zF <| zi (i:=4) zae.nd) (wH ui xn)))) (ze (wS zl <| zu (i:=2) zae.nd (y9 yi uz (JE.bo (y9 zar zqn (kb 2) (kb 3))) (kb 4)))))
   (ze (zI (kv 2))))),λws n R Y=>?_⟩
 obtain⟨rm,st,rfl,Z,D,r⟩:=Y;left;refine⟨by rw[ab,ab,D],?_⟩;refine zH (rm.zip st) (λq=>.d (zan q)) (zhL rm st) (λi ρ m=>m=n/\∃L O,ρ=[some (.d (stD rm)),some (.d (stD st)),some (.d (.int (zbM 0 (rm.take i) (st.take i)))),L,O]) ⟨rfl,_,_,rfl⟩ ?_ ?_
 ·rintro i q ρ m I ⟨rfl,L,O,rfl⟩ C B E hC _ _;rw[List.getElem?_zip_eq_some] at I;have hb:=Z.box q.1 (aj I.1);left;refine⟨.inr ⟨by lia,by lia⟩,?_⟩;left;refine hC ⟨rfl,some (.d (.int q.1)),some (.d (.int q.2)),?_⟩;rw[zh I.1,zh I.2,zbf (by rw[aQ,aQ,D])]
 ·rintro ρ m ⟨rfl,L,O,rfl⟩;have e:(rm.zip st).length=rm.length:=by rw[List.length_zip,D];lia
  rw[e,aK,<- D,aK];left;exact r
def WsOk (N:Nat)(d:Dt):Prop:=∃q:List Int,d=stD q/\q.length=N
def zbm:∀ {l:List Dt},(∀d∈l,zfN d=true)->∃q:List Int,l=q.map .int
 | [],_=>⟨[],rfl⟩
 | d::l,h=>by obtain⟨q,rfl⟩:=zbm λx B=>h x (ao _ B);have:=h d ak;cases d <;> first | exact⟨_::q,rfl⟩ | cases this
def ztD  : FV:=λPn q n R=>∃ (rm:List Int) (d:Dt),q=[.d (stD rm),.d d]/\(RoomOk rm)/\(∀b:Bool,(b=true↔WsOk (yh (rm.map zj)).length d)->R (.d (.bl b)) n)
def ztD.i{rm:List Int}(q:RoomOk rm)(h:∀b:Bool,(b=true↔WsOk (yh (rm.map zj)).length d)->R (.d (.bl b)) n)  : ztD Pn [.d (stD rm),.d d] n R:=⟨rm,d,rfl,q,h⟩
def zc6 (T:Txt K mg t):FnOk P w K mg base CX0 2 t.f27 t.d27 lR (spV 2 false ztD):=by
 have G24:=zfp (P:=P) (w:=w) (base:=base) T;have G25:=zc8 (P:=P) (w:=w) (base:=base) T
 refine Fun.okW (k:=1) (fr:=false) [] 1 T.q27.F za1 rfl (by decide) rfl λY A I s H E Pn J=>⟨_,(zb (wS zz <| yk (JW.t (wW zhk <| zlV (wT zd8 <| zhe (wT zo <| zdk (JE.bo (wE zcp <| zc1 (by rfl) T.b_isinstance T.b_tuple (kb 1))))) (uY (.inr rfl) (wT zo <| zA zei zmW (JE.bo (yc yQ uT (by rfl) T.b_len aZ (zn (kb 1) zt))) (JE.bo (wE zq <| yA T.q25 G25 J (za (kv 0) zd))) (zy _))))) (ze (zI zeH)) zE)
   (zb (zZ aF rfl (wI xD <| uM K rfl (kv 1)) (wG zF <| zi (i:=2) za1.nd) (ze (wS zz <| yk (wT zd8 <| zhe (wT zo <| zdk (JE.bo (wE zq <| yA T.q24 G24 J (za (kv 2) zd))))) (ze (zI zeH)) zE)))
   (ze (zI zeH)))),λq n R Z=>?_⟩
 obtain⟨rm,d,rfl,L,r⟩:=Z;left;have hN:=xm rm λn hn=>by have:=L.box n hn;lia
 have no:(∀l,d≠.tup l)->R (.d (.bl false)) n:=λh=>r false ⟨λz=>(by cases z),λ⟨q,e,_⟩=>absurd e (h _)⟩
 cases d with
 | tup l=>
  left;refine zlf.i L.box ?_;left;refine zef (λh=>?_) (λh=>?_)
  ·left;refine r false ⟨λz=>(by cases z),?_⟩;rintro⟨q,e,h2⟩;cases e;rw[ab] at h;lia
  ·left;have hl:l.length=(yh (rm.map zj)).length:=by lia
   refine zH l (λd=>W.d d) rfl (λi ρ m=>m=n/\∃v,ρ=[some (.d (stD rm)),some (.d (.tup l)),v]/\∀d∈l.take i,zfN d=true) ⟨rfl,_,rfl,by simp⟩ ?_ ?_
   ·rintro i a ρ m O ⟨rfl,v,rfl,D⟩ C B E hC _ hE;left;refine ztI.i ?_;left;refine zgx (λh=>?_) (λh=>?_)
    ·left;refine hC ⟨rfl,_,rfl,λd U=>?_⟩;rw[zh O] at U;rcases aH.mp U with z | z
     ·exact D d z
     ·rw[aw.mp z];exact h
    ·left;refine hE (r false ⟨λz=>(by cases z),?_⟩);rintro⟨q,e,h2⟩;cases e;obtain⟨x,_,rfl⟩:=az.mp (aj O);cases h
   ·rintro ρ m ⟨rfl,v,rfl,D⟩;rw[aK] at D;left;obtain⟨q,rfl⟩:=zbm D;exact r true ⟨λ_=>⟨q,rfl,by rwa[ab] at hl⟩,λ_=>rfl⟩
 | _=>
  left;exact no (by simp)
def zqD (V:List (List Int))(g:List Int->List (List Int))(d:Dt):Prop:=∃q:List Int,d=stD q/\q.length=V.length/\∀ (i k:Nat) (s t:List Int),V[i]?=some s->V[k]?=some t->t∈g s->q.getD i 0<q.getD k 0
def zbZ  : FV:=λPn q n R=>∃ (rm:List Int) (bk:List Wi) (d:Dt),q=[.d (stD rm),.d (xi bk),.d d]/\(RoomOk rm)/\(xl rm bk)/\((yh (rm.map zj)).length<=256)/\(∀b:Bool,(b=true↔zqD (yh (rm.map zj)) (λs=>zaz bk s []) d)->R (.d (.bl b)) n)
def zbZ.i{rm:List Int}(q:RoomOk rm)(B:xl rm bk)(D:(yh (rm.map zj)).length<=256)(h:∀b:Bool,(b=true↔zqD (yh (rm.map zj)) (λs=>zaz bk s []) d)->R (.d (.bl b)) n)  : zbZ Pn [.d (stD rm),.d (xi bk),.d d] n R:=⟨rm,bk,d,rfl,q,B,D,h⟩
def zcu (T:Txt K mg t):FnOk P w K mg base CX0 4 t.f28 t.d28 lK (spV 3 false zbZ):=by
 have G26:=zid (P:=P) (w:=w) (base:=base) T;have G20:=x3 (P:=P) (w:=w) (base:=base) T;have G27:=zc6 (P:=P) (w:=w) (base:=base) T
 refine Fun.okW (k:=3) (fr:=false) [] 4 T.q28.F yZ rfl (by decide) rfl λa2 A an s H E Pn hr=>⟨_,(zb (wS zz <| yk (wT zd8 <| zhe (wT zo <| zdk (JE.bo (wE zq <| yA T.q27 G27 hr (za (kv 0) (za (kv 2) zd)))))) (ze (zI zeH)) zE)
   (zb (wS zl <| zu (i:=3) yZ.nd (wE zq <| yA T.q20 G20 hr (za (kv 0) (za (kv 1) zd))))
   (zb (zZ aF rfl (zlT rfl T.b_enumerate (za (kv 3) zd)) (wG uj <| uo (n:=2) K rfl rfl (wH zV <| zx (wG zF <| zi (i:=4) yZ.nd) (wH zV <| zx (wG zF <| zi (i:=5) yZ.nd) (wH ui xn)))) (ze (zZ aF rfl (wI yT <| yS K rfl (zd0 (xy hr) (kb 3) (kb 5) (λ_ _=>rfl))) (wG zF <| zi (i:=6) yZ.nd) (ze (wS zz <| yk (wT zo <| zA zmd zt3 (JE.bo (uL yo xC (kb 2) (JE.bo (wE zq <| yA T.q26 G26 hr (za (kv 0) (za (kv 6) zd)))) (λ_ _=>rfl))) (JE.bo (uL yo xC (kb 2) (kb 4) (λ_ _=>rfl))) (zy _)) (ze (zI zeH)) zE)))))
   (ze (zI zeH))))),λD n R hF=>?_⟩
 obtain⟨rm,bk,d,rfl,Y,hB,hq,r⟩:=hF;left;have hG:=ziJ Y hB hq;refine ztD.i Y λb hb=>?_;left;refine zgx (λh=>?_) (λh=>?_);rotate_left
 ·left;refine r false ⟨λz=>(by cases z),λ⟨D,e,h2,_⟩=>?_⟩;rw[hb.mpr ⟨D,e,h2⟩] at h;cases h
 obtain⟨D,rfl,hl⟩:=hb.mp h;left;refine zqA.i Y hB ?_;left;intro _;have L:(ldD (yh (rm.map zj)) λs=>zaz bk s []).map (·.1)=yh (rm.map zj):=by unfold ldD;rw[au];exact List.map_id _
 rw[L];have ap:∀d,stD D=stD d->D=d:=λd e=>zkR e;refine zH (List.range (yh (rm.map zj)).length) (λk:Nat=>W.d (.tup [.int (k:Int),stD ((yh (rm.map zj)).getD k [])])) (zf3 _) (λi ρ m=>m=n/\∃v4 v5 I,ρ=[some (.d (stD rm)),some (.d (xi bk)),some (.d (stD D)),some (.df (ldD (yh (rm.map zj)) λs=>zaz bk s [])),v4,v5,I]/\∀ (O k:Nat) (s t:List Int),O<i->(yh (rm.map zj))[O]?=some s->(yh (rm.map zj))[k]?=some t->t∈zaz bk s []->D.getD O 0<D.getD k 0) ⟨rfl,_,_,_,rfl,λO k s t h=>by lia⟩ ?_ ?_
 ·rintro i x ρ m hx ⟨rfl,v4,v5,I,rfl,hI⟩ C B E hC _ hE;obtain⟨J,Z⟩:=ac.mp hx;rw[aA] at J;rw[bF] at Z;subst Z;have hs:(yh (rm.map zj))[i]?=some ((yh (rm.map zj)).getD i []):=by rw[ah J];simp[J]
  generalize a3:(yh (rm.map zj)).getD i []=s at hs;have ad:=aj hs;left;refine⟨s,rfl,y4 (yO ad) ?_⟩;left;refine zH (zaz bk s []) (λs=>W.d (stD s)) (by rw[au];rfl) (λj ρ m'=>m'=m/\∃I,ρ=[some (.d (stD rm)),some (.d (xi bk)),some (.d (stD D)),some (.df (ldD (yh (rm.map zj)) λs=>zaz bk s [])),some (.d (.int (i:Int))),some (.d (stD s)),I]/\∀ (k:Nat) (t:List Int),(yh (rm.map zj))[k]?=some t->t∈(zaz bk s []).take j->D.getD i 0<D.getD k 0) ⟨rfl,_,rfl,λk t _ h=>by simp at h⟩ ?_ ?_
  ·rintro j t ρ m' ht ⟨rfl,I,rfl,hJ⟩ C' B' E' as _ av;have ag:=aj ht;have al:=hG.sub s ad t ag;obtain⟨z0,z1⟩:=zqG Y al;have hz:=(ac.mp z1).1;left;refine zlg.i Y (zat _ _ al).len ?_;left;refine onA z0 (by lia) ?_;left;refine onA (by lia) (by lia) ?_;left;have e1:yV D (zbM 0 rm t)=D.getD (zbM 0 rm t).toNat 0:=rfl;have e2:yV D (i:Int)=D.getD i 0:=rfl;refine yU (λa0=>?_) (λa1=>?_)
   ·left;refine av (hE (r false ⟨λz=>(by cases z),λ⟨ws',e,h2,U⟩=>?_⟩));have:=ap _ e;subst this;have:=U i _ s t hs z1 ag;rw[e1,e2] at a0;lia
   ·left;refine as ⟨rfl,_,rfl,λk y L hy=>?_⟩;rw[zh ht] at hy;rcases aH.mp hy with q | q
    ·exact hJ k y L q
    ·rw[aw.mp q] at L;have:=(List.getElem?_inj (ac.mp L).1 hG.nd).mp (L.trans z1.symm);rw[e1,e2,<- this] at a1;lia
  ·rintro ρ m' ⟨rfl,I,rfl,hJ⟩;rw[aK] at hJ;refine hC ⟨rfl,_,_,_,rfl,λO k s' t hi h1 h2 U=>?_⟩;rcases cJ.mp hi with q | q
   ·exact hI O k s' t q h1 h2 U
   ·subst q;rw[hs] at h1;cases h1;exact hJ k t h2 U
 ·rintro ρ m ⟨rfl,v4,v5,I,rfl,hI⟩;rw[aA] at hI;left;exact r true ⟨λ_=>⟨D,rfl,hl,λi k s t h1 h2 U=>hI i k s t (ac.mp h1).1 h1 h2 U⟩,λ_=>rfl⟩
def zgQ  : FV:=λPn q n R=>∃ (rm:List Int) (bk:List Wi) (st:List Int),q=[.d (xi bk),.d (stD st)]/\(RoomOk rm)/\(xl rm bk)/\(st.length=rm.length)/\(R (.d (xL (zaz bk st []))) n)
def zgQ.i{rm:List Int}{st:List Int}(B:RoomOk rm)(D:xl rm bk)(q:st.length=rm.length)(h:R (.d (xL (zaz bk st []))) n)  : zgQ Pn [.d (xi bk),.d (stD st)] n R:=⟨rm,bk,st,rfl,B,D,q,h⟩
def zc5 (T:Txt K mg t):FnOk P w K mg base CX0 1 t.f29 t.d29 lw (spV 2 true zgQ):=by
 refine Fun.okW (k:=0) (fr:=true) [2] 6 T.q29.F yv rfl (by decide) rfl λa0 A ap s H E Pn hr=>⟨_,(zb (wS yt <| xF (i:=2) yv.nd (xP zd))
   (zb (zZ aF rfl (wI xD <| uM K rfl (kv 0)) (wG uj <| uo (n:=4) K rfl rfl (wH zV <| zx (wG zF <| zi (i:=3) yv.nd) (wH zV <| zx (wG zF <| zi (i:=4) yv.nd) (wH zV <| zx (wG zF <| zi (i:=5) yv.nd) (wH zV <| zx (wG zF <| zi (i:=6) yv.nd) (wH ui xn)))))) (ze (wS zz <| yk (JW.t (wW u6 <| zbp (wT zo <| zA xg za4 (JE.bo (uL yo xC (kb 1) (kb 4) (λ_ _=>rfl))) (kb 6) (zy _)) (uY (.inl rfl) (wT zo <| zdk (JE.bo (yc (zqR rfl) zvK (by rfl) T.b_all PyProof.Rows.boot_all (zn (JE.bo (um (N:=ln) (cix:=[none,none,some 1]) rfl (by walk_at "c") (wI xD <| uM K rfl (kv 3)) (λ_ _ _ _=>(wG uj <| uo (n:=2) K rfl rfl (wH zV <| zx (wG zF <| zi (i:=0) (show (ln:List Str).Nodup by decide +kernel)) (wH zV <| zx (wG zF <| zi (i:=1) (show (ln:List Str).Nodup by decide +kernel)) (wH ui xn))))) (λ_ _ _ _=>y1) (λ_ _ _ _=>(zrt xg za4 (JE.bo (uL yo xC (kb 2) (kb 0) (λ_ _=>rfl))) (kb 1) (zy _))))) zt))))))) (zb (wS zl <| zu (i:=7) yv.nd (y9 zS yE (JE.bo (y9 zS yE (JE.bo (wE zT <| xI (kb 1) zK (wO zC <| zL (kb 4)))) (JE.bo (yr (za (kv 5) zd))))) (JE.bo (wE zT <| xI (kb 1) (wO zC <| zL (JE.bo (y9 yi uz (kb 4) (JE.bo zm)))) zK))))
   (ze (wS zz <| yk (wT zo <| zA (zfs hr.units) ztn (kb 7) (kb 2) (by with_unfolding_all rfl)) (ze (wS u7 <| zbo 2 (kv 7))) zE))) zE)))
   (ze (zI (yc zn7 zqq (by rfl) T.b_sorted dl (zn (kb 2) zt)))))),λws n R hF=>?_⟩
 obtain⟨rm,bk,st,rfl,hR,hB,J,r⟩:=hF;left;have h8:=hR.few;refine zH bk (λx=>W.d (yw x)) (by rw[au];rfl) (λi ρ m=>m=n/\∃ (l:List (List Int)) (O U Y Z v7:Option W),ρ=[some (.d (xi bk)),some (.d (stD st)),some (.d (.lst (l.map stD))),O,U,Y,Z,v7]/\l.Nodup/\(∀z,z∈l↔z∈zaF (bk.take i) st [])) ⟨rfl,[],_,_,_,_,_,rfl,.nil,by simp[zaF]⟩ ?_ ?_
 ·rintro i x ρ m hx ⟨rfl,l,O,U,Y,Z,v7,rfl,L,I⟩ C B E hC _ _;have hW:=hB x (aj hx);have b0:=hW.b0;have b1:=hW.b1
  have as:∀q∈x.g,0<=q.1/\q.1<st.length:=λq hq=>by have:=hW.giv.ok q hq;rw[J];exact⟨this.1,this.2.1⟩
  have ad:zbc st x=false->∀O U Y Z v7,C [some (.d (xi bk)),some (.d (stD st)),some (.d (.lst (l.map stD))),O,U,Y,Z,v7] m:=λhg O U Y Z v7=>by refine hC ⟨rfl,l,_,_,_,_,_,rfl,L,λz=>?_⟩;rw[I z,zh hx,zdi,hg];simp
  left;refine onA b0 (by lia) ?_;left;refine yU (λhw=>?_) (λhw=>⟨ad (by unfold zbc;rw[ba hw];rfl) _ _ _ _ _⟩);left;refine zaC x.g (λq=>.d (zan q)) (by rw[au];rfl) (λρ=>∃a b,ρ=[a,b,some (.d (stD st))]) (λq=>.bl (decide (yV st q.1=q.2))) (ay (zjh hW.giv h8) (by decide)) ⟨_,_,rfl⟩ ?_ ?_
  ·rintro q hq a1 ⟨a,b,rfl⟩ D hD;have hb:=as q hq;left;refine onA hb.1 hb.2 ?_;left;exact hD ⟨_,_,rfl⟩
  left;refine⟨x.g.map λq=>decide (yV st q.1=q.2),by rw[au];rfl,?_⟩;rw[show (x.g.map λq=>decide (yV st q.1=q.2)).all id=uZ st x.g by unfold uZ;rw[List.all_map];rfl];left;refine zgx (λhk=>?_) (λhk=>⟨ad (by unfold zbc;rw[hk,Bool.and_false]) _ _ _ _ _⟩);have hg:zbc st x=true:=by unfold zbc;rw[a9 hw,hk];rfl
  left;refine⟨zdK (by lia),?_⟩;left;refine⟨zdL (by lia),?_⟩;rw[zfU b0 (by lia)];left;refine⟨zca,zgl l,λb hb=>?_⟩;left
  have ag:∀z,z∈zaF (bk.take (i+1)) st []↔z∈zaF (bk.take i) st []\/z=chg st x.b x.r:=λz=>by rw[zh hx,zdi,hg];simp
  have al:l.length<=32:=zaG (λy hy=>hB y (bX hy)) h8 hR.box L λz hz=>(I z).mp hz
  cases b with
  | true=>
   have av:=zgq.mp (hb.mp rfl);walk_at "cf";refine hC ⟨rfl,l,_,_,_,_,_,rfl,L,λz=>?_⟩;rw[ag z,I z];constructor
   ·exact .inl
   ·rintro (z1 | rfl)
    ·exact z1
    ·exact (I _).mp av
  | false=>
   have an:chg st x.b x.r∉l:=λz=>by have:=hb.mpr (zgq.mpr z);cases this
   walk_at "ct";refine⟨by rw[ab];exact aP al (by decide),hC ⟨rfl,l++[chg st x.b x.r],_,_,_,_,_,by rw[aE];rfl,?_,λz=>?_⟩⟩
   ·rw[cr];exact⟨L,by simp,λa ha c hc e=>an (by rw[<- aw.mp hc,<- e];exact ha)⟩
   ·rw[aH,aw,ag z,I z]
 ·rintro ρ m ⟨rfl,l,O,U,Y,Z,v7,rfl,L,I⟩;rw[aK] at I;left;refine⟨l,rm.length,rfl,?_,hR.pos,λz hz=>uk hB J z ((I z).mp hz),L,λl' hp hu=>?_⟩
  ·have:=zaG hB h8 hR.box L λz hz=>(I z).mp hz;lia
  ·rw[show l'=zaz bk st [] from zhD (uk hB J) hu λz=>hp.mem_iff.trans (I z)];exact r
def znR {α B:Type}{f:α->Dt}{g:B->Dt}:∀ (l:List α) (k:List B),ziW (l.map f) (k.map g)=(l.zip k).map λq=>W.d (.tup [f q.1,g q.2])
 | [],_=>by simp[ziW]
 | _::_,[]=>by simp[ziW]
 | a::l,b::k=>by simp[ziW,znR l k]
def zhN {s:List Int}:∀ {V:List (List Int)} {B:List Int} {i:Nat},V.Nodup->V[i]?=some s->B.length=V.length->yy ((V.zip B).map λq=>(q.1,Dt.int q.2)) s=some (.int (B.getD i 0))
 | v::V,w::B,0,_,h,_=>by simp at h;simp[yy,h]
 | v::V,w::B,i+1,F,h,I=>by
  have D:=bT.mp F;have h:V[i]?=some s:=by simpa using h
  have J:v≠s:=λz=>D.1 (z ▸ aj h);have:=zhN D.2 h (by simpa using I);simpa [yy,J] using this
def IB (l:List Dt):Prop:=∀d∈l,(∃i,d = .int i)\/∃b,d = .bl b
def ziw  : FV:=λPn q n R=>∃ (rm:List Int) (bk:List Wi) (l:List Dt),q=[.d (stD rm),.d (xi bk),.d (.tup l)]/\(RoomOk rm)/\(xl rm bk)/\((yh (rm.map zj)).length<=256)/\(IB l)/\(l.length<=1000)/\(∀b:Bool,(b=true↔zqD (yh (rm.map zj)) (λs=>zaz bk s []) (.tup l))->R (.d (.bl b)) n)
def ziw.i{rm:List Int}(q:RoomOk rm)(B:xl rm bk)(D:(yh (rm.map zj)).length<=256)(F:IB l)(I:l.length<=1000)(h:∀b:Bool,(b=true↔zqD (yh (rm.map zj)) (λs=>zaz bk s []) (.tup l))->R (.d (.bl b)) n)  : ziw Pn [.d (stD rm),.d (xi bk),.d (.tup l)] n R:=⟨rm,bk,l,rfl,q,B,D,F,I,h⟩
def zfm (T:Txt K mg t):FnOk P w K mg base CX0 2 t.f30 t.d30 ll (spV 3 false ziw):=by
 have G4:=yB (P:=P) (w:=w) (base:=base) T;have G29:=zc5 (P:=P) (w:=w) (base:=base) T
 refine Fun.okW (k:=1) (fr:=false) [] 4 T.q30.F xW rfl (by decide) rfl λa2 A al s H E Pn Z=>⟨_,(zb (wS zl <| zu (i:=3) xW.nd (wE zq <| yA T.q4 G4 Z (za (kv 0) zd)))
   (zb (wS zz <| yk (JW.t (wW zhk <| zlV (wT zo <| zA zei zmW (JE.bo (yc yQ uT (by rfl) T.b_len aZ (zn (kb 2) zt))) (JE.bo (yc yQ uT (by rfl) T.b_len aZ (zn (kb 3) zt))) (zy _)) (uY (.inr rfl) (wT zo <| zA zki zvN (JE.bo zeH) (JE.bo (um (N:=["_law_one"]) (cix:=[none]) rfl (by walk_at "c") (wI xD <| uM K rfl (kv 2)) (λ_ _ _ _=>(wG zF <| zi (i:=0) (show (["_law_one"]:List Str).Nodup by decide +kernel))) (λ_ _ _ _=>y1) (λ_ _ _ _=>(wE zcp <| uE (by rfl) T.b_isinstance T.b_bool (kb 0))))) (by with_unfolding_all rfl))))) (ze (zI zeH)) zE)
   (zb (wS zl <| zu (i:=4) xW.nd (xp (zls rfl Z.units) zqm (by rfl) T.b_dict PyProof.Rows.boot_dict (zn (JE.bo (um (N:=lH) (cix:=[none,none]) rfl (by walk_at "c") (wI zl6 <| zoG rfl T.b_zip (za (kv 3) (za (kv 2) zd))) (λ_ _ _ _=>(wG uj <| uo (n:=2) K rfl rfl (wH zV <| zx (wG zF <| zi (i:=0) (show (lH:List Str).Nodup by decide +kernel)) (wH zV <| zx (wG zF <| zi (i:=1) (show (lH:List Str).Nodup by decide +kernel)) (wH ui xn))))) (λ_ _ _ _=>y1) (λ_ _ _ _=>(yr (za (kv 0) (za (kv 1) zd)))))) zt)))
   (zb (zZ aF rfl (wI yT <| yS K rfl (kv 3)) (wG zF <| zi (i:=5) xW.nd) (ze (zZ aF rfl (wI yT <| yS K rfl (wE zq <| yA T.q29 G29 Z (za (kv 1) (za (kv 5) zd)))) (wG zF <| zi (i:=6) xW.nd) (ze (wS zz <| yk (wT zo <| zA zmd zt3 (JE.bo (wE yM <| xO (xy Z) (kb 4) (kb 6) (λ_ _=>rfl))) (JE.bo (wE yM <| xO (xy Z) (kb 4) (kb 5) (λ_ _=>rfl))) (zy _)) (ze (zI zeH)) zE)))))
   (ze (zI zeH)))))),λD n R hF=>?_⟩
 obtain⟨rm,bk,l,rfl,hR,hB,hq,hI,hl,r⟩:=hF;left;have hG:=ziJ hR hB hq;refine zbn.i hR ?_;left;rw[ab];refine zef (λh=>?_) (λh=>?_)
 ·left;refine r false ⟨λz=>(by cases z),?_⟩;rintro⟨D,e,h2,_⟩;cases e;rw[ab] at h;lia
 have I:l.length=(yh (rm.map zj)).length:=by lia
 left;refine zaC l (λd=>W.d d) rfl (λρ=>∃a,ρ=[a]) (λd=>.bl d.isBl) (ay hl (by decide)) ⟨_,rfl⟩ ?_ ?_
 ·rintro d hd an ⟨a,rfl⟩ C hC;left;exact hC ⟨_,rfl⟩
 left;refine⟨l.map λd=>d.isBl,by rw[au];rfl,?_⟩;left;refine zgx (λh=>?_) (λh=>?_)
 ·left;refine r false ⟨λz=>(by cases z),?_⟩;rintro⟨D,e,h2,_⟩;cases e;rw[au] at h;obtain⟨x,_,hx⟩:=az.mp (List.contains_iff_mem.mp h);cases hx
 obtain⟨D,rfl⟩:=zbm (l:=l) λd hd=>by
  rcases hI d hd with ⟨i,rfl⟩ | ⟨b,rfl⟩
  ·rfl
  ·have:true∈l.map λd=>d.isBl:=az.mpr ⟨_,hd,rfl⟩;rw[List.contains_iff_mem.mpr this] at h;cases h
 rw[ab] at I;left;refine⟨by rw[ab,ab,I],?_⟩;generalize ap:yh (rm.map zj)=V at *;have hV:=hG.few;have a3:(V.zip D).length=V.length:=by rw[List.length_zip,I,Nat.min_self]
 refine zaC (V.zip D) (λq=>W.d (.tup [stD q.1,.int q.2])) (znR V D) (λρ=>∃a b,ρ=[a,b]) (λq=>.tup [stD q.1,.int q.2]) (ay (by lia:_<=1000) (by decide)) ⟨_,_,rfl⟩ ?_ ?_
 ·rintro q a4 an ⟨a,b,rfl⟩ C hC;left;exact hC ⟨_,_,rfl⟩
 left;refine⟨(V.zip D).map λq=>(q.1,Dt.int q.2),by rw[au];rfl,?_,ay (by rw[ab];lia:_<=1000) (by decide),?_⟩
 ·rw[au,show ((λq:List Int×Dt=>q.1) ∘ λq:List Int×Int=>(q.1,Dt.int q.2))=Prod.fst from rfl,List.map_fst_zip (by lia)];exact hG.nd
 have L:∀ {s:List Int} {i:Nat},V[i]?=some s->yy ((V.zip D).map λq=>(q.1,Dt.int q.2)) s=some (.int (D.getD i 0)):=λh=>zhN hG.nd h I;generalize ((V.zip D).map λq=>(q.1,Dt.int q.2))=kvs at L;left;have as:∀d,Dt.tup (D.map .int)=stD d->D=d:=λd e=>zkR e;refine zH V (λs=>W.d (stD s)) (by rw[au];rfl) (λi ρ m=>m=n/\∃v5 O,ρ=[some (.d (stD rm)),some (.d (xi bk)),some (.d (.tup (D.map .int))),some (.d (xL V)),some (.dt kvs),v5,O]/\∀ (U k:Nat) (s t:List Int),U<i->V[U]?=some s->V[k]?=some t->t∈zaz bk s []->D.getD U 0<D.getD k 0) ⟨rfl,_,_,rfl,λU k s t h=>by lia⟩ ?_ ?_
 ·rintro i s ρ m hs ⟨rfl,v5,O,rfl,hI⟩ C B E hC _ hE;have ad:=aj hs;have av:s.length=rm.length:=(zat rm s (by rw[ap];exact ad)).len;left;refine zgQ.i hR hB av ?_;left;refine zH (zaz bk s []) (λs=>W.d (stD s)) (by rw[au];rfl) (λj ρ m'=>m'=m/\∃O,ρ=[some (.d (stD rm)),some (.d (xi bk)),some (.d (.tup (D.map .int))),some (.d (xL V)),some (.dt kvs),some (.d (stD s)),O]/\∀ (k:Nat) (t:List Int),V[k]?=some t->t∈(zaz bk s []).take j->D.getD i 0<D.getD k 0) ⟨rfl,_,rfl,λk t _ h=>by simp at h⟩ ?_ ?_
  ·rintro j t ρ m' ht ⟨rfl,O,rfl,hJ⟩ C' B' E' a0 _ a1;have ag:=aj ht;obtain⟨k,hk⟩:=List.mem_iff_getElem?.mp (hG.sub s ad t ag);left;refine⟨t,rfl,y4 (L hk) ?_⟩;left;refine⟨s,rfl,y4 (L hs) ?_⟩;left;refine yU (λa5=>?_) (λa7=>?_)
   ·left;refine a1 (hE (r false ⟨λz=>(by cases z),λ⟨ws',e,h2,Y⟩=>?_⟩));have:=as _ e;subst this;have:=Y i _ s t hs hk ag;lia
   ·left;refine a0 ⟨rfl,_,rfl,λk' y J hy=>?_⟩;rw[zh ht] at hy;rcases aH.mp hy with q | q
    ·exact hJ k' y J q
    ·rw[aw.mp q] at J;have:=(List.getElem?_inj (ac.mp J).1 hG.nd).mp (J.trans hk.symm);subst this;lia
  ·rintro ρ m' ⟨rfl,O,rfl,hJ⟩;rw[aK] at hJ;refine hC ⟨rfl,_,_,rfl,λU k s' t hi h1 h2 Y=>?_⟩;rcases cJ.mp hi with q | q
   ·exact hI U k s' t q h1 h2 Y
   ·subst q;rw[hs] at h1;cases h1;exact hJ k t h2 Y
 ·rintro ρ m ⟨rfl,v5,O,rfl,hI⟩;left;exact r true ⟨λ_=>⟨D,rfl,I,λi k s t h1 h2 Y=>hI i k s t (ac.mp h1).1 h1 h2 Y⟩,λ_=>rfl⟩
def zli  : FV:=λPn B n R=>∃ (p:Addr) (q:List Int),B=[.pen p,.d (stD q)]/\(IsP Pn p)/\(n+100<=1000000)/\(∀x∈q,0<=x/\x<=256)/\(q.length<=1000)/\(∀ (vs:List Int) m,vs.length=q.length->m<=n+10->R (.d (stD vs)) m)
def zli.i{q:List Int}(B:IsP Pn p)(D:∀x∈q,0<=x/\x<=256)(F:q.length<=1000)(h:∀ (vs:List Int) m,vs.length=q.length->m<=n+10->R (.d (stD vs)) m)(I:n+100<=1000000:=by lia):zli Pn [.pen p,.d (stD q)] n R:=⟨p,q,rfl,B,I,D,F,h⟩
def zct (T:Txt K mg t):FnOk P w K mg base CX0 2 t.f31 t.d31 lB (spV 2 false zli):=by
 have G1:=zN (P:=P) (w:=w) (base:=base) T
 refine Fun.okW (k:=1) (fr:=false) [] 2 T.q31.F ud rfl (by decide) rfl λL A I s H E Pn B=>⟨_,(zb (wS zl <| zu (i:=2) ud.nd (uL xo zbP (JE.bo (xP (za zm (za zm (za (y9 yi uz (JE.bo (y9 zdr zqo (JE.bo zm) (JE.bo zm))) (JE.bo zm)) zd))))) (JE.bo (wE zq <| yA T.q1 G1 B (za (kv 0) (za zm zd)))) (λ_ _=>rfl)))
   (zb (wS zl <| zu (i:=3) ud.nd (uL xo zbP (JE.bo (xP (za zm (za (ztQ zhI zmX (JE.bo zm)) (za (y9 zfu zk1 (JE.bo (y9 zdr zqo (JE.bo zm) (JE.bo zm))) (JE.bo (wE zq <| yA T.q1 G1 B (za (kv 0) (za zm zd))))) (za (y9 zfu zk1 (JE.bo (ztQ zhI zmX (JE.bo zm))) (JE.bo (wE zq <| yA T.q1 G1 B (za (kv 0) (za (y9 zdr zqo (JE.bo zm) (JE.bo zm)) zd))))) zd)))))) (JE.bo (wE zq <| yA T.q1 G1 B (za (kv 0) (za zm zd)))) (λ_ _=>rfl)))
   (ze (zI (xp yH zax (by rfl) T.b_tuple bu (zn (JE.bo (um (N:=lI) (cix:=[none,some 3,some 2]) rfl (by walk_at "c") (wI xD <| uM K rfl (kv 1)) (λ_ _ _ _=>(wG zF <| zi (i:=0) (show (lI:List Str).Nodup by decide +kernel))) (λ_ _ _ _=>y1) (λ_ _ _ _=>(y9 yi uz (JE.bo (y9 zar zqn (kb 2) (kb 0))) (kb 1))))) zt)))))),λws n R O=>?_⟩
 obtain⟨p,J,rfl,D,hn,U,Y,r⟩:=O;left;refine⟨⟨by decide,by decide,by decide⟩,?_⟩;left;refine dc D λa Z a1=>?_;left;refine zkd Z a1 λx q=>?_
 obtain⟨t,rfl⟩:∃t,x = .int t:=by simp at q;rcases q with rfl | rfl | rfl <;> exact⟨_,rfl⟩
 left;refine⟨⟨by decide,by decide,by decide⟩,?_⟩;left;refine dc D λb b0 b1=>?_;left;refine⟨⟨by decide,by decide,by decide⟩,?_⟩;left;refine dc D (λc c0 c1=>?_) (by lia) (by decide) (by decide);left;refine dc D λd d0 d1=>?_;left;refine zkd d0 d1 λx q=>?_
 obtain⟨m,rfl⟩:∃m,x = .int m:=by simp at q;rcases q with rfl | rfl | rfl | rfl <;> exact⟨_,rfl⟩
 left;refine zaC J (λi=>W.d (.int i)) (by rw[au];rfl) (λρ=>∃a,ρ=[a,some (.d (.int m)),some (.d (.int t))]) (λi=>.int (t * i+m)) (ay Y (by decide)) ⟨_,rfl⟩ ?_ ?_
 ·rintro i hi ad ⟨a,rfl⟩ C hC;have:=U i hi;left;refine⟨.inr ⟨by lia,by lia⟩,?_⟩;left;exact hC ⟨_,rfl⟩
 left;have:=r (J.map λi=>t * i+m) (n+4) (by rw[ab]) (by lia);unfold stD at this;rwa[au] at this
def zgM  : FV:=λPn D n R=>∃ (p:Addr) (q:Int) (B:List Int),D=[.pen p,.d (.int q),.d (stD B)]/\(IsP Pn p)/\(n+100<=1000000)/\(1<=B.length)/\(B.length<=256)/\(∀ (l:List Dt) m,IB l->l.length<=1000->m<=n+10->R (.d (.tup l)) m)
def zgM.i{q:Int}{B:List Int}(D:IsP Pn p)(h1:1<=B.length)(F:B.length<=256)(h:∀ (l:List Dt) m,IB l->l.length<=1000->m<=n+10->R (.d (.tup l)) m)(I:n+100<=1000000:=by lia):zgM Pn [.pen p,.d (.int q),.d (stD B)] n R:=⟨p,q,B,rfl,D,I,h1,F,h⟩
def zea (T:Txt K mg t):FnOk P w K mg base CX0 2 t.f32 t.d32 lm (spV 3 false zgM):=by
 have G1:=zN (P:=P) (w:=w) (base:=base) T
 refine Fun.okW (k:=1) (fr:=false) [] 3 T.q32.F x6 rfl (by decide) rfl λad A Y s H E Pn hr=>⟨_,(zb (wS zl <| zu (i:=3) x6.nd (wE zq <| yA T.q1 G1 hr (za (kv 0) (za (yc yQ uT (by rfl) T.b_len aZ (zn (kb 2) zt)) zd))))
   (zb (wS zl <| zu (i:=4) x6.nd (wE zq <| yA T.q1 G1 hr (za (kv 0) (za (yc yQ uT (by rfl) T.b_len aZ (zn (kb 2) zt)) zd))))
   (zb (wS zl <| zu (i:=5) x6.nd (uL yo xC (kb 2) (kb 3) (λ_ _=>rfl)))
   (zb (wS zz <| yk (wT zo <| zA xg za4 (kb 1) (JE.bo zm) (zy _)) (ze (zI (y9 zS yE (JE.bo (y9 zS yE (JE.bo (wE zT <| xI (kb 2) zK (wO zC <| zL (kb 3)))) (JE.bo (yr (za (y9 zfu zk1 (kb 5) (JE.bo zm)) zd))))) (JE.bo (wE zT <| xI (kb 2) (wO zC <| zL (JE.bo (y9 yi uz (kb 3) (JE.bo zm)))) zK))))) zE)
   (zb (wS zz <| yk (wT zo <| zA xg za4 (kb 1) (JE.bo zm) (zy _)) (ze (zI (y9 zS yE (JE.bo (y9 zS yE (JE.bo (wE zT <| xI (kb 2) zK (wO zC <| zL (kb 3)))) (JE.bo (yr (za (y9 yi uz (kb 5) (JE.bo zm)) zd))))) (JE.bo (wE zT <| xI (kb 2) (wO zC <| zL (JE.bo (y9 yi uz (kb 3) (JE.bo zm)))) zK))))) zE)
   (zb (wS zz <| yk (wT zo <| zA xg za4 (kb 1) (JE.bo zm) (zy _)) (ze (zI (y9 zS yE (JE.bo (y9 zS yE (JE.bo (wE zT <| xI (kb 2) zK (wO zC <| zL (kb 3)))) (JE.bo (yr (za (uL yo xC (kb 2) (kb 4) (λ_ _=>rfl)) zd))))) (JE.bo (wE zT <| xI (kb 2) (wO zC <| zL (JE.bo (y9 yi uz (kb 3) (JE.bo zm)))) zK))))) zE)
   (zb (wS zz <| yk (wT zo <| zA xg za4 (kb 1) (JE.bo zm) (zy _)) (ze (zI (y9 zS yE (JE.bo (y9 zS yE (JE.bo (wE zT <| xI (kb 2) zK (wO zC <| zL (kb 3)))) (JE.bo (yr (za (zrt xg za4 (kb 5) (JE.bo zm) (zy _)) zd))))) (JE.bo (wE zT <| xI (kb 2) (wO zC <| zL (JE.bo (y9 yi uz (kb 3) (JE.bo zm)))) zK))))) zE)
   (zb (wS zz <| yk (wT zo <| zA xg za4 (kb 1) (JE.bo zm) (zy _)) (ze (zI (y9 zS yE (JE.bo (wE zT <| xI (kb 2) zK (wO zC <| zL (kb 3)))) (JE.bo (wE zT <| xI (kb 2) (wO zC <| zL (JE.bo (y9 yi uz (kb 3) (JE.bo zm)))) zK))))) zE)
   (zb (wS zz <| yk (wT zo <| zA xg za4 (kb 1) (JE.bo zm) (zy _)) (ze (zI (y9 zS yE (JE.bo (y9 zS yE (JE.bo (wE zT <| xI (kb 2) zK (wO zC <| zL (kb 3)))) (JE.bo (yr (za (kv 5) zd))))) (JE.bo (wE zT <| xI (kb 2) (wO zC <| zL (kb 3)) zK))))) zE)
   (ze (zI (wE zl9 <| zrw (kb 2))))))))))))),λws n R hF=>?_⟩
 obtain⟨p,ag,I,rfl,hP,hn,h1,hl,r⟩:=hF;left
 have O:∀lo hi,IB (xE (I.map .int) lo hi):=λlo hi d Z=>by obtain⟨x,_,rfl⟩:=az.mp ((zb7 _ _ _).subset Z);exact .inl ⟨x,rfl⟩
 have U:∀lo hi,(xE (I.map Dt.int) lo hi).length<=256:=λlo hi=>ay (zb7 _ _ _).length_le (by rw[ab];exact hl)
 have J:∀ {lo hi B D:Option Int} {d:Dt},((∃i,d = .int i)\/∃b,d = .bl b)->(xE (I.map Dt.int) lo hi).length+1<=lim/\(xE (I.map Dt.int) lo hi++[d]).length+(xE (I.map Dt.int) B D).length<=lim/\R (.d (.tup (xE (I.map Dt.int) lo hi++[d]++xE (I.map Dt.int) B D))) (n+2):=λ{lo hi B D d} Z=>by
  have l1:=U lo hi;have l2:=U B D;refine⟨ay (by lia:_<=1000) (by decide),ay (by simp;lia:_<=1000) (by decide),r _ _ (λz L=>?_) (by simp;lia) (by lia)⟩;rcases aH.mp L with q | q
  ·rcases aH.mp q with q | q
   ·exact O _ _ z q
   ·rw[aw.mp q];exact Z
  ·exact O _ _ z q
 rw[ab];refine dc hP λa a0 a1=>?_;left;rw[ab];refine dc hP λo o0 o1=>?_;left;refine onA a0 (by lia) ?_;left;refine yU (λh=>?_) (λh=>?_)
 ·left;exact J (.inl ⟨_,rfl⟩)
 left;refine yU (λh=>?_) (λh=>?_)
 ·left;exact J (.inl ⟨_,rfl⟩)
 left;refine yU (λh=>?_) (λh=>?_)
 ·left;refine onA o0 (by lia) ?_;left;exact J (.inl ⟨_,rfl⟩)
 left;refine yU (λh=>?_) (λh=>?_)
 ·left;exact J (.inr ⟨_,rfl⟩)
 left;refine yU (λh=>?_) (λh=>?_)
 ·left;have l1:=U none (some a);have l2:=U (some (a+1)) none;refine⟨ay (by lia:_<=1000) (by decide),r _ _ (λz L=>?_) (by simp;lia) (by lia)⟩;rcases aH.mp L with q | q
  ·exact O _ _ z q
  ·exact O _ _ z q
 left;refine yU (λh=>?_) (λh=>?_)
 ·left;exact J (.inl ⟨_,rfl⟩)
 left;refine r _ _ (λz L=>?_) (by simp;lia) (by lia);obtain⟨x,_,rfl⟩:=az.mp (List.mem_reverse.mp L);exact .inl ⟨x,rfl⟩
def zrQ (T:Txt K mg t):FnOk P w K mg base CX0 6 t.f33 t.d33 li (zkP K):=by
 have G23:=zaT (P:=P) (w:=w) (base:=base) T;have G28:=zcu (P:=P) (w:=w) (base:=base) T;have G0:FnOk P w K mg base CX0 1 t.f0 t.d0 li (zmS K):=zgu T;have G1:=zN (P:=P) (w:=w) (base:=base) T;have G2:=xJ (P:=P) (w:=w) (base:=base) T;have G3:=zec (P:=P) (w:=w) (base:=base) T;have G4:=yB (P:=P) (w:=w) (base:=base) T;have G14:=zeb (P:=P) (w:=w) (base:=base) T;have G30:=zfm (P:=P) (w:=w) (base:=base) T;have G31:=zct (P:=P) (w:=w) (base:=base) T;have G32:=zea (P:=P) (w:=w) (base:=base) T
 refine zva (k:=5) (r:=12) [] T.q33.F y8 rfl rfl (by decide) λcn A a4 s H E Pn D=>⟨_,_,_,rfl,(x5 (i:=1) y8.nd rfl (Or.inl rfl) (zmz T.q0 G0 D (zO (qv 0) yC))),(zb (wS zl <| zu (i:=2) y8.nd (yr (za (yr (za zm zd)) (za (yr (za (yr (za (yr zd) (za zm (za zm (za zm zd))))) zd)) (za (yr (za zm (za zm zd))) zd)))))
   (zb (zZ aF rfl (wI xS <| yL rfl T.b_range (zn (JE.bo zm) zt)) (wG zF <| zi (i:=3) y8.nd) (zb (wS zl <| zu (i:=4) y8.nd (wE zq <| yA T.q1 G1 D (za (kv 1) (za zm zd))))
   (zb (wS zl <| zu (i:=5) y8.nd (uL xo zbP (JE.bo (xP (za zm (za zm (za zm (za zm zd)))))) (JE.bo (wE zq <| yA T.q1 G1 D (za (kv 1) (za zm zd)))) (λ_ _=>rfl)))
   (zb (wS zz <| yk (JW.t (wW u6 <| zbp (wT zo <| zA xg za4 (kb 3) (JE.bo zm) (zy _)) (uY (.inl rfl) (wT zo <| zA xg za4 (JE.bo (wE zq <| yA T.q1 G1 D (za (kv 1) (za zm zd)))) (JE.bo zm) (zy _))))) (ze (wS zl <| zu (i:=5) y8.nd zm)) zE)
   (zb (wS zl <| zu (i:=6) y8.nd (wE zq <| yA T.q3 G3 D (za (kv 1) (za (kv 5) zd))))
   (zb (wS zl <| zu (i:=7) y8.nd (wE zq <| yA T.q14 G14 D (za (kv 1) (za (kv 6) zd))))
   (zb (wS zz <| yk (wT zo <| zA xg za4 (kb 5) (JE.bo zm) (zy _)) (ze (wS zl <| zu (i:=7) y8.nd (wE zT <| xI (kb 7) zK (wO zC <| zL (JE.bo zm))))) zE)
   (zb (wS zl <| zu (i:=8) y8.nd (wE zq <| yA T.q23 G23 D (za (kv 6) (za (kv 7) zd))))
   (zb (wS zl <| zu (i:=9) y8.nd (yc yQ uT (by rfl) T.b_len aZ (zn (JE.bo (wE zq <| yA T.q4 G4 D (za (kv 6) zd))) zt)))
   (zb (wS zl <| zu (i:=10) y8.nd (xp yH zax (by rfl) T.b_tuple bu (zn (JE.bo (wE zq <| yA T.q2 G2 D (za (kv 1) (za (wE xT <| uX T.b_list T.b_range (zn (kb 9) zt)) zd)))) zt)))
   (zb (wS zz <| yk (JW.t (wW u6 <| zbp (wT zo <| zA xg za4 (JE.bo (uL yo xC (kb 8) (JE.bo zm) (λ_ _=>rfl))) (JE.bo zjD) (zy _)) (uY (.inl rfl) (wT zo <| zA zkh zvM (JE.bo (wE zq <| yA T.q1 G1 D (za (kv 1) (za zm zd)))) (JE.bo zm) (zy _))))) (ze (wS zl <| zu (i:=10) y8.nd (uL yo xC (kb 8) (JE.bo zm) (λ_ _=>rfl)))) zE)
   (zb (wS zl <| zu (i:=10) y8.nd (wE zq <| yA T.q31 G31 D (za (kv 1) (za (kv 10) zd))))
   (zb (zZ aF rfl (wI xD <| uM K rfl (yr (za (kv 10) (za (wE zq <| yA T.q32 G32 D (za (kv 1) (za (kv 4) (za (kv 10) zd)))) zd)))) (wG zF <| zi (i:=11) y8.nd) (zb (wS zl <| zu (i:=12) y8.nd (wE zq <| yA T.q28 G28 D (za (kv 6) (za (kv 7) (za (kv 11) zd)))))
   (zb (wS zz <| yk (JW.t (wW zhk <| zlV (wT zd8 <| zhe (wT zo <| zdk (JE.bo (wE zcp <| uE (by rfl) T.b_isinstance T.b_bool (kb 12))))) (uY (.inr rfl) (wT zo <| zA zei zmW (kb 12) (JE.bo (wE zq <| yA T.q30 G30 D (za (kv 6) (za (kv 7) (za (kv 11) zd))))) (zy _))))) (ze (zI zeH)) zE)
   (zb (wS zz <| yk (wT zo <| zA zei zmW (JE.bo (wE zq <| yA T.q28 G28 D (za (uL yo xC (kb 2) (JE.bo zm) (λ_ _=>rfl)) (za (uL yo xC (kb 2) (JE.bo zm) (λ_ _=>rfl)) (za (uL yo xC (kb 2) (JE.bo zm) (λ_ _=>rfl)) zd))))) (JE.bo (wE zq <| yA T.q30 G30 D (za (uL yo xC (kb 2) (JE.bo zm) (λ_ _=>rfl)) (za (uL yo xC (kb 2) (JE.bo zm) (λ_ _=>rfl)) (za (uL yo xC (kb 2) (JE.bo zm) (λ_ _=>rfl)) zd))))) (zy _)) (ze (zI zeH)) zE)
   (ze (wS zz <| yk (wT zo <| zA zei zmW (JE.bo (wE zq <| yA T.q28 G28 D (za (kv 6) (za (kv 7) (za (kv 11) zd))))) (kb 12) (zy _)) (ze (zI zeH)) zE))))))
   (zb (wS zl <| zu (i:=13) y8.nd (xP (za zrv (za zjD (za zm (za (xp zb3 zto (by rfl) T.b_list dC (zn (kb 10) zt)) (za zru (za (yr zd) (za (y9 zS yE (JE.bo (wE zT <| xI (kb 10) zK (wO zC <| zL (JE.bo (ztQ zhI zmX (JE.bo zm)))))) (JE.bo (yr (za zrv zd)))) (za (y9 zS yE (JE.bo (wE zT <| xI (kb 10) zK (wO zC <| zL (JE.bo (ztQ zhI zmX (JE.bo zm)))))) (JE.bo (yr (za zjD zd)))) zd))))))))))
   (zb (wS zl <| zu (i:=13) y8.nd (uL xo zbP (JE.bo (y9 zpb ztl (kb 13) (JE.bo (xP (za (y9 zS yE (JE.bo (y9 zS yE (JE.bo (wE zT <| xI (kb 10) zK (wO zC <| zL (JE.bo zm)))) (JE.bo (yr (za (xP (za zm zd)) zd))))) (JE.bo (wE zT <| xI (kb 10) (wO zC <| zL (JE.bo zm)) zK))) zd))))) (JE.bo (wE zq <| yA T.q1 G1 D (za (kv 1) (za zm zd)))) (λ_ _=>rfl)))
   (zb (wS zz <| yk (wT zo <| zA zgz zir (JE.bo (wE zq <| yA T.q28 G28 D (za (kv 6) (za (kv 7) (za (kv 13) zd))))) (JE.bo zeH) (zy _)) (ze (zI zeH)) zE)
   (ze (wS zl <| zu (i:=2) y8.nd (yr (za (kv 6) (za (kv 7) (za (kv 10) zd))))))))))))))))))))))
   (ze (zI zeH)))),λp c ns a5=>?_⟩
 subst a5;have Z:IsP (some (p,c,ns)) p:=⟨c,ns,rfl⟩;refine zsP ?_;left;have a7:RoomOk [2]:=⟨by decide,by decide,by decide⟩
 have bb:xl [2] [⟨[],0,1,0⟩]:=λx J=>by rw[aw.mp J];exact⟨⟨by simp,.nil⟩,by decide,by decide,by simp,by decide,by decide,by decide,by decide,by decide⟩
 refine⟨⟨by decide,by decide⟩,ze3 (λi ρ n=>n<=10000 * i/\∃ (rl:List Int) (bl:List Wi) (wl:List Int) (v3 v4 v5 v6 v7 v8 v9 an O U al:Option W),ρ=[none,some (.pen p),some (.d (.tup [stD rl,xi bl,stD wl])),v3,v4,v5,v6,v7,v8,v9,an,O,U,al]/\RoomOk rl/\xl rl bl/\(yh (rl.map zj)).length<=256/\wl.length<=1000) ⟨ai _,[2],[⟨[],0,1,0⟩],[4,5],none,none,none,none,none,none,none,none,none,none,none,rfl,a7,bb,by decide,by decide⟩ ?_ ?_⟩;rotate_left
 ·rintro ρ n ⟨hn,rl,bl,wl,v3,v4,v5,v6,v7,v8,v9,an,O,U,al,rfl,_⟩;left
 rintro i ρ n hi ⟨hn,rl,bl,wl,v3,v4,v5,v6,v7,v8,v9,an,O,U,al,rfl,a0,a1,a2,bd⟩ C B E hC _ _;have hi:i<2:=hi;left;refine dc Z λbn w0 w1=>?_;left;refine dc Z λmo m0 m1=>?_;left;refine zkd m0 m1 λx J=>?_
 obtain⟨q,rfl,q1,q2⟩:∃q,x = .int q/\4<=q/\q<=256:=by
  simp at J;rcases J with rfl | rfl | rfl | rfl
  all_goals exact⟨_,rfl,by lia,by lia⟩
 left;refine' zh8 (λ(q:Int) (n1:Nat)=>4<=q/\q<=256/\n1<=n+3) _ (λzR=>?_) ?_;rotate_left
 ·refine yU (λh0=>?_) (λh0=>?_);rotate_left
  ·left;generalize hk:n+1+1=n1;generalize co:q=m9;exact zR m9 n1 ⟨by lia,by lia,by lia⟩
  ·left;refine dc Z λd d0 d1=>?_;left;refine yU (λh5=>?_) (λh5=>?_)
   ·left;exact zR 256 (n+1+1+1) ⟨by decide,by decide,by lia⟩
   ·left;exact zR q (n+1+1+1) ⟨q1,q2,by lia⟩
 rintro q n1 ⟨q1,q2,cp⟩;refine zle.i Z q1 q2 λrm m Y hp hm=>?_;have h8:=Y.few;have ch:=Y.pos;have hN:=xm rm λn hn=>by have:=Y.box n hn;lia
 have hq:(yh (rm.map zj)).length<=256:=by lia
 left;refine zgN.i Z Y (by lia) λbk m2 hB hl cs=>?_;left;refine' zh8 (λ(bk:List Wi) (n1:Nat)=>xl rm bk/\n1=m2) _ (λzR=>?_) ?_;rotate_left
 ·refine yU (λh0=>?_) (λh0=>?_)
  ·left;rw[x9,show (12:Int)=((12:Nat):Int) from rfl,L3.zbS];have I:xl rm (bk.take 12):=λx J=>hB x (bX J);generalize bk.take 12=ad at I;generalize hk:m2=n1;exact zR ad n1 ⟨I,hk.symm⟩
  ·left;exact zR bk m2 ⟨hB,rfl⟩
 rintro ad n2 ⟨I,rfl⟩
 have c0:2<=(yh (rm.map zj)).length:=by have:=zfy Y.ne λn hn=>(Y.box n hn).1;lia
 generalize a3:(yh (rm.map zj)).length=N at *
 have ag:∀l:List Dt,l.Perm (zeu N)->∃ys:List Int,l=ys.map .int/\ys.length=N/\∀x∈ys,0<=x/\x<=256:=λl hl=>by rw[zkE] at hl;obtain⟨ys,rfl,hy⟩:=zbX hl;refine⟨ys,rfl,by rw[hy.length_eq];unfold zlL;simp,λx J=>?_⟩;have:=hy.mem_iff.mp J;unfold zlL at this;obtain⟨k,hk,rfl⟩:=az.mp this;have:=aW.mp hk;lia
 refine' zu8 (λ(us:List Int) (n1:Nat) (_:Option W)=>us.length=N/\(∀x∈us,0<=x/\x<=256)/\n1<=n2+300) _ (λzR=>?_) ?_;rotate_left
 ·refine zlh.i Y I (by lia) ⟨λrd=>?_,λL hL bs=>?_⟩
  ·left;refine zbn.i Y ?_;left;rw[ab,a3];refine⟨⟨by lia,by lia⟩,?_⟩;rw[aO];refine tc Z (λl hl=>?_) (by rw[y0];lia) (by rw[y0];lia);rw[y0];obtain⟨ys,rfl,ap,as⟩:=ag l hl;generalize hk:n2+N=n3;left;refine y4 rfl ?_;left;with_reducible refine zo6 ?_ ?_
   ·decide
   generalize (W.d (Dt.tup [Dt.str (Str.ofString "ring"),xL rd]))=sd;generalize c1:some sd=sd';left;exact zR ys n3 sd' ⟨ap,as,by lia⟩
  ·left;refine zbn.i Y ?_;left;rw[ab,a3];refine⟨⟨by lia,by lia⟩,?_⟩;rw[aO];refine tc Z (λl hl=>?_) (by rw[y0];lia) (by rw[y0];lia);rw[y0];obtain⟨ys,rfl,ap,as⟩:=ag l hl;left;refine y4 rfl ?_;left;with_reducible refine zo7 ?_ ?_
   ·decide
   left;refine dc Z λd d0 d1=>?_;left;refine yU (λh=>?_) (λh=>?_)
   ·left;refine y4 rfl ?_;left;exact zR L _ _ ⟨by lia,bs,by lia⟩
   ·left;exact zR ys _ _ ⟨ap,as,by lia⟩
 rintro us n3 v8 ⟨c2,bx,c3⟩;refine zli.i Z bx (by lia) λvs n4 c4 dd=>?_;left;refine zgM.i Z (by lia) (by lia) λlb n5 b0 b1 df=>?_;left;clear ag
 have ib:∀us:List Int,IB (us.map .int):=λus d hd=>by obtain⟨x,_,rfl⟩:=az.mp hd;exact .inl ⟨x,rfl⟩
 refine zH [stD vs,.tup lb] (λd=>W.d d) rfl (λ_ ρ m=>m=n5/\∃O U,ρ=[none,some (.pen p),some (.d (.tup [stD rl,xi bl,stD wl])),some (.d (.int (i:Int))),some (.d (.int bn)),some (.d (.int q)),some (.d (stD rm)),some (.d (xi ad)),v8,some (.d (.int (N:Int))),some (.d (stD vs)),O,U,al]) ⟨rfl,_,_,rfl⟩ ?_ ?_
 ·rintro j x ρ m' J ⟨rfl,O,U,rfl⟩ C' B' E' b2 _ _
  obtain⟨lx,rfl,b3,ca⟩:∃lx,x = .tup lx/\IB lx/\lx.length<=1000:=by
   have:=aj J;simp at this;rcases this with rfl | rfl
   ·exact⟨_,rfl,ib vs,by rw[ab];lia⟩
   ·exact⟨_,rfl,b0,b1⟩
  left;refine zbZ.i Y I (by lia) λb hb=>?_;left;refine ziw.i Y I (by lia) b3 ca λb' av=>?_;obtain rfl:b=b':=by rw[b9];exact hb.trans av.symm
  left;refine zef (λh=>absurd rfl h) λ_=>?_;left;refine y4 rfl ?_;left;refine y4 rfl ?_;left;refine y4 rfl ?_;left;refine zbZ.i a0 a1 a2 λd hd=>?_;left;refine y4 rfl ?_;left;refine y4 rfl ?_;left;refine y4 rfl ?_;left;refine ziw.i a0 a1 a2 (ib wl) (by rw[ab];exact bd) λd' cc=>?_;obtain rfl:d=d':=by rw[b9];exact hd.trans cc.symm
  left;refine zef (λh=>absurd rfl h) λ_=>?_;left;refine zbZ.i Y I (by lia) λb' av=>?_;obtain rfl:b=b':=by rw[b9];exact hb.trans av.symm
  left;refine zef (λh=>absurd rfl h) λ_=>?_;left;exact b2 ⟨rfl,_,_,rfl⟩
 rintro ρ m' ⟨rfl,O,U,rfl⟩;have cl:∀lo hi,(xE (vs.map Dt.int) lo hi).length<=256:=λlo hi=>ay (zb7 _ _ _).length_le (by rw[ab];lia);left;refine⟨ay (c5 (cl _ _) _) (by decide),?_⟩;left;refine⟨ay (c5 (cl _ _) _) (by decide),?_⟩;left;refine⟨ay (c5 (cl _ _) _) (by decide),?_⟩;left;refine⟨ay (by rw[aD];exact Nat.add_le_add (c5 (cl _ _) _) (cl _ _)) (by decide),?_⟩;left;refine⟨show 9<=lim by decide,?_⟩;left;refine dc Z λo o0 o1=>?_;left;refine zkd o0 (show o<9 from o1) λx J=>?_
 have cd:¬ zqD (yh (rm.map zj)) (λs=>zaz ad s []) x:=by
  rintro⟨ws,rfl,hw,_⟩
  have key:∀l:List Dt,(∃d∈l,zfN d=false)->stD ws≠.tup l:=λl ⟨d,hd,hf⟩ e=>by rw[<- Dt.tup.inj e] at hd;obtain⟨y,_,rfl⟩:=az.mp hd;cases hf
  rcases aH.mp J with J | J
  ·simp only[aG,bP,or_false] at J;rcases J with e | e | e | e | e | e | e | e
   ·cases e
   ·cases e
   ·cases e
   ·cases e
   ·cases e
   ·have:=congrArg List.length (Dt.tup.inj e);rw[ab] at this;simp only[List.length_nil] at this;lia
   ·exact key _ ⟨.non,aL _ ak,rfl⟩ e
   ·exact key _ ⟨.str (Str.ofString "9"),aL _ ak,rfl⟩ e
  ·exact key _ ⟨.lst [.int 1],bE _ (aL _ ak),rfl⟩ (aw.mp J)
 left;refine zbZ.i Y I (by lia) λb hb=>?_
 obtain rfl:b=false:=by
  cases b
  ·rfl
  ·exact absurd (hb.mp rfl) cd
 left;walk_at "cf";exact hC ⟨by lia,rm,ad,vs,_,_,_,_,_,_,_,_,_,_,_,rfl,Y,I,by lia,by lia⟩
end
def Dm {K:PySem.W.Frag}{h:Heap}{mg:Str->Option Value}{x:Str}{st:Stmt}{ps:List Str}{f:Addr}{I kV dc B q ct:Value}{J D:Option Addr}{L:Array (Option Value)}(X:K.In h)(G:h.Ns mainGlobals mg)(a:PySem.W.nsIn K mainGlobals x=some (some (.ref f)))(l:K.lookup f=some ⟨I,J,.func (PySem.W.fnOf x x (xc st) (zP st) (zf st) .none kV dc B D q ct),L⟩)(c:PySem.W.codeIn K q x=true)(k:PySem.W.keepIn K (.ref f)=true)(b:∀ (kV dc B:Value) (D:Option Addr) (q ct:Value) (F:List Value),F.length=ps.length->bindArgs (PySem.W.fnOf x x (xc st) (zP st) (zf st) .none kV dc B D q ct) ⟨F,[]⟩=pure (ps.zip F)):Dfn K mg x st ps f (PySem.W.fnOf x x (xc st) (zP st) (zf st) .none kV dc B D q ct):=⟨znk l c k,(znk l c k).binds b,PySem.W.mg_of X G a⟩
def DmD{K:PySem.W.Frag}{h:Heap}{mg:Str->Option Value}{x:Str}{st:Stmt}{ps:List Str}{ds:List Value}{f T:Addr}{L kV dc D B ct O:Value}{U F I:Option Addr}{its:Array Value}(X:K.In h)(G:h.Ns mainGlobals mg)(a:PySem.W.nsIn K mainGlobals x=some (some (.ref f)))(l:K.lookup f=some ⟨L,U,.func (PySem.W.fnOf x x (xc st) (zP st) (zf st) (.ref T) kV dc D F B ct),Y⟩)(c:PySem.W.codeIn K B x=true)(k:PySem.W.keepIn K (.ref f)=true)(t:K.lookup T=some ⟨O,I,.seq its Z,J⟩)(b:∀q:List Value,(q++[]).length=ps.length->∃k:Option (Array Value)->Sem (List (Str×Value)),bindArgs (PySem.W.fnOf x x (xc st) (zP st) (zf st) (.ref T) kV dc D F B ct) ⟨q,[]⟩=seqItems? (.ref T) >>= k/\k (some its)=pure (ps.zip (q++[])))(e:∀q:List Value,(q++ds).length=ps.length->∃k:Option (Array Value)->Sem (List (Str×Value)),bindArgs (PySem.W.fnOf x x (xc st) (zP st) (zf st) (.ref T) kV dc D F B ct) ⟨q,[]⟩=seqItems? (.ref T) >>= k/\k (some its)=pure (ps.zip (q++ds))):DfnD K mg x st ps ds f (PySem.W.fnOf x x (xc st) (zP st) (zf st) (.ref T) kV dc D F B ct):=⟨zot l c k,zm9 l rfl t b,zm9 l rfl t e,PySem.W.mg_of X G a⟩
def fin {l:PySem.W.OpenLaw}{w:World}{K:PySem.W.Frag}{mg:Str->Option Value}{fa:Addr}{t:Ad}(q:mg "law" = some (.ref fa))(T:Txt K mg t)(b:∀ (s:Shared) (v:Value),BindsTo s t.d33 ⟨[v],[]⟩ [("_law_script",v)]):∃fd:FuncData,(∀ (s:Shared) (v:Value),BindsTo s fd ⟨[v],[]⟩ [("_law_script",v)])/\∀base:Heap,K.In base->base.Ns mainGlobals mg->FnOk l.prog w K mg base CX0 6 fa fd li (zkP K):=by have e:=q.symm.trans T.q33.m;cases e;exact⟨_,b,λbase _ _=>zrQ T⟩
def walk {l:PySem.W.OpenLaw}{q:Program}{B:List Str}{XP:(Str->Option Value)->Heap->Prop}{YP:World->Heap->Prop}{d:DefRec}{K:Params->PySem.W.Frag}(I:l.most=some 63)(D:d.params.defaults=[])
  (J:∀ (w:World) (h:Heap),YP w h->(K w.params).In h)
  (F:∀ (w:World) (mg:Str->Option Value) (fa:Addr) (h:Heap),(K w.params).In h->h.Ns mainGlobals mg->mg d.name=some (.ref fa)->
   ∃fd:FuncData,(∀ (s:Shared) (u:Value),BindsTo s fd ⟨[u],[]⟩ [("_law_script",u)])/\∀base:Heap,(K w.params).In base->base.Ns mainGlobals mg->FnOk l.prog w (K w.params) mg base CX0 6 fa fd li (zkP (K w.params))) :
  PySem.W.WalkO q B XP YP l.row.toRowW d [] (λf vs=>PySem.call f vs):=
 L2.zqv (n:=63) (k:=6) (x := "_law_script") (CX:=λ_=>CX0) (sp:=λw=>zkP (K w.params)) I (by decide) D ⟨rfl,by decide,by decide⟩ J F (λ_ _ a ns L _ O=>⟨a,ns,rfl,O,L,λ_=>rfl⟩) λ_ _ _ _ _ z=>z
end Law
open PySem PySem.W PyProof.Rows
local macro_rules | `(tactic| walk_at "D")=>`(tactic| (dsimp only;refine' Law.Dm (by assumption) (by assumption) ?a ?l ?c ?k ?b;(case a=>k_is);(case l=>k_is);(case c=>k_is);(case k=>k_is);(case b=>(intro _ _ _ _ _ _ us hl;first | (obtain⟨_,e⟩:=L2.us_1 hl;subst e;rfl) | (obtain⟨_,_,e⟩:=L2.us_2 hl;subst e;rfl) | (obtain⟨_,_,_,e⟩:=L2.us_3 hl;subst e;rfl)))))
local macro_rules | `(tactic| walk_at "Z")=>`(tactic| (refine' PySem.W.mg_none_of (by assumption) (by assumption) ?z;(case z=>k_is)))
local macro_rules | `(tactic| walk_at "E")=>`(tactic| (dsimp only;refine' Law.DmD (by assumption) (by assumption) ?a ?l ?c ?k ?t ?b ?e;(case a=>k_is);(case l=>k_is);(case c=>k_is);(case k=>k_is);(case t=>k_is);(case b=>(intro us hl;first | (exact match us,hl with | [_,_,_,_],_=>⟨_,rfl,rfl⟩)));(case e=>(intro us hl;first | (exact match us,(show us.length=3 by rw[List.length_append] at hl;exact Nat.succ.inj hl) with | [_,_,_],_=>⟨_,rfl,rfl⟩)))))
theorem PySem.W.Fast.te17900024106707573630:True:=.intro
set_option maxRecDepth 100000 in
set_option maxHeartbeats 0 in
theorem PySem.Challenge.cw_allelse_k24_worths_known_holds : PySem.Challenge.rw_allelse_k24_worths_known.Holds := by
 w_on;refine holds_law (by decide +kernel) λ_=>?_;k_head;(case hw=>w_witness2)
 k_fill
 refine Law.walk (l:=PySem.Challenge.rw_allelse_k24_worths_known) rfl rfl (λw h Y=>PySem.W.kIn_of Y) ?F
 case F=>
  intro w mg fa h KX G B;refine' Law.fin (t:=⟨_,_,_,_,_,_,_,_,_,_,_,_,_,_,_,_,_,_,_,_,_,_,_,_,_,_,_,_,_,_,_,_,_,_,_,_,_,_,_,_,_,_,_,_,_,_,_,_,_,_,_,_,_,_,_,_,_,_,_,_,_,_,_,_,_,_,_,_⟩) B ⟨?D0,?D1,?D2,?D3,?D4,?D5,?D6,?D7,?D8,?D9,?D10,?D11,?D12,?D13,?D14,?D15,?D16,?D17,?D18,?D19,?D20,?D21,?D22,?D23,?D24,?D25,?D26,?D27,?D28,?D29,?D30,?D31,?D32,?D33,?z_zip,?z_sorted,?z_set,?z_enumerate,?z_list,?z_tuple,?z_range,?z_len,?z_dict,?z_isinstance,?z_int,?z_bool,?z_max,?z_abs,?q⟩ λs v=>?b
  (case D0 | D1 | D2 | D3 | D4 | D5 | D6 | D7 | D8 | D9 | D10 | D11 | D12 | D13 | D14 | D15 | D16 | D17 | D18 | D20 | D21 | D22 | D23 | D24 | D25 | D26 | D27 | D28 | D29 | D30 | D31 | D32 | D33=>walk_at "D")
  (case D19=>walk_at "E")
  (case z_zip | z_sorted | z_set | z_enumerate | z_list | z_tuple | z_range | z_len | z_dict | z_isinstance | z_int | z_bool | z_max | z_abs | q=>walk_at "Z")
  (case b=>exact .of_eq rfl)


import PyProof.Rows.All
import Wide.All
import OpenK.AllK
import Wide.FinOn
import Lean
import PyProof.EqAt
import PyProof.EqKinds
import PyProof.TupleCall
import PySem.Challenge.RW_allelse_k22_ring_or_worths
set_option Elab.async false
set_option linter.all false
set_option maxRecDepth 100000
set_option maxHeartbeats 4000000
section
local macro_rules | `(tactic| show $e)=>`(tactic|refine $e)
local macro_rules | `(tactic| ext)=>`(tactic|decide)
local macro_rules | `(tactic| right)=>`(tactic|simp_all)
local macro_rules | `(tactic| walk_at "v") => `(tactic| (first | exact Or.inl rfl | exact Or.inr (Or.inl rfl) | exact Or.inr (Or.inr rfl)))
local macro_rules | `(tactic| walk_at "l") => `(tactic| (first | exact Or.inl rfl | exact Or.inr rfl | assumption))
local macro_rules | `(tactic| walk_at "f") => `(tactic| (exact ⟨rfl, rfl, rfl, by decide +kernel, rfl, by decide +kernel, by decide +kernel⟩))
local macro_rules | `(tactic| walk_at "c") => `(tactic| (exact ⟨rfl, by decide +kernel, rfl⟩))
open PySem PySem.Spec
abbrev AA:=Value->Shared->Prop
abbrev AB:=List (Addr×Obj)
abbrev AE:=List (List Int×Addr)
abbrev AF:=List (List Int)
abbrev AG:=List Int
abbrev AH:=PySem.W.Frag
abbrev AI:=Str->Option Value
abbrev AJ:=Option Value
abbrev AK:=Array Value
abbrev AL:=Addr->Prop
abbrev AM:=List Str
abbrev AN:=List Value
abbrev AO:=List Expr
abbrev AQ:=Option Int
abbrev AR:=List Nat
abbrev AY:=List Addr
abbrev AZ:=Shared
abbrev Aa:=Program
abbrev Ab:=World
abbrev Ac:=FuncData
abbrev Ae:=Around
abbrev Ag(p:Program)(w:World)(A:Around){α:Type}:=@wpAny α (model p w) A
abbrev Ah(x:Str):Prop:=(x==("__debug__":Str))=false
abbrev Ai:Str:="_law_pen_here"
abbrev Aj:Str:="_law_room_here"
abbrev Ak:Str:="standing"
abbrev Am:Str:="_law_many"
abbrev An:Str:="_law_book_here"
abbrev Ao:Str:="_law_one"
abbrev Ap:Str:="_law_other"
abbrev Aq:Str:="_law_worths"
abbrev Ar:Str:="_law_at"
abbrev As:Str:="_law_worth"
abbrev At:Str:="_law_standing"
abbrev Au:Str:="room"
abbrev Av:Str:="book"
abbrev Aw:Str:="_law_boxes"
abbrev Ax:Str:="_law_k"
abbrev Ay:Str:="_law_given"
abbrev Az:Str:="_law_box"
abbrev A1:Str:="leads"
abbrev A5:Str:="_law_found"
abbrev A6:Str:="_law_longer"
abbrev A7:Str:="_law_better"
abbrev A8:Str:="_law_worse"
abbrev A9:Str:="_law_every"
namespace L2
open PyProof.Rows
abbrev aa:=@wpAny_bind
abbrev ab:=@List.length_map
abbrev ac:=@List.getElem?_eq_some_iff
abbrev ae:=@wpAny_pure
abbrev af:=@Heap.get?_push_of_some
abbrev ah:=@List.getElem?_eq_getElem
abbrev ai:=@Nat.le_refl
abbrev aj:=@List.getElem?_map
abbrev ak:=@List.mem_of_getElem?
abbrev am:=@List.mem_cons_self
abbrev ao:=@List.getElem?_set_ne
abbrev aq:=@Heap.get?_push_size
abbrev ar:=@List.mem_cons_of_mem
abbrev au:=@Heap.lt_size
abbrev aw:=@Nat.le_trans
abbrev ax:=@List.mem_singleton
abbrev ay:=@List.map_map
abbrev az:=@List.length_range
abbrev aA:=@Option.map_eq_some_iff
abbrev aB:=@List.map_cons
abbrev aC:=@List.mem_map
abbrev aD:=@List.length_append
abbrev aE:=@List.mem_cons
abbrev aF:=@List.map_append
abbrev aG:=@List.mem_append
abbrev aH:=@PassesOwn.never
abbrev aI:=@Bool.false_ne_true
abbrev aJ:=@List.getElem?_set_self
abbrev aK:=@Nat.zero_le
abbrev aL:=@Nat.ne_of_lt
abbrev aM:=@Nat.lt_of_le_of_lt
abbrev aN:=@List.length_take
abbrev aO:=@List.length_cons
abbrev aP:=@Bool.false_eq_true
abbrev aQ:=@wpAny_mono
abbrev aR:=@Int.toNat_natCast
abbrev aS:=@wpAny_call_entry
abbrev aT:=@List.take_length
abbrev aU:=@List.mem_append_right
abbrev aV:=@List.size_toArray
abbrev aW:=@List.mem_range
abbrev aX:=@PySem.boot_len
abbrev aY:=@Nat.lt_of_lt_of_le
abbrev aZ:=@Array.length_toList
abbrev a6:=@List.getElem?_append_left
abbrev a8:=@List.length_set
abbrev a9:=@decide_eq_true
abbrev ba:=@List.getD_eq_getElem?_getD
abbrev bc:=@decide_eq_false
abbrev be:=@wpAny_holding
abbrev bf:=@List.getElem?_append_right
abbrev bg:=@List.exists_cons_of_ne_nil
abbrev bh:=@wpAny_newObj_type
abbrev bi:=@List.eq_nil_of_length_eq_zero
abbrev bj:=@Heap.get?_update_self
abbrev bm:=@List.dropLast_concat_getLast
abbrev bn:=@List.all_eq_true
abbrev bp:=@wpAny_askSetting
abbrev bq:=@wpAny_setState_of
abbrev br:=@Heap.SameBut.update
abbrev bt:=@List.getElem?_cons_succ
abbrev bu:=@List.mem_filter
abbrev bv:=@Option.some.inj
abbrev bw:=@Bool.and_eq_true
abbrev bz:=@of_decide_eq_true
abbrev bA:=@List.mem_append_left
abbrev bB:=@List.mem_iff_getElem
abbrev bC:=@Heap.get?_update_other
abbrev bD:=@wpAny_setField
abbrev bE:=@PySem.F.plainAttrs_list
abbrev bF:=@List.getElem_range
abbrev bG:=@PySem.W.kia_one
abbrev bH:=@List.nodup_cons
abbrev bI:=@List.find?_cons
abbrev bJ:=@Classical.byContradiction
abbrev bK:=@wpAny_standAt
abbrev bL:=@List.getElem_mem
abbrev bM:=@List.not_mem_nil
abbrev bN:=@sizeLine_eq
abbrev bO:=@wpAny_field
abbrev bP:=@List.pairwise_map
abbrev bQ:=@PySem.F.slot_dict_keyiterator_next
abbrev bR:=@Heap.size_push
abbrev bS:=@PyProof.Rows.callWith_type1
abbrev bT:=@Obj.data_mapFields
abbrev bU:=@Array.getD_eq_getD_getElem?
abbrev bV:=@PyProof.Rows.boot_tuple
abbrev bW:=@List.mem_of_mem_take
abbrev bX:=@List.take_of_length_le
abbrev bY:=@List.filterMap_cons
abbrev bZ:=@wpAny_truthy_bool
abbrev b5:=@List.append_assoc
abbrev b6:=@Int.le_refl
abbrev b7:=@List.pairwise_iff_getElem
abbrev b8:=@Int.emod_lt_of_pos
abbrev b9:=@List.pairwise_cons
abbrev cb:=@List.getElem_inj
abbrev ce:=@wpAny_typeNameOfWhole_keyiter
abbrev cg:=@Nat.le_of_lt
abbrev ci:=@wpAny_seqItems
abbrev cj:=@PyProof.Rows.F.plain_set_update_loop
abbrev ck:=@Nat.lt_trichotomy
abbrev cm:=@List.nodup_append
abbrev cq:=@Nat.not_lt_zero
abbrev cr:=@F.slot_zip_next
abbrev cu:=@F.slot_tuple_iterator_next
abbrev cv:=@Array.getElem?_eq_some_iff
abbrev cw:=@List.length_drop
abbrev cx:=@wpAny_isInstance
abbrev cy:=@Nat.lt_irrefl
abbrev cz:=@List.length_singleton
abbrev cA:=@Bool.and_true
abbrev cB:=@wpAny_attempt
abbrev cC:=@Array.getElem?_eq_getElem
abbrev cD:=@List.drop_eq_getElem_cons
abbrev cE:=@Nat.pow_le_pow_right
abbrev cF:=@Around.under_plainId
abbrev cG:=@wpAny_passesOwn
abbrev cH:=@Bool.eq_iff_iff
abbrev cI:=@Int.emod_nonneg
abbrev cJ:=@List.reverse_cons
abbrev cK:=@Nat.le_of_lt_succ
abbrev cL:=@wpAny_typeOf
abbrev cN:=@PySem.mem_of_lookup
abbrev cO:=@List.any_cons
abbrev cP:=@List.all_cons
abbrev cQ:=@List.replicate_succ
abbrev cR:=@List.map_congr_left
abbrev cS:=@Int.mul_le_mul_of_nonneg_left
abbrev cT:=@PyProof.Rows.boot_list
abbrev cU:=@List.mem_filterMap
abbrev cV:=@List.filter_append
abbrev cW:=@Int.natCast_nonneg
abbrev cY:=@Obj.isFreed_of_fields
abbrev cZ:=@List.getElem?_eq_none
abbrev c5:=@codeAny_builtin
abbrev c6:=@List.take_append_drop
abbrev c7:=@PyProof.Rows.boot_all
abbrev c8:=@wpAny_pyIter_list
abbrev c9:=@List.ext_getElem?
abbrev da:=@Nat.lt_succ_of_lt
abbrev db:=@Array.getElem_toList
abbrev de:=@Int.mul_le_mul
abbrev dg:=@isSubtype_stop
abbrev dh:=@PySem.F.args_dict_keyiterator_next_1
abbrev di:=@PyProof.Rows.F.entry_set_update_loop
abbrev dj:=@List.getElem_map
abbrev dl:=@PySem.F.entry_dict_keyiterator_next
abbrev dn:=@List.filter_eq_self
abbrev dq:=@Nat.ne_of_gt
abbrev dr:=@List.getElem?_take_of_lt
abbrev du:=@PySem.F.args_tuple_add_2
abbrev dw:=@call_meets
abbrev dy:=@PyProof.Rows.boot_sorted
abbrev dz:=@PySem.F.entry_tuple_add
abbrev dB:=@List.pairwise_singleton
abbrev dC:=@codeAny_of_tree
abbrev dD:=@Array.append_empty
abbrev dE:=@Int.lt_irrefl
abbrev dF:=@Option.bind_eq_some_iff
abbrev dG:=@wpAny_pyNext_list_item
abbrev dH:=@PySem.F.slot_tuple_add
abbrev dJ:=@List.take_sublist
abbrev dL:=@List.flatten_cons
abbrev dM:=@wpAny_rule
abbrev dN:=@Obj.cls_mapFields
abbrev dO:=@Nat.lt_succ_of_le
abbrev dP:=@F.args_zip_next_1
abbrev dQ:=@wpAny_pyNext_list_end
abbrev dR:=@codeAny_mono
abbrev dS:=@List.map_nil
abbrev dU:=@List.mem_iff_getElem?
abbrev dW:=@builtinLookup_eq_fast
abbrev dX:=@PyProof.Rows.boot_abs
abbrev dY:=@List.nodup_range
abbrev dZ:=@F.entry_zip_next
abbrev ee:=@wpAny_pyIter_zip
abbrev eh:=@Array.mem_toList_iff
abbrev ei:=@Paired.length
abbrev el:=@F.args_tuple_iterator_next_1
abbrev en:=@wpAny_execs_nil
abbrev eo:=@List.append_nil
abbrev er:=@wpAny_specialOf
abbrev et:=@beq_eq_false_iff_ne
abbrev eu:=@Nat.le_succ
abbrev eA:=@List.foldl_cons
abbrev eB:=@List.forIn_cons
abbrev eC:=@F.entry_tuple_iterator_next
abbrev eD:=@PySem.W.kqd_eqv
abbrev eE:=@Heap.get?_update_ne
abbrev eF:=@wpAny_setEntries_of
abbrev eG:=@Int.toNat_of_nonneg
abbrev eI:=@List.length_pos_iff
abbrev eJ:=@wpAny_pyIter_tuple
abbrev eK:=@wpAny_Call_Name_kw
abbrev eL:=@List.filterMap_map
abbrev eM:=@codeAny_loop
abbrev eO:=@Nat.add_sub_cancel
abbrev eQ:=@Nat.succ_pos
abbrev eR:=@List.find?_eq_none
abbrev eS:=@Int.le_trans
abbrev eU:=@List.map_inj_right
abbrev eV:=@List.nodup_nil
abbrev eW:=@wpAny_fieldsOf
abbrev eX:=@List.count_nil
abbrev eY:=@Nat.mod_lt
abbrev eZ:=@wpAny_pyIter_slot
abbrev e7:=@wpAny_dictEntries
abbrev e8:=@List.getElem_take
abbrev ff:=@wpAny_noted
abbrev fg:=@wpAny_of_eq
abbrev fj:=@wpAny_handled
abbrev fm:=@wpAny_onRaise
abbrev fq:=@Bool.not_true
abbrev fw:=@plainId_quiet
abbrev fB:=@noFill_tuple_add
abbrev fD:=@List.ext_getElem
abbrev fE:=@Nat.lt_succ_self
abbrev fF:=@wpAny_forIn_list
abbrev fG:=@List.any_eq_true
abbrev fH:=@List.mem_flatMap
abbrev fJ:=@typeIs_int
abbrev Key:=Sum Int Str
def zf5:Key->Value->Bool
 | .inl k,v=>Value.isInt k v
 | .inr x,v=>Value.isStrOf x v
def keyH (w:Ab):Key->Int
 | .inl k=>hashInt k
 | .inr x=>hashStr w x
def zW:∀ {k:Key} {v:Value},zf5 k v=true->(∃i t,k=Sum.inl i/\v=Value.int i t)\/(∃x t,k=Sum.inr x/\v=Value.str x t)
 | .inl i,v,h=>by obtain⟨t,e⟩:=Value.isInt_shape (k:=i) (v:=v) h;exact .inl ⟨i,t,rfl,e⟩
 | .inr x,v,h=>by obtain⟨t,e⟩:=Value.isStrOf_shape (x:=x) (v:=v) h;exact .inr ⟨x,t,rfl,e⟩
def ze0 (i:Int)(t:Tok):zf5 (.inl i) (.int i t)=true:=by simp[zf5,Value.isInt]
def zje (x:Str)(t:Tok):zf5 (.inr x) (.str x t)=true:=by simp[zf5,Value.isStrOf]
def zq9 (a b:Int):decide ((Sum.inl a:Key)=Sum.inl b)=(a==b):=by grind
def zrc (a b:Str):decide ((Sum.inr a:Key)=Sum.inr b)=decide (a=b):=by grind
def zra (a:Int)(b:Str):decide ((Sum.inl a:Key)=Sum.inr b)=false:=rfl
def zrb (a:Str)(b:Int):decide ((Sum.inr a:Key)=Sum.inl b)=false:=rfl
def zX (prog:Aa)(w:Ab):PySem.KeyKind prog w Key where
 is:=zf5
 hash:=keyH w
 inj:=λv a b I F=>by
  rcases zW I with ⟨i,t,rfl,rfl⟩ | ⟨x,t,rfl,rfl⟩;rcases zW F with ⟨j,u,rfl,e⟩ | ⟨y,u,rfl,e⟩;injection e with q _;rw[q];exact nomatch e;rcases zW F with ⟨j,u,rfl,e⟩ | ⟨y,u,rfl,e⟩;exact nomatch e;injection e with q _;rw[q]
 byValue:=λk v h=>by rcases zW h with ⟨i,t,rfl,rfl⟩ | ⟨x,t,rfl,rfl⟩ <;> rfl
 pyHash:=λB h=>by
  rcases zW B with ⟨i,t,rfl,rfl⟩ | ⟨x,t,rfl,rfl⟩;exact wpAny_pyHash_int h;exact wpAny_pyHash_str h
 eqBool:=λJ B h=>by
  rcases zW J with ⟨i,t,rfl,rfl⟩ | ⟨x,t,rfl,rfl⟩;rcases zW B with ⟨j,u,rfl,rfl⟩ | ⟨y,u,rfl,rfl⟩;rw[zq9] at h;exact wpAny_eqBool_int h;rw[zra] at h;exact SeqAt.EqAt.int_str i t y u _ _ _ _ h;rcases zW B with ⟨j,u,rfl,rfl⟩ | ⟨y,u,rfl,rfl⟩;rw[zrb] at h;exact SeqAt.EqAt.str_int x t j u _ _ _ _ h;rw[zrc] at h;exact wpAny_eqBool_str h
 «strs»:=λk x t v h=>by
  rcases zW h with ⟨i,u,rfl,e⟩ | ⟨y,u,rfl,e⟩;exact nomatch e
  ·injection e with q _;subst q;cases v <;> rfl
def zga (prog:Aa)(w:Ab)(i:Int)(t:Tok):(zX prog w).is (.inl i) (.int i t)=true:=ze0 i t
def zgb (prog:Aa)(w:Ab)(x:Str)(t:Tok):(zX prog w).is (.inr x) (.str x t)=true:=zje x t
inductive V where
 | non | bl (b:Bool) | int (i:Int) | str (x:Str) | byt (b:Array UInt8) | flt (b:UInt64) | ref (a:Addr) | ty (n:String)
 deriving DecidableEq
abbrev AT:=List V
def yF:V->Value->Prop
 | .non,u=>u=Value.none
 | .bl b,u=>u=Value.bool b
 | .int i,u=>∃t,u=Value.int i t
 | .str x,u=>∃t,u=Value.str x t
 | .byt b,u=>∃t,u=Value.bytes b t
 | .flt b,u=>∃t,u=Value.float b t
 | .ref a,u=>u=Value.ref a
 | .ty n,u=>u=Value.type n
abbrev z0:AT->AN->Prop:=Paired yF
def z0.length(r:z0 xs q):xs.length=q.length:=ei r
def z0.get:∀ {xs:AT} {q:AN} {i:Nat} {x:V},z0 xs q->xs[i]?=some x->∃u,q[i]?=some u/\yF x u
 | _,_,_,_,.nil,e=>by simp at e
 | _,_,0,_,.cons r _,e=>by right
 | _,_,i+1,x,.cons _ t,e=>by
  obtain⟨u,h1,h2⟩:=z0.get (i:=i) (x:=x) t (by simpa using e);right
def z0.set(r:yF x u):∀ {xs:AT} {B:AN} (i:Nat),z0 xs B->z0 (xs.set i x) (B.set i u)
 | _,_,_,.nil=>.nil
 | _,_,0,.cons _ t=>.cons r t
 | _,_,i+1,.cons q t=>.cons q (z0.set r i t)
def z0.append:∀ {xs ys:AT} {q B:AN},z0 xs q->z0 ys B->z0 (xs++ys) (q++B)
 | _,_,_,_,.nil,s=>s
 | _,_,_,_,.cons r t,s=>.cons r (z0.append t s)
def z0.take:∀ {xs:AT} {q:AN} (n:Nat),z0 xs q->z0 (xs.take n) (q.take n)
 | _,_,0,_=>.nil
 | _,_,_+1,.nil=>.nil
 | _,_,n+1,.cons r t=>.cons r (z0.take n t)
def z0.drop:∀ {xs:AT} {q:AN} (n:Nat),z0 xs q->z0 (xs.drop n) (q.drop n)
 | _,_,0,r=>r
 | _,_,_+1,.nil=>.nil
 | _,_,n+1,.cons _ t=>z0.drop n t
def zh2:Option V->AJ->Prop
 | some v,some u=>yF v u
 | none,none=>True
 | _,_=>False
def KV {κ:Type}:List (κ×V)->List (κ×Value)->Prop:=Paired λ(p:κ×V) (q:κ×Value)=>p.1=q.1/\yF p.2 q.2
def kV:Key->V
 | .inl i=>.int i
 | .inr x=>.str x
inductive HO where
  | lst (xs:AT)
  | tup (xs:AT)
  | dK (kvs:List (Key×V)) | dT (kvs:List (List Key×V))
  | set (S:Int->Bool) (n:Nat)
  | ins (C dx:Addr) (fs:List (Str×V))
  | own (x:Addr)
  | xd (fs:List (Str×V))
  | met (f x:Addr)
  | rng (lo hi:Int)
  | frz (o:Obj) (u:HO)
  | tbl (ps:AK)
  | ext (φ:Heap->Prop)
abbrev Hp:=Addr->Option HO
def upd (H:Hp)(a:Addr)(o:HO):Hp:=λb=>if b=a then some o else H b
def zj:upd H a o a=some o:=by unfold upd;rw[if_pos rfl]
def zd(h:b≠a):upd H a o b=H b:=by unfold upd;rw[if_neg h]
def zp5:upd (upd H a o) a u=upd H a u:=by funext b;unfold upd;split <;> rfl
def zlE {H:Hp}{a b:Addr}{o u:HO}(h:H a=some o)(h':H b=some u)(d:o≠u):a≠b:=by grind
def zc {H:Hp}{a b:Addr}{o:HO}(h:H a=some o)(h':H b=none):a≠b:=by grind
def zaq (h:Heap)(a:Addr)(items:AK):Prop:=∃o,h.get? a=some o/\o.cls = .type "tuple" /\ (∃n,o.data = .seq items n)/\o.dict=none
def zaq.tup(x:zaq h a items):IsTup h a items:=let ⟨o,h1,h2,h3,_⟩:=x;⟨o,h1,h2,h3⟩
def zaq.lt(x:zaq h a items):a<h.objs.size:=x.tup.lt
def zaq.new (h:Heap)(items:AK):zaq (h.push { cls:=.type "tuple",data:=.seq items }) h.objs.size items:=⟨_,aq _ rfl,rfl,⟨_,rfl⟩,rfl⟩
section
variable (P:Aa)(w:Ab)
def yi (H:Hp)(h:Heap)(a:Addr):HO->Prop
 | .lst xs=>xs.length<=sizeLine/\∃ (its:AN) (n:Nat),z0 xs its/\h.get? a=some { cls:=.type "list",data:=.seq its.toArray n }
 | .tup xs=>xs.length<=sizeLine/\∃its:AN,z0 xs its/\zaq h a its.toArray
 | .dK kvs=>kvs.length<=sizeLine/\(a==sysModules)=false/\∃vs,KV kvs vs/\h.DictOf (zX P w) a vs
 | .dT kvs=>kvs.length<=sizeLine/\(a==sysModules)=false/\∃xs:List (List Key×Addr×Value),
   Paired (λ(p:List Key×V) (q:List Key×Addr×Value)=>p.1=q.1/\H q.2.1=some (.tup (p.1.map kV))/\yF p.2 q.2.2) kvs xs/\
   ∃o es F,h.get? a=some o/\o.ExactDict/\o.data = .dict es F/\es.toList=xs.map (entryOfKey (tupleKind (zX P w)))/\(xs.map (·.1)).Nodup
 | .set S n=>h.SetOf (intKind P w) a S n
 | .ins C dx fs=>H dx=some (.own a)/\fs.length<=1000/\dx≠a/\h.get? a=some (PySem.W.instObj C dx)/\
   ∃mA,h.Ns1 dx mA/\(∀f,zh2 (fs.lookup f) (mA f))/\PySem.Within mA (fs.map (·.1))
 | .own _=>∃o,h.get? a=some o
 | .xd fs=>∃mA,h.Ns1 a mA/\∀f,zh2 (fs.lookup f) (mA f)
 | .rng lo hi=>∃t u v,h.get? a=some { cls:=.type "range",data:=.fields #[.int lo t,.int hi u,.int 1 v] }
 | .frz o u=>h.get? a=some o/\yi H h a u
 | .tbl ps=>h.get? a=some { cls:=.none,data:=.fields ps }
 | .met f x=>h.get? a=some (PySem.W.methodObj (.ref f) (.ref x))
 | .ext B=>B h/\(∃o,h.get? a=some o)/\∀h1 h2:Heap,B h1->(∀o,h1.get? a=some o->h2.get? a=some o)->B h2
def HOk (H:Hp)(h:Heap):Prop:=∀a o,H a=some o->yi P w H h a o
end
section
variable {P:Aa}{w:Ab}{H H':Hp}{h h':Heap}{a:Addr}{o:HO}
def yi.lt (x:yi P w H h a o):a<h.objs.size:=by
 cases o with
 | lst xs=>obtain⟨_,_,_,_,e⟩:=x;exact au e
 | tup xs=>obtain⟨_,_,_,p⟩:=x;exact p.lt
 | dK kvs=>obtain⟨_,_,_,_,o,_,_,e,_⟩:=x;exact au e
 | dT kvs=>obtain⟨_,_,_,_,o,_,_,e,_⟩:=x;exact au e
 | set S n=>obtain⟨o,_,_,_,e,_⟩:=x;exact au e
 | ins C dx fs=>obtain⟨_,_,_,e,_⟩:=x;exact au e
 | own y=>obtain⟨_,e⟩:=x;exact au e
 | xd fs=>obtain⟨_,⟨_,_,_,e,_⟩,_⟩:=x;exact au e
 | rng lo hi=>obtain⟨_,_,_,e⟩:=x;exact au e
 | frz ob u=>obtain⟨e,_⟩:=x;exact au e
 | tbl ps=>exact au (show h.get? a=some _ from x)
 | met f y=>exact au (show h.get? a=some _ from x)
 | ext q=>obtain⟨_,⟨_,e⟩,_⟩:=x;exact au e
def Paired.mapP {α B:Type}{F G:α->B->Prop}:∀ {l₁:List α} {q:List B},Paired F l₁ q->(∀a b,F a b->G a b)->Paired G l₁ q
 | _,_,.nil,_=>.nil
 | _,_,.cons r t,f=>.cons (f _ _ r) (Paired.mapP t f)
def Paired.imp' {α B:Type}{F G:α->B->Prop}(f:∀a b,F a b->G a b){l₁:List α}{q:List B}(r:Paired F l₁ q):Paired G l₁ q:=Paired.mapP r f
def yi.stay (x:yi P w H h a o)(k:∀b u,(b=a\/H b=some (.own a))->h.get? b=some u->h'.get? b=some u)
  (I:∀b,H b=some (.own a)->H' b=some (.own a)) (J:∀b xs,H b=some (.tup xs)->H' b=some (.tup xs)):yi P w H' h' a o:=by
 induction o with
 | lst xs=>obtain⟨z,its,n,r,e⟩:=x;exact⟨z,its,n,r,k _ _ (.inl rfl) e⟩
 | tup xs=>obtain⟨z,its,r,ob,e,c⟩:=x;exact⟨z,its,r,ob,k _ _ (.inl rfl) e,c⟩
 | dK kvs=>obtain⟨z,y,vs,r,ob,es,B,e,c⟩:=x;exact⟨z,y,vs,r,ob,es,B,k _ _ (.inl rfl) e,c⟩
 | dT kvs=>
  obtain⟨z,y,xs,r,ob,es,B,e,c⟩:=x;exact⟨z,y,xs,Paired.mapP r λp q z=>⟨z.1,J _ _ z.2.1,z.2.2⟩,ob,es,B,k _ _ (.inl rfl) e,c⟩
 | set S n=>obtain⟨ob,es,B,t,e,c⟩:=x;exact⟨ob,es,B,t,k _ _ (.inl rfl) e,c⟩
 | ins C dx fs=>
  obtain⟨d,z,L,e,mA,⟨F,es,B,O,c⟩,r⟩:=x;exact⟨I _ d,z,L,k _ _ (.inl rfl) e,mA,⟨F,es,B,k _ _ (.inr d) O,c⟩,r⟩
 | own y=>obtain⟨ob,e⟩:=x;exact⟨ob,k _ _ (.inl rfl) e⟩
 | xd fs=>obtain⟨mA,⟨F,es,B,e,c⟩,r⟩:=x;exact⟨mA,⟨F,es,B,k _ _ (.inl rfl) e,c⟩,r⟩
 | rng lo hi=>obtain⟨t,u,v,e⟩:=x;exact⟨t,u,v,k _ _ (.inl rfl) e⟩
 | frz ob u U=>obtain⟨e,q⟩:=x;exact⟨k _ _ (.inl rfl) e,U q⟩
 | tbl ps=>
  have e:h.get? a=some { cls:=.none,data:=.fields ps }:=x;change h'.get? a=some { cls:=.none,data:=.fields ps };exact k a _ (.inl rfl) e
 | met f y=>
  have e:h.get? a=some (PySem.W.methodObj (.ref f) (.ref y)):=x;change h'.get? a=some (PySem.W.methodObj (.ref f) (.ref y));exact k a _ (.inl rfl) e
 | ext Y=>obtain⟨p,⟨o,e⟩,st⟩:=x;exact⟨st _ _ p λo q=>k _ _ (.inl rfl) q,⟨o,k _ _ (.inl rfl) e⟩,st⟩
def HOk.lt (x:HOk P w H h)(e:H a=some o):a<h.objs.size:=(x a o e).lt
def HOk.fresh (x:HOk P w H h)(e:h.objs.size<=a):H a=none:=by
 cases q:H a with
 | none=>rfl
 | some u=>exact absurd (aY (x.lt q) e) (cy _)
def HOk.kept (x:HOk P w H h)(k:∀b u,h.get? b=some u->h'.get? b=some u):HOk P w H h':=λa o e=>
 (x a o e).stay (λb u _ q=>k b u q) (λ_ q=>q) λ_ _ q=>q
def HOk.laid (x:HOk P w H h)(k:∀b u,h.get? b=some u->h'.get? b=some u)(J:h.objs.size<=a)(B:yi P w (upd H a o) h' a o):HOk P w (upd H a o) h':=λb u e=>by
 have F:=x.fresh J;by_cases I:b=a;subst I;rw[zj] at e;cases e;exact B;rw[zd I] at e;exact (x b u e).stay (λc v _ q=>k c v q) (λc q=>by rw[zd (zc q F)];exact q) λc xs q=>by rw[zd (zc q F)];exact q
end
def Rd (H:Hp)(a:Addr)(u:HO):Prop:=H a=some u\/∃o,H a=some (.frz o u)
def Rd.ok(r:Rd H a u)(x:HOk P w H h):yi P w H h a u:=by
 rcases r with r | ⟨o,r⟩;exact x a u r;obtain⟨_,q⟩:=x a _ r;exact q
def Mut:Option HO->Prop
 | some (.lst _)=>True
 | some (.dK _)=>True
 | some (.dT _)=>True
 | some (.set _ _)=>True
 | some (.ins _ _ _)=>True
 | some (.ext _)=>True
 | _=>False
section
variable {P:Aa}{w:Ab}{H:Hp}{h h':Heap}{x e:Addr}{o':HO}
def HOk.write (Z:HOk P w H h)(I:Mut (H x))(he:e=x\/H e=some (.own x))(k:∀b u,b≠e->h.get? b=some u->h'.get? b=some u)(J:∃u,h'.get? e=some u)
  (L:yi P w (upd H x o') h' x o'):HOk P w (upd H x o') h':=λb u q=>by
 have B:∀c y,H c=some (.own y)->c≠x:=λc y r z=>by subst z;rw[r] at I;exact I
 have F:∀c xs,H c=some (.tup xs)->c≠x:=λc xs r z=>by subst z;rw[r] at I;exact I
 by_cases U:b=x;subst U;rw[zj] at q;cases q;exact L;rw[zd U] at q;by_cases O:b=e
 have Y:H b=some (.own x):=by
  grind
 rw[q] at Y;cases Y;obtain⟨v,hv⟩:=J;exact⟨v,by rw[O];exact hv⟩;show (Z b u q).stay (λc v hc r=>k c v ?_ r) (λc r=>by rw[zd (B c b r)];exact r) λc xs r=>by rw[zd (F c xs r)];exact r
 grind
end
structure Un (fs ex:AY)(H H':Hp)(h h':Heap):Prop where
 keep:∀b o,h.get? b=some o->H b=none->b∉fs->b∉ex->h'.get? b=some o
 slot:∀b o,h.get? b=some o->H b=none->b∈fs->b∉ex->∃sl,h'.get? b=some { o with slots:=sl }
 free:∀b o,h.get? b=some o->H b=none->b∉ex->H' b=none
 there:∀b o,h.get? b=some o->b∉ex->∃o',h'.get? b=some o'
 tups:∀b xs,H b=some (.tup xs)->H' b=some (.tup xs)
 frzs:∀b o u,H b=some (.frz o u)->H' b=some (.frz o u)
 tbls:∀b ps,H b=some (.tbl ps)->∃more,H' b=some (.tbl (ps++more))
section
variable {fs fs' ex ex':AY}{H H1 H2:Hp}{h h1 h2 h':Heap}{a x e:Addr}{o:HO}
def Un.any(u:Un fs ex H H1 h h1)(q:h.get? b=some ob)(n:H b=none)(B:b∉ex):∃I,h1.get? b=some { ob with slots:=I }:=by
 by_cases F:b∈fs;exact u.slot b ob q n F B;exact⟨ob.slots,u.keep b ob q n F B⟩
def Un.kept (k:∀b u,h.get? b=some u->h'.get? b=some u):Un fs ex H H h h':=
 ⟨λb ob q _ _ _=>k b ob q,λb ob q _ _ _=>⟨ob.slots,k b ob q⟩,λ_ _ _ n _=>n,λb ob q _=>⟨ob,k b ob q⟩,λ_ _ q=>q,λ_ _ _ q=>q,λ_ ps q=>⟨#[],by rw[q];simp⟩⟩
def Un.refl:Un fs ex H H h h:=Un.kept λ_ _ q=>q
def Un.laid (k:∀b u,h.get? b=some u->h'.get? b=some u)(F:h.objs.size<=a)(B:H a=none):Un fs ex H (upd H a o) h h' where
 keep:=λb u q _ _ _=>k b u q
 slot:=λb u q _ _ _=>⟨u.slots,k b u q⟩
 free:=λb u q n _=>by rw[zd (aL (aY (au q) F))];exact n
 there:=λb u q _=>⟨u,k b u q⟩
 tups:=λb xs q=>by rw[zd (zc q B)];exact q
 frzs:=λb u xs q=>by rw[zd (zc q B)];exact q
 tbls:=λb ps q=>⟨#[],by rw[zd (zc q B),q];simp⟩
def Un.write (B:Mut (H x))(O:e=x\/H e=some (.own x))(k:∀b u,b≠e->h.get? b=some u->h'.get? b=some u)(J:∃u,h'.get? e=some u):Un fs ex H (upd H x o) h h':=by
 have L:∀b,H b=none->b≠x:=λb n z=>by subst z;rw[n] at B;exact B
 have I:∀b,H b=none->b≠e:=λb n z=>by grind
 have F:∀b u,H b=some u->¬ Mut (some u)->b≠x:=λb u q nm z=>by subst z;rw[q] at B;exact nm B
 show⟨λb u q n _ _=>k b u (I b n) q,λb u q n _ _=>⟨u.slots,k b u (I b n) q⟩,λb u q n _=>by rw[zd (L b n)];exact n,λb u q _=>?_,
  λb xs q=>by rw[zd (F b _ q λz=>z)];exact q,λb u xs q=>by rw[zd (F b _ q λz=>z)];exact q,λb ps q=>⟨#[],by rw[zd (F b _ q λz=>z),q];simp⟩⟩
 grind
end
def trk (h:Heap)(H:Hp):AY:=(List.range h.objs.size).filter λa=>(H a).isSome
def zk9 (h:Heap)(H:Hp):Heap:=PySem.W.hideAll h (trk h H)
def ziR (h:Heap)(H:Hp):(zk9 h H).objs.size=h.objs.size:=PySem.W.hideAll_size _ _
def zla(e:h.get? b=some o)(n:H b=none):(zk9 h H).get? b=some o:=
 PySem.W.hideAll_get _ e λB=>by
  have q:(H b).isSome=true:=(bu.mp B).2;right
def zoJ(e:(zk9 h H).get? b=some o):h.get? b=some o/\H b=none:=by
 have B:h.get? b=some o:=PySem.W.of_hideAll (trk h H) e;show⟨B,?_⟩
 cases q:H b with
 | none=>rfl
 | some x=>
  have F:b∈trk h H:=bu.mpr ⟨aW.mpr (au B),by simp[q]⟩;have z:(zk9 h H).get? b=none:=PySem.W.hideAll_none (trk h H) F;grind
def znA (g h:Heap)(L:Addr):AB:=(List.range h.objs.size).filterMap λa=>if a=L\/(g.get? a).isSome=true then none else (h.get? a).map λo=>(a,o)
def zQ (g h:Heap)(L d:Addr):AB:=(znA g h L).filter λp=>decide (p.1≠d)
structure Mod (K:AH)(mg:AI)(base:Heap):Prop where
 kin:K.In base
 glob:base.Ns mainGlobals mg
 blt:∃mb,base.Ns builtinsNs mb/\∀x:Str,x ≠ "__name__" -> mb x=bootBuiltins x
 nolimit:base.NoLimit
structure Cx where
 prog:Aa
 w:Ab
 K:AH
 mg:AI
 base:Heap
 A:Ae
 N:AM
 s₀:AZ
 H₀:Hp
 env:Env
 outer:List Env
 stack:List Env
 ex:AY
 fn:Str->Bool
 calm:Bool
 pn:AB
 xe:AA
abbrev Af (X:Cx){α:Type}:=@wpAny α (model X.prog X.w) X.A
def frs (l:List Env):AY:=l.filterMap (·.frame)
abbrev Cx.fs (X:Cx):AY:=frs X.outer
def Vis (q:Scope)(x:Str):Prop:=q.names.lookup x=some .local\/q.names.lookup x=some .cell\/q.names.lookup x=some .free
def Loc (q:Scope)(x:Str):Prop:=q.names.lookup x=some .local\/q.names.lookup x=some .cell
def Look (env:Env)(h:Heap)(m:AI)(x:Str)(u:Value):Prop:=
 (env.kindOf x=some .local/\m x=some u)\/((env.kindOf x=some .cell\/env.kindOf x=some .free)/\∃c,env.cells.lookup x=some c/\h.IsCell c (some u))
structure Cx.Ok (X:Cx):Prop where
 mod:Mod X.K X.mg X.base
 kind:X.env.scope.kind = .function
 glob:X.env.globals=mainGlobals
 blt:X.env.builtins=builtinsNs
 above:X.s₀.heap.objs.size<=X.env.locals
 inj:∀x y c,X.env.cells.lookup x=some c->X.env.cells.lookup y=some c->x=y
 has:∀x,(X.env.kindOf x=some .cell\/X.env.kindOf x=some .free)->∃c,X.env.cells.lookup x=some c
 cab:∀x c,X.fn x=true->X.env.cells.lookup x=some c->X.s₀.heap.objs.size<=c
 hd:X.calm=true->X.A.handled=none
 frames:X.A.frames=some X.stack
 stk:X.stack=X.outer\/(X.stack=X.env::X.outer/\X.env.frame=some X.env.locals)
 exf:∀b∈X.ex,b≠X.env.locals/\∀x c,X.env.cells.lookup x=some c->c≠b
 bs:∀b o,X.base.get? b=some o->X.s₀.heap.get? b=some o/\X.H₀ b=none
 bsz:X.base.objs.size<=X.s₀.heap.objs.size
 noex:∀b o,X.base.get? b=some o->b∉X.ex
 exfs:∀b∈X.ex,b∉X.fs
 funs:X.s₀.heap.FunFrames X.base X.outer
 frf:∀b∈X.fs,X.H₀ b=none
structure Inv (X:Cx)(pins:AB)(σ:List (Option V))(H:Hp)(s:AZ):Prop where
 ok:X.Ok
 os:s.os=X.s₀.os
 bare:AllBare s.gens
 base:Un X.fs X.ex X.H₀ H X.s₀.heap s.heap
 loc:∃m,s.heap.Ns X.env.locals m/\∀ (i:Nat) (x:Str) (v:V),X.N[i]?=some x->σ[i]?=some (some v)->Vis X.env.scope x->∃u,yF v u/\Look X.env s.heap m x u
 cell:∀x c,X.env.cells.lookup x=some c->∃v,s.heap.IsCell c v
 free:H X.env.locals=none
 freeC:∀x c,X.env.cells.lookup x=some c->H c=none
 pin:∀p∈X.pn++pins,s.heap.get? p.1=some p.2/\H p.1=none/\p.1≠X.env.locals/\p.1∉X.fs/\∀v,p.2.data≠.cell v
 hok:HOk X.prog X.w H s.heap
 len:σ.length=X.N.length
section
variable {X:Cx}{pins:AB}{σ:List (Option V)}{H H':Hp}{s:AZ}{h':Heap}
def Cx.Ok.nofr(q:X.Ok)(e:X.base.get? b=some o):b∉X.fs:=λB=>by
 have:=(q.funs.mem B).1;grind
def Inv.bs (I:Inv X pins σ H s):∀b o,X.base.get? b=some o->s.heap.get? b=some o/\H b=none:=λb o e=>
 ⟨I.base.keep b o (I.ok.bs b o e).1 (I.ok.bs b o e).2 (I.ok.nofr e) (I.ok.noex b o e),I.base.free b o (I.ok.bs b o e).1 (I.ok.bs b o e).2 (I.ok.noex b o e)⟩
def Inv.bk (I:Inv X pins σ H s):∀b o,X.base.get? b=some o->s.heap.get? b=some o:=λb o e=>(I.bs b o e).1
def Inv.mod (I:Inv X pins σ H s):Mod X.K X.mg X.base:=I.ok.mod
def Inv.kIn (I:Inv X pins σ H s):X.K.In s.heap:=I.ok.mod.kin.keeps I.bk
def Inv.lt (I:Inv X pins σ H s):X.env.locals<s.heap.objs.size:=let ⟨_,hn,_⟩:=I.loc;hn.lt
def Inv.sz (I:Inv X pins σ H s):X.s₀.heap.objs.size<=s.heap.objs.size:=aw I.ok.above (cg I.lt)
def Inv.nofs (I:Inv X pins σ H s){a:Addr}(h:s.heap.objs.size<=a):a∉X.fs:=λq=>by obtain⟨_,o,B,_⟩:=I.ok.funs.mem q;exact absurd (aY (au B) (aw I.sz h)) (cy _)
def Inv.cne (I:Inv X pins σ H s):∀x c,X.env.cells.lookup x=some c->c≠X.env.locals:=λx c e z=>by
 obtain⟨v,o,F,J⟩:=I.cell x c e;obtain⟨m,⟨o',es,L,q,B,_⟩,_⟩:=I.loc;grind
def Inv.funs (I:Inv X pins σ H s):s.heap.FunFrames X.base X.outer:=by
 have all:∀ (l:List Env),(∀b∈frs l,b∈X.fs)->X.s₀.heap.FunFrames X.base l->s.heap.FunFrames X.base l:=by
  intro l
  induction l with
  | nil=>intro _ _;trivial
  | cons env r J=>
   intro hs O;obtain⟨U,⟨L,o,q,Y,Z,hd⟩,hr⟩:=O;have B:L∈X.fs:=hs L (by unfold frs;rw[bY,q];exact am);obtain⟨sl,e⟩:=I.base.slot L o Z (I.ok.frf L B) B λz=>I.ok.exfs L z B;exact⟨U,⟨L,_,q,Y,e,hd⟩,J (λb F=>hs b (by unfold frs;rw[bY,q];exact ar _ F)) hr⟩
 exact all X.outer (λ_ F=>F) I.ok.funs
def Inv.stack (I:Inv X pins σ H s):s.heap.FunFrames X.base X.stack:=by
 rcases I.ok.stk with e | ⟨e,hf⟩;rw[e];exact I.funs;rw[e];obtain⟨m,q,_⟩:=I.loc;show .cons (by rw[I.ok.kind];decide) hf q ?_ I.funs;exact Heap.get?_none_of_le (aw I.ok.bsz I.ok.above)
def Inv.stkSub (I:Inv X pins σ H s):∀b∈frs X.stack,b∈X.env.locals::X.fs:=λb q=>by
 rcases I.ok.stk with e | ⟨e,hf⟩;grind;rw[e] at q;unfold frs at q;rw[bY,hf] at q;exact q
def Inv.stkFree (I:Inv X pins σ H s):∀b∈frs X.stack,H b=none:=λb q=>by
 rcases aE.mp (I.stkSub b q) with e | q;rw[e];exact I.free;obtain⟨_,o,B,_⟩:=I.ok.funs.mem q;exact I.base.free b o B (I.ok.frf b q) λz=>I.ok.exfs b z q
def Inv.step {g':Array GenState}{t':Nat}{d':Drawn}{ch:AY}(I:Inv X pins σ H s)
  (F:∀b∈ch,(b∈X.ex\/X.s₀.heap.objs.size<=b)/\b≠X.env.locals/\(∀x c,X.env.cells.lookup x=some c->c≠b)/\∀p∈X.pn++pins,p.1≠b)
  (O:∀b o,b≠X.env.locals->b∉X.fs->b∉ch->s.heap.get? b=some o->H b=none->h'.get? b=some o)
  (U:∀b o,b≠X.env.locals->b∈X.fs->b∉ch->s.heap.get? b=some o->H b=none->∃sl,h'.get? b=some { o with slots:=sl }) (J:∀b o,b∉ch->s.heap.get? b=some o->H b=none->H' b=none)
  (ap:∀b o,b∉ch->s.heap.get? b=some o->∃o',h'.get? b=some o')
  (ag:∀b xs,H b=some (.tup xs)->H' b=some (.tup xs)) (al:∀b o u,H b=some (.frz o u)->H' b=some (.frz o u)) (a0:∀b ps,H b=some (.tbl ps)->∃more,H' b=some (.tbl (ps++more)))
  (ns:∀m,s.heap.Ns X.env.locals m->h'.Ns X.env.locals m) (as:HOk X.prog X.w H' h') (hg:AllBare g') :
  Inv X pins σ H' { s with heap:=h',gens:=g',drawn:=d',toks:=t' }:=by
 have an:∀b o,X.s₀.heap.get? b=some o->b≠X.env.locals:=λb o e=>aL (aY (au e) I.ok.above)
 have Y:∀b o,X.s₀.heap.get? b=some o->b∉X.ex->b∉ch:=λb o e B Z=>by
  rcases (F b Z).1 with z | z;exact B z;exact absurd (aY (au e) z) (cy _)
 have L:∀x c,X.env.cells.lookup x=some c->∀v,s.heap.IsCell c v->h'.IsCell c v:=by
  rintro x c e v ⟨o,ho,hd⟩;have ad:c∉ch:=λz=>(F c z).2.2.1 x c e rfl;by_cases hc:c∈X.fs;obtain⟨sl,q⟩:=U c o (I.cne x c e) hc ad ho (I.freeC x c e);exact⟨_,q,hd⟩;exact⟨o,O c o (I.cne x c e) hc ad ho (I.freeC x c e),hd⟩
 show⟨I.ok,I.os,hg,⟨λb o e n Z B=>?_,λb o e n Z B=>?_,λb o e n B=>?_,λb o e B=>?_,λb xs e=>ag b xs (I.base.tups b xs e),λb o xs e=>al b o xs (I.base.frzs b o xs e),λb ps e=>?_⟩,?_,λx c e=>?_,?_,λx c e=>?_,λp hp=>?_,as,I.len⟩;exact O b o (an b o e) Z (Y b o e B) (I.base.keep b o e n Z B) (I.base.free b o e n B);obtain⟨sl,e1⟩:=I.base.slot b o e n Z B;obtain⟨av,e2⟩:=U b _ (an b o e) Z (Y b o e B) e1 (I.base.free b o e n B);exact⟨av,e2⟩;obtain⟨o',e1⟩:=I.base.there b o e B;exact J b o' (Y b o e B) e1 (I.base.free b o e n B);obtain⟨o',e1⟩:=I.base.there b o e B;right;obtain⟨m1,e1⟩:=I.base.tbls b ps e;grind;obtain⟨m,hn,hl⟩:=I.loc;show⟨m,ns m hn,λi x v e1 e2 e3=>?_⟩;obtain⟨u,r,l⟩:=hl i x v e1 e2 e3;show⟨u,r,?_⟩;rcases l with l | ⟨k,c,e,z⟩;exact .inl l;exact .inr ⟨k,c,e,L x c e _ z⟩;obtain⟨v,z⟩:=I.cell x c e;exact⟨v,L x c e v z⟩;obtain⟨m,⟨o,_,_,ho,_⟩,_⟩:=I.loc;exact J _ o (λz=>(F _ z).2.1 rfl) ho I.free;obtain⟨v,o,ho,hd⟩:=I.cell x c e;exact J c o (λz=>(F c z).2.2.1 x c e rfl) ho (I.freeC x c e);obtain⟨e,n,ne,nf,d⟩:=I.pin p hp;have ad:p.1∉ch:=λz=>(F p.1 z).2.2.2 p hp rfl;right
def Inv.un(I:Inv X pins σ H s)(u:Un X.fs [] H H' s.heap h')(B:HOk X.prog X.w H' h'):Inv X pins σ H' { s with heap:=h',toks:=t' }:=by
 obtain⟨m,⟨o,es,Z,L,r⟩,_⟩:=id I.loc;obtain⟨sl,O⟩:=u.any L I.free (by simp);exact I.step (g':=s.gens) (d':=s.drawn) (ch:=[]) (λ_ z=>nomatch z) (λb o _ F _ e n=>u.keep b o e n F (by simp)) (λb o _ F _ e n=>u.slot b o e n F (by simp)) (λb o _ e n=>u.free b o e n (by simp)) (λb o _ e=>u.there b o e (by simp)) u.tups u.frzs u.tbls (λm' U=>by obtain⟨o',es',J,q,Y⟩:=U;rw[L] at q;cases q;exact⟨_,es',J,O,Y⟩) B I.bare
def Inv.call(I:Inv X pins σ H s)(u:Un (frs X.stack) ch H H' s.heap h')(J:HOk X.prog X.w H' h')(Y:AllBare g')(B:∀b∈ch,(b∈X.ex\/X.s₀.heap.objs.size<=b)/\b≠X.env.locals/\(∀x c,X.env.cells.lookup x=some c->c≠b)/\∀p∈X.pn++pins,p.1≠b) :
  Inv X pins σ H' { s with heap:=h',gens:=g',drawn:=d',toks:=t' }:=by
 obtain⟨m,⟨o,es,ep,U,r⟩,_⟩:=id I.loc;obtain⟨sl,L⟩:=u.any U I.free λz=>(B _ z).2.1 rfl;exact I.step (ch:=ch) B (λb o L Z q e n=>u.keep b o e n (λz=>(aE.mp (I.stkSub b z)).elim L Z) q) (λb o _ _ q e n=>u.any e n q) (λb o q e n=>u.free b o e n q) (λb o q e=>u.there b o e q) u.tups u.frzs u.tbls (λm' hm=>by obtain⟨o',es',O,F,r'⟩:=hm;rw[U] at F;cases F;exact⟨_,es',O,L,r'⟩) J Y
def Inv.turned(I:Inv X pins σ H s)(k:∀b o,b≠B->s.heap.get? b=some o->h'.get? b=some o)(L:H B=none)(J:B≠X.env.locals)(h1:B∈X.ex\/X.s₀.heap.objs.size<=B)(h2:∀x c,X.env.cells.lookup x=some c->c≠B)(O:∀p∈X.pn++pins,p.1≠B):Inv X pins σ H { s with heap:=h',toks:=t' }:=by
 have U:∀b u,H b=some u->b≠B:=λb u e z=>by rw[z,L] at e;cases e
 show I.step (g':=s.gens) (d':=s.drawn) (ch:=[B]) (λb Y=>?_) (λb o _ _ F e _=>k b o (λz=>F (by simp[z])) e) (λb o _ _ F e _=>⟨o.slots,k b o (λz=>F (by simp[z])) e⟩) (λ_ _ _ _ n=>n)
  (λb o F e=>⟨o,k b o (λz=>F (by simp[z])) e⟩) (λ_ _ e=>e) (λ_ _ _ e=>e) (λb ps e=>⟨#[],by rw[e];simp⟩) (λm Z=>?_) (λb u e=>?_) I.bare
 have e:b=B:=by simpa using Y
 subst e;exact⟨h1,J,h2,O⟩;obtain⟨o,es,ep,ho,r⟩:=Z;exact⟨o,es,ep,k _ o (Ne.symm J) ho,r⟩;show (I.hok b u e).stay (λc v F q=>k c v ?_ q) (λ_ q=>q) λ_ _ q=>q;grind
def Inv.tok (I:Inv X pins σ H s)(t:Nat):Inv X pins σ H { s with toks:=t }:=I.un (h':=s.heap) (t':=t) Un.refl I.hok
def Inv.kept(I:Inv X pins σ H s)(k:∀b u,s.heap.get? b=some u->h'.get? b=some u):Inv X pins σ H { s with heap:=h',toks:=t' }:=I.un (Un.kept k) (I.hok.kept k)
def Inv.laid{a:Addr}(I:Inv X pins σ H s)(k:∀b u,s.heap.get? b=some u->h'.get? b=some u)(q:s.heap.objs.size<=a)(B:yi X.prog X.w (upd H a o) h' a o) :
  Inv X pins σ (upd H a o) { s with heap:=h',toks:=t' }:=I.un (Un.laid k q (I.hok.fresh q)) (I.hok.laid k q B)
def Inv.write(I:Inv X pins σ H s)(F:Mut (H x))(J:e=x\/H e=some (.own x))(k:∀b u,b≠e->s.heap.get? b=some u->h'.get? b=some u)(q:∃u,h'.get? e=some u)(B:yi X.prog X.w (upd H x o) h' x o):Inv X pins σ (upd H x o) { s with heap:=h',toks:=t' }:=I.un (Un.write F J k q) (I.hok.write F J k q B)
def Inv.pins_of(I:Inv X pins σ H s)(h:∀p∈q,s.heap.get? p.1=some p.2/\H p.1=none/\p.1≠X.env.locals/\p.1∉X.fs/\∀v,p.2.data≠.cell v):Inv X q σ H s:=
 ⟨I.ok,I.os,I.bare,I.base,I.loc,I.cell,I.free,I.freeC,λp B=>(aG.mp B).elim (λz=>I.pin p (bA _ z)) (h p),I.hok,I.len⟩
def zg3 {N:AM}(q:N.Nodup){i j:Nat}{x:Str}(a:N[i]?=some x)(b:N[j]?=some x):i=j:=by obtain⟨h1,B⟩:=ac.mp a;obtain⟨h2,F⟩:=ac.mp b;exact (cb q).mp (B.trans F.symm)
def zft(I:Inv X pins σ H s)(hN:X.N.Nodup)(hi:X.N[i]?=some x)(J:Loc X.env.scope x)(r:yF v u)(h:∀s',Inv X pins (σ.set i (some v)) H s'->(∃a,Heap.SameBut a s.heap s'.heap/\(a=X.env.locals\/X.env.cells.lookup x=some a))->Q () s')(hf:X.fn x=true\/X.env.scope.names.lookup x=some .local:=by walk_at "l"):wpAny M A (storeName X.env x u) Q E s:=by
 obtain⟨m,hn,hl⟩:=id I.loc;have ag:(X.env.scope.kind==.class || (X.env.scope.kind==.module&&X.env.locals != X.env.globals))=false:=by rw[I.ok.kind];rfl
 have U:i<σ.length:=by rw[I.len];exact (ac.mp hi).1
 have Y:=I.cne
 have B:∀ {a:Addr} {h':Heap},(∃o,s.heap.get? a=some o/\H a=none)->Heap.SameBut a s.heap h'->HOk X.prog X.w H h':=λ{a h'} ha hs b ob e=>by
  obtain⟨_,_,ap⟩:=ha;show (I.hok b ob e).stay (λc w' L q=>(hs.2 c ?_).trans q) (λ_ q=>q) λ_ _ q=>q;grind
 rcases J with hk | hk;show wpAny_storeName_local hk hn (λh' as hs=>?_) ag;obtain⟨oL,_,_,av,_⟩:=id hn;show h _ ⟨I.ok,I.os,I.bare,⟨λb o e n Z J=>?_,λb o e n Z J=>?_,I.base.free,λb o e J=>?_,I.base.tups,I.base.frzs,I.base.tbls⟩,⟨_,as,λj y v' F O e3=>?_⟩,λy c e=>?_,I.free,I.freeC,λp hp=>?_,B ⟨oL,av,I.free⟩ hs,by simpa using I.len⟩ ⟨_,hs,.inl rfl⟩;exact (hs.2 b (aL (aY (au e) I.ok.above))).trans (I.base.keep b o e n Z J);obtain⟨sl,F⟩:=I.base.slot b o e n Z J;exact⟨sl,(hs.2 b (aL (aY (au e) I.ok.above))).trans F⟩;obtain⟨o',F⟩:=I.base.there b o e J;exact⟨o',(hs.2 b (aL (aY (au e) I.ok.above))).trans F⟩;by_cases hj:j=i;subst hj;rw[hi] at F;cases F;rw[aJ U] at O;cases O;exact⟨u,r,.inl ⟨hk,by simp⟩⟩;rw[ao (Ne.symm hj)] at O;obtain⟨u',r',q⟩:=hl j y v' F O e3;show⟨u',r',?_⟩;rcases q with ⟨k,e⟩ | ⟨k,c,e,z⟩;show .inl ⟨k,?_⟩;have:y≠x:=λe=>hj (zg3 hN F (e ▸ hi));simp[this,e];exact .inr ⟨k,c,e,z.sameBut hs (Y y c e)⟩;obtain⟨w',z⟩:=I.cell y c e;exact⟨w',z.sameBut hs (Y y c e)⟩;obtain⟨e,n,ne,nf,d⟩:=I.pin p hp;exact⟨(hs.2 p.1 ne).trans e,n,ne,nf,d⟩
 have ad:X.fn x=true:=by
  grind
 obtain⟨c,L⟩:=I.ok.has x (.inl hk);obtain⟨w',z⟩:=I.cell x c L;show wpAny_storeName_cell I.ok.kind hk L z (λh' al hs=>?_);obtain⟨oc,a0,a1⟩:=id z;show h { s with heap:=h' } ⟨I.ok,I.os,I.bare,⟨λb o e n Z J=>?_,λb o e n Z J=>?_,I.base.free,λb o e J=>?_,I.base.tups,I.base.frzs,I.base.tbls⟩,⟨m,hn.sameBut hs (Ne.symm (Y x c L)),λj y v' F O e3=>?_⟩,λy c' e=>?_,I.free,I.freeC,λp hp=>?_,B ⟨oc,a0,I.freeC x c L⟩ hs,by simpa using I.len⟩ ⟨c,hs,.inr L⟩;exact (hs.2 b (aL (aY (au e) (I.ok.cab x c ad L)))).trans (I.base.keep b o e n Z J);obtain⟨sl,F⟩:=I.base.slot b o e n Z J;exact⟨sl,(hs.2 b (aL (aY (au e) (I.ok.cab x c ad L)))).trans F⟩;obtain⟨o',F⟩:=I.base.there b o e J;exact⟨o',(hs.2 b (aL (aY (au e) (I.ok.cab x c ad L)))).trans F⟩;by_cases hj:j=i;subst hj;rw[hi] at F;cases F;rw[aJ U] at O;cases O;exact⟨u,r,.inr ⟨.inl hk,c,L,al⟩⟩;rw[ao (Ne.symm hj)] at O;obtain⟨u',r',q⟩:=hl j y v' F O e3;show⟨u',r',?_⟩;rcases q with q | ⟨k,c',e,z'⟩;exact .inl q;show .inr ⟨k,c',e,z'.sameBut hs ?_⟩;rintro rfl;exact hj (zg3 hN F (I.ok.inj _ _ _ e L ▸ hi));by_cases an:c'=c;subst an;exact⟨_,al⟩;obtain⟨w2,z2⟩:=I.cell y c' e;exact⟨w2,z2.sameBut hs an⟩;obtain⟨e,n,ne,nf,d⟩:=I.pin p hp;show⟨(hs.2 p.1 ?_).trans e,n,ne,nf,d⟩;intro q;right
def zei(I:Inv X pins σ H s)(q:X.N.Nodup)(hi:X.N[i]?=some x)(B:Loc X.env.scope x)(r:yF v u)(h:∀s',Inv X pins (σ.set i (some v)) H s'->Q () s')(F:X.fn x=true\/X.env.scope.names.lookup x=some .local:=by walk_at "l"):wpAny M A (storeName X.env x u) Q E s:=
 zft I q hi B r (λs' I' _=>h s' I') F
def Inv.call'(I:Inv X pins σ H s)(F:s'.os=s.os)(u:Un (frs X.stack) ch H H' s.heap s'.heap)(q:HOk X.prog X.w H' s'.heap)(J:AllBare s'.gens)(B:∀b∈ch,(b∈X.ex\/X.s₀.heap.objs.size<=b)/\b≠X.env.locals/\(∀x c,X.env.cells.lookup x=some c->c≠b)/\∀p∈X.pn++pins,p.1≠b):Inv X pins σ H' s':=by
 obtain⟨h',g',d',t',o'⟩:=s';have e:o'=s.os:=F;subst e;exact I.call (g':=g') (t':=t') (d':=d') u q J B
end
abbrev XK:=Value->Option Addr->Hp->Prop
abbrev St:=List (Option V)
abbrev VK:=V->Hp->Prop
abbrev TE:=St->Hp->VK->Prop
abbrev TT:=St->Hp->(Bool->Hp->Prop)->Prop
abbrev TA:=St->Hp->(AT->Hp->Prop)->Prop
structure Ends where
 nx:St->Hp->Prop
 rt:VK
 bk:St->Hp->Prop:=λ_ _=>False
 ct:St->Hp->Prop:=λ_ _=>False
abbrev TS:=Ends->St->Hp->Prop
def EP (X:Cx)(pins:AB)(σ:St)(Q:VK)(u:Value)(s':AZ):Prop:=∃v H',Inv X pins σ H' s'/\yF v u/\Q v H'
def TP (X:Cx)(pins:AB)(σ:St)(Q:Bool->Hp->Prop)(b:Bool)(s':AZ):Prop:=∃H',Inv X pins σ H' s'/\Q b H'
def AP (X:Cx)(pins:AB)(σ:St)(Q:AT->Hp->Prop)(q:AN)(s':AZ):Prop:=∃vs H',Inv X pins σ H' s'/\z0 vs q/\Q vs H'
def SP (X:Cx)(pins:AB)(D:Ends)(f:Flow)(s':AZ):Prop:=
 match f with
 | .next=>∃ q H',Inv X pins q H' s'/\D.nx q H'
 | .brk=>∃ q H',Inv X pins q H' s'/\D.bk q H'
 | .cont=>∃ q H',Inv X pins q H' s'/\D.ct q H'
 | .ret u=>∃v q H',Inv X pins q H' s'/\yF v u/\D.rt v H'
def PE (X:Cx)(e:Expr)(t:TE):Prop:=
 ∀ (pins:AB) (s:AZ) (σ:St) (H:Hp) (Q:VK),Inv X pins σ H s->t σ H Q->Af X (eval e X.env) (EP X pins σ Q) X.xe s
def PT (X:Cx)(e:Expr)(t:TT):Prop:=
 ∀ (pins:AB) (s:AZ) (σ:St) (H:Hp) (Q:Bool->Hp->Prop),Inv X pins σ H s->t σ H Q->Af X (isTrue e X.env (eval e X.env)) (TP X pins σ Q) X.xe s
def PW (X:Cx)(e:Expr)(t:TT):Prop:=
 ∀ (q:Sem Value) (pins:AB) (s:AZ) (σ:St) (H:Hp) (Q:Bool->Hp->Prop),Inv X pins σ H s->t σ H Q->Af X (isTrue e X.env q) (TP X pins σ Q) X.xe s
def PW.pt(h:PW X e t):PT X e t:=h _
def PA (X:Cx)(es:AO)(t:TA):Prop:=
 ∀ (pos:Pos) (pins:AB) (s:AZ) (σ:St) (H:Hp) (Q:AT->Hp->Prop),Inv X pins σ H s->t σ H Q->Af X (spliced (backTo pos (starEach es X.env))) (AP X pins σ Q) X.xe s
def PS (X:Cx)(st:Stmt)(t:TS):Prop:=
 ∀ (pins:AB) (s:AZ) (σ:St) (H:Hp) (D:Ends),Inv X pins σ H s->t D σ H->Af X (exec st X.env) (SP X pins D) X.xe s
def PSs (X:Cx)(st:List Stmt)(t:TS):Prop:=
 ∀ (pins:AB) (s:AZ) (σ:St) (H:Hp) (D:Ends),Inv X pins σ H s->t D σ H->Af X (execs st X.env) (SP X pins D) X.xe s
def thn{α:Type}{t:Sem α}{Q Q':α->AZ->Prop}(h:wpAny M A t Q E s)(q:∀a s,Q a s->Q' a s):wpAny M A t Q' E s:=aQ h q λ_ _ x=>x
section
variable {X:Cx}
def zkG (i:Nat):TE:=λσ H Q=>∃v,σ[i]?=some (some v)/\Q v H
def tC (v:V):TE:=λ_ H Q=>Q v H
def zrQ {i:Nat}{x:Str}{pos:Pos}(J:X.N[i]?=some x)(L:Vis X.env.scope x)(B:Ah x:=by ext)(F:(x==("__classdict__" : Str))=false:=by ext):PE X (.Name x pos) (zkG i):=by
 intro pins s σ H Q I h;obtain⟨v,e,h⟩:=h;obtain⟨m,O,U⟩:=I.loc;obtain⟨u,r,l⟩:=U i x v J e L;have fin:EP X pins σ Q u s:=⟨v,H,I,r,h⟩;rcases l with ⟨q,hm⟩ | ⟨q,c,hc,hcell⟩;exact wpAny_Name (wpAny_loadName_local I.ok.kind q O hm fin) B;rcases q with q | q;exact wpAny_Name (wpAny_loadName_cell I.ok.kind q hc hcell fin) B;exact wpAny_Name (wpAny_loadName_free I.ok.kind q hc hcell fin F) B
def zm9 {i j pos}:PE X (.Constant (.int i) j pos) (tC (.int i)):=λ_ _ _ H _ I h=>wpAny_Constant_int ⟨.int i,H,I.tok _,⟨_,rfl⟩,h⟩
def zu3 {b j pos}:PE X (.Constant (.bool b) j pos) (tC (.bl b)):=λ_ _ _ H _ I h=>Constant_bool ⟨.bl b,H,I,rfl,h⟩
def zrP {x j pos}:PE X (.Constant (.str x) j pos) (tC (.str x)):=λ_ _ _ H _ I h=>Calls.Constant_str ⟨.str x,H,I.tok _,⟨_,rfl⟩,h⟩
def Gl (X:Cx)(x:Str):Prop:=X.env.kindOf x=some .globalImplicit
def zoq{E:AA}{pins:AB}{s:AZ}{σ:St}{H:Hp}{x:Str}{u:Value}{Q:AA}(I:Inv X pins σ H s)(q:Gl X x)(B:X.mg x=some u)(h:Q u s)(F:Ah x:=by ext):Af X (eval (.Name x pos) X.env) Q E s:=
 Calls.Name_function_global I.ok.kind q (Calls.loadGlobal_global (by rw[I.ok.glob];exact I.mod.glob.keeps I.bk) B h) F
def zca {E:AA}{pins:AB}{s:AZ}{σ:St}{H:Hp}{x:Str}{u:Value}{pos:Pos}{Q:AA}(I:Inv X pins σ H s)(q:Gl X x)(B:X.mg x=none)(F:bootBuiltins x=some u)(h:Q u s)
  (J:x ≠ "__name__" := by ext) (L:Ah x:=by ext):Af X (eval (.Name x pos) X.env) Q E s:=by
 obtain⟨O,h1,h2⟩:=I.mod.blt;exact Calls.Name_function_global I.ok.kind q (Calls.loadGlobal_builtin (by rw[I.ok.glob];exact I.mod.glob.keeps I.bk) B (by rw[I.ok.blt];exact h1.keeps I.bk) ((h2 x J).trans F) h) L
def zoP {x:Str}{v:V}{u:Value}{pos:Pos}(q:Gl X x)(B:X.mg x=none)(F:bootBuiltins x=some u)(r:yF v u)(J:x ≠ "__name__" := by ext)(L:Ah x:=by ext):PE X (.Name x pos) (tC v):=
 λ_ _ _ H _ I h=>zca I q B F ⟨v,H,I,r,h⟩ J L
variable {a b:Expr}{ta tb:TE}{pos:Pos}
def PC (X:Cx)(F:CmpOp)(a b:Expr)(t:TE):Prop:=
 ∀ (pins:AB) (s:AZ) (σ:St) (H:Hp) (Q:VK),Inv X pins σ H s->t σ H Q->
  Af X (eval a X.env) (λv q=>Af X (eval b X.env) (λu B=>Af X (compareOp F v u) (EP X pins σ Q) X.xe B) X.xe q) X.xe s
def zg2(b:Expr)(h:q≠.In)(h2:q≠.NotIn):behindInMarks q b=false:=by
 have B:(q==CmpOp.In)=false:=by cases q <;> first | rfl | exact absurd rfl h
 have F:(q==CmpOp.NotIn)=false:=by cases q <;> first | rfl | exact absurd rfl h2
 cases b <;> simp[behindInMarks,B,F]
def zvs (ta:TE):TE:=λσ H Q=>ta σ H λx H1=>Q (.bl (decide (x = .non))) H1
def yF.none_iff(r:yF x v):(v==Value.none)=decide (x = .non):=by
 cases x with
 | non=>cases r;rfl
 | bl _=>cases r;rfl
 | int _=>obtain⟨t,rfl⟩:=r;rfl
 | str _=>obtain⟨t,rfl⟩:=r;rfl
 | byt _=>obtain⟨t,rfl⟩:=r;rfl
 | flt _=>obtain⟨t,rfl⟩:=r;rfl
 | ref _=>cases r;rfl
 | ty _=>cases r;rfl
def zrJ {j pos'}(q:PE X a ta):PC X .Is a (.Constant .none j pos') (zvs ta):=by intro pins s σ H Q I h;show thn (q pins s σ H _ I h)  ?_;rintro v J ⟨x,H1,I1,B,F⟩;exact Constant_none (is_none_gen ⟨.bl _,H1,I1,by rw[B.none_iff];rfl,F⟩)
def tB (t:TE):TT:=λσ H Q=>t σ H λx H1=>∃c,x = .bl c/\Q c H1
def zr4(h:PC X B a b t)(h1:behindInMarks B b=false:=by first | exact zg2 _ (by ext) (by ext) | rfl):PT X (.Compare a [B] [b] pos) (tB t):=by intro pins s σ H Q I F;show wpAny_isTrue_Compare1 (thn (h pins s σ H _ I F) λv O h1=>thn h1 λu U h2=>thn h2 λc Y ⟨x,H1,I1,J,L⟩=>?_) h1;obtain⟨d,rfl,q⟩:=L;cases J;exact bZ ⟨H1,I1,q⟩
def zr6(h:PE X e t)(he:∀whole,isTrue e X.env whole=(do let v <- whole;standAt e.pos;holding [v] (truthy v)):=by intro _;rfl):PT X e (tB t):=by intro pins s σ H Q I hw;show isTrue_plain (thn (h pins s σ H _ I hw) λv s1 ⟨x,H1,I1,r1,q1⟩=>?_) (he _);obtain⟨d,rfl,q⟩:=q1;cases r1;exact bZ ⟨H1,I1,q⟩
variable {tA tB':TT}{zQ:AO}
def zvp (t u:TT):TT:=λσ H Q=>t σ H λc H1=>if c=true then u σ H1 Q else Q false H1
def tOr (t u:TT):TT:=λσ H Q=>t σ H λc H1=>if c=true then Q true H1 else u σ H1 Q
def tNot (t:TT):TT:=λσ H Q=>t σ H λc H1=>Q (!c) H1
def zpe (q:PT X a tA):PW X (.BoolOp .And [a] pos) tA:=by
 intro B pins s σ H Q I h;show isTrue_and (thn (q pins s σ H Q I h) λc F e=>?_)
 cases c with
 | true=>exact isTrue_and_nil e
 | false=>exact e
def zr8 (q:PT X a tA):PW X (.BoolOp .Or [a] pos) tA:=by
 intro B pins s σ H Q I h;show isTrue_or (thn (q pins s σ H Q I h) λc F e=>?_)
 cases c with
 | false=>exact isTrue_or_nil e
 | true=>exact e
def zr7 (B:PT X a tA)(F:PW X (.BoolOp .And (b::zQ) pos) tB'):PW X (.BoolOp .And (a::b::zQ) pos) (zvp tA tB'):=by
 intro J pins s σ H Q I h;show isTrue_and (thn (B pins s σ H _ I h)  ?_);rintro c L ⟨H1,I1,q⟩
 cases c with
 | true=>exact F J pins L σ H1 Q I1 q
 | false=>exact⟨H1,I1,q⟩
def zvb (B:PT X a tA)(F:PW X (.BoolOp .Or (b::zQ) pos) tB'):PW X (.BoolOp .Or (a::b::zQ) pos) (tOr tA tB'):=by
 intro J pins s σ H Q I h;show isTrue_or (thn (B pins s σ H _ I h)  ?_);rintro c L ⟨H1,I1,q⟩
 cases c with
 | true=>exact⟨H1,I1,q⟩
 | false=>exact F J pins L σ H1 Q I1 q
def zr5 (q:PT X a tA):PT X (.UnaryOp .Not a pos) (tNot tA):=by intro pins s σ H Q I h;exact isTrue_not (q pins s σ H (λc H1=>Q (!c) H1) I h)
def zsJ (ta tb:TE):TE:=λσ H Q=>ta σ H λx H1=>∃c,x = .bl c/\if c=true then tb σ H1 Q else Q (.bl false) H1
def zsP (ta:TE):TE:=λσ H Q=>ta σ H λx H1=>∃c,x = .bl c/\Q (.bl (!c)) H1
def zrO{op}(h:PE X a t):PE X (.BoolOp op [a] pos) t:=λpins s σ H Q I q=>BoolOp_one (h pins s σ H Q I q)
def zrK (B:PE X a ta)(F:PE X (.BoolOp .And (b::zQ) pos) tb):PE X (.BoolOp .And (a::b::zQ) pos) (zsJ ta tb):=by
 intro pins s σ H Q I h;show BoolOp_and (thn (B pins s σ H _ I h)  ?_);rintro v J ⟨x,H1,I1,L,q⟩;obtain⟨c,rfl,q⟩:=q;cases L;show bZ ?_
 cases c with
 | true=>exact F pins J σ H1 Q I1 q
 | false=>exact⟨.bl false,H1,I1,rfl,q⟩
def zrN (B:PE X a ta):PE X (.UnaryOp .Not a pos) (zsP ta):=by intro pins s σ H Q I h;show UnaryOp_ (thn (B pins s σ H _ I h)  ?_);rintro v J ⟨x,H1,I1,F,q⟩;obtain⟨c,rfl,q⟩:=q;cases F;exact not_of (bZ ⟨.bl (!c),H1,I1,rfl,q⟩)
def tIf (t:TT)(ta tb:TE):TE:=λσ H Q=>t σ H λc H1=>if c=true then ta σ H1 Q else tb σ H1 Q
def zlQ(F:PT X c tA)(J:PE X a ta)(L:PE X b tb):PE X (.IfExp c a b pos) (tIf tA ta tb):=by
 intro pins s σ H Q I h;show wpAny_IfExp (thn (F pins s σ H _ I h)  ?_);rintro d q ⟨H1,I1,B⟩
 cases d with
 | true=>exact J pins q σ H1 Q I1 B
 | false=>exact L pins q σ H1 Q I1 B
end
def SqL (K:AH)(H:Hp)(a:Addr)(xs:AT):Prop:=
 Rd H a (.lst xs)\/
  ∃ (o:Obj) (its:AK) (n:Nat),K.lookup a=some o/\o.cls = .type "list" /\ o.dict=none/\o.data = .seq its n/\its.size<=sizeLine/\z0 xs its.toList
def SqT (K:AH)(H:Hp)(a:Addr)(xs:AT):Prop:=
 Rd H a (.tup xs)\/
  ∃ (o:Obj) (its:AK) (n:Nat),K.lookup a=some o/\o.cls = .type "tuple" /\ o.data = .seq its n/\its.size<=sizeLine/\z0 xs its.toList
def absV:Value->Option V
 | .none=>some .non
 | .bool b=>some (.bl b)
 | .int i _=>some (.int i)
 | .str x _=>some (.str x)
 | .bytes b _=>some (.byt b)
 | .float b _=>some (.flt b)
 | .ref a=>some (.ref a)
 | .type n=>some (.ty n)
 | _=>none
def yF.abs(r:yF x u):absV u=some x:=by
 cases x with
 | non=>cases r;rfl
 | bl _=>cases r;rfl
 | int _=>obtain⟨t,rfl⟩:=r;rfl
 | str _=>obtain⟨t,rfl⟩:=r;rfl
 | byt _=>obtain⟨t,rfl⟩:=r;rfl
 | flt _=>obtain⟨t,rfl⟩:=r;rfl
 | ref _=>cases r;rfl
 | ty _=>cases r;rfl
def yF.inj(r:yF x u)(q:yF y u):x=y:=bv (r.abs.symm.trans q.abs)
def z0.inj:∀ {xs ys:AT} {q:AN},z0 xs q->z0 ys q->xs=ys
 | _,_,_,.nil,.nil=>rfl
 | _,_,_,.cons r t,.cons B t'=>by rw[r.inj B,z0.inj t t']
section
variable {X:Cx}{pins:AB}{σ:St}{H:Hp}{s:AZ}{a:Addr}{xs ys:AT}
def SqL.of {K:AH}(h:H a=some (.lst xs)):SqL K H a xs:=.inl (.inl h)
def SqT.of {K:AH}(h:H a=some (.tup xs)):SqT K H a xs:=.inl (.inl h)
def Inv.list (I:Inv X pins σ H s)(h:SqL X.K H a xs):∃its:AN,z0 xs its/\PlainL s.heap a its.toArray/\xs.length<=sizeLine:=by
 rcases h with h | ⟨o,its,n,hk,hc,hd,hs,hz,r⟩;obtain⟨z,its,n,r,e⟩:=h.ok I.hok;exact⟨its,r,⟨_,n,e,rfl,rfl,rfl⟩,z⟩;show⟨its.toList,r,⟨o,n,I.kIn a o hk,hc,hd,by simpa using hs⟩,?_⟩;have e:=r.length;grind
def Inv.tuple (I:Inv X pins σ H s)(h:SqT X.K H a xs):∃its:AN,z0 xs its/\IsTup s.heap a its.toArray/\xs.length<=sizeLine:=by
 rcases h with h | ⟨o,its,n,hk,hc,hs,hz,r⟩;obtain⟨z,its,r,p⟩:=h.ok I.hok;exact⟨its,r,p.tup,z⟩;show⟨its.toList,r,⟨o,I.kIn a o hk,hc,n,by simpa using hs⟩,?_⟩;have e:=r.length;grind
def Inv.list_inj (I:Inv X pins σ H s)(h:SqL X.K H a xs)(h':SqL X.K H a ys):xs=ys:=by
 obtain⟨its,r,⟨o,n,e,_,_,d⟩,_⟩:=I.list h;obtain⟨its',B,⟨o',J,q,_,_,d'⟩,_⟩:=I.list h';rw[e] at q;cases q;rw[d] at d';injection d' with F _;have:its=its':=by simpa using congrArg Array.toList F
 subst this;exact r.inj B
def Inv.tuple_inj (I:Inv X pins σ H s)(h:SqT X.K H a xs)(h':SqT X.K H a ys):xs=ys:=by
 obtain⟨its,r,⟨o,e,_,n,d⟩,_⟩:=I.tuple h;obtain⟨its',B,⟨o',q,_,J,d'⟩,_⟩:=I.tuple h';rw[e] at q;cases q;rw[d] at d';injection d' with F _;have:its=its':=by simpa using congrArg Array.toList F
 subst this;exact r.inj B
end
abbrev Cx.wish (X:Cx)(E:AA):Cx:={ X with xe:=E }
abbrev Cx.nox (X:Cx):Cx:=X.wish λ_ _=>False
def Cx.Ok.wish {X:Cx}(q:X.Ok)(E:AA):(X.wish E).Ok:=
 ⟨q.mod,q.kind,q.glob,q.blt,q.above,q.inj,q.has,q.cab,q.hd,q.frames,q.stk,q.exf,q.bs,q.bsz,q.noex,q.exfs,q.funs,q.frf⟩
def Cx.Ok.unwish{X:Cx}(q:(X.wish E).Ok):X.Ok:=
 ⟨q.mod,q.kind,q.glob,q.blt,q.above,q.inj,q.has,q.cab,q.hd,q.frames,q.stk,q.exf,q.bs,q.bsz,q.noex,q.exfs,q.funs,q.frf⟩
section
variable {X:Cx}{pins:AB}{σ:St}{H:Hp}{s:AZ}{E:AA}
def Inv.wish (I:Inv X pins σ H s)(E:AA):Inv (X.wish E) pins σ H s:=⟨I.ok.wish E,I.os,I.bare,I.base,I.loc,I.cell,I.free,I.freeC,I.pin,I.hok,I.len⟩
def Inv.unwish (I:Inv (X.wish E) pins σ H s):Inv X pins σ H s:=⟨I.ok.unwish,I.os,I.bare,I.base,I.loc,I.cell,I.free,I.freeC,I.pin,I.hok,I.len⟩
def SP.unwish(h:SP (X.wish E) pins D f s'):SP X pins D f s':=by
 cases f with
 | next=>obtain⟨B,H',I,q⟩:=h;exact⟨B,H',I.unwish,q⟩
 | brk=>obtain⟨B,H',I,q⟩:=h;exact⟨B,H',I.unwish,q⟩
 | cont=>obtain⟨B,H',I,q⟩:=h;exact⟨B,H',I.unwish,q⟩
 | ret u=>obtain⟨v,B,H',I,r,q⟩:=h;exact⟨v,B,H',I.unwish,r,q⟩
def PSs.nox{st:List Stmt}(h:PSs X.nox st t):PSs X st t:=λpins s σ H D I B=>
 aQ (h pins s σ H D (I.wish _) B) (λ_ _ q=>q.unwish) λ_ _ z=>False.elim z
end
section
variable {X:Cx}{st:Stmt}{zQ:List Stmt}{t u:TS}{e:Expr}{te:TE}{pos:Pos}
def zsO:TS:=λD σ H=>D.nx σ H
def zvt (t u:TS):TS:=λD σ H=>t { D with nx:=u D } σ H
def zo9:PSs X [] zsO:=λ_ _ σ H _ I h=>en ⟨σ,H,I,h⟩
def zlY (h1:PS X st t)(h2:PSs X zQ u):PSs X (st::zQ) (zvt t u):=by
 intro pins s σ H D I h;show wpAny_execs_cons (thn (h1 pins s σ H { D with nx:=u D } I h) λf F q=>?_)
 cases f with
 | next=>
  obtain⟨B,H',I',q⟩:=q;exact h2 pins F B H' D I' q
 | ret v=>exact q
 | brk=>exact q
 | cont=>exact q
def zpa (h1:PS X st t):PSs X [st] t:=by
 intro pins s σ H D I h;show wpAny_execs_cons (thn (h1 pins s σ H D I h) λf B q=>?_)
 cases f with
 | next=>exact en q
 | ret v=>exact q
 | brk=>exact q
 | cont=>exact q
def Inv.quiet{pins:AB}{σ:St}{H:Hp}(I:Inv X pins σ H s):interactive X.env=false:=by simp[interactive,I.ok.kind]
def zmm (te:TE):TS:=λD σ H=>te σ H λ_ H1=>D.nx σ H1
def zo8 (q:PE X e te)(hs:swapsWith e none pos.line X.env=pure false:=by rfl):PS X (.Expr e pos) (zmm te):=by intro pins s σ H D I h;exact wpAny_Expr_any (thn (q pins s σ H _ I h) <| by rintro v F ⟨x,H1,I1,J,B⟩;exact⟨σ,H1,I1,B⟩) I.quiet hs
def ztN (te:TE):TS:=λD σ H=>te σ H D.rt
def zr2 (q:PE X e te):PS X (.Return (some e) pos) (ztN te):=by intro pins s σ H D I h;exact wpAny_Return_some (thn (q pins s σ H _ I h) <| by rintro v J ⟨x,H1,I1,B,F⟩;exact⟨x,σ,H1,I1,B,F⟩)
def tIfS (c:TT)(t u:TS):TS:=λD σ H=>c σ H λb H1=>if b=true then t D σ H1 else u D σ H1
def zva(F:PT X c tc)(J:PSs X a t)(L:PSs X b u):PS X (.If c a b pos) (tIfS tc t u):=by
 intro pins s σ H D I h;show wpAny_If (thn (F pins s σ H _ I h)  ?_);rintro d q ⟨H1,I1,B⟩
 cases d with
 | true=>exact J pins q σ H1 D I1 B
 | false=>exact L pins q σ H1 D I1 B
end
abbrev TG:=V->St->Hp->(St->Hp->Prop)->Prop
abbrev TGs:=AT->St->Hp->(St->Hp->Prop)->Prop
def PG (X:Cx)(q:Expr)(t:TG):Prop:=
 ∀ (pins:AB) (s:AZ) (σ:St) (H:Hp) (v:V) (u:Value) (Q:St->Hp->Prop),Inv X pins σ H s->yF v u->t v σ H Q->
  Af X (assign q X.env u) (λ_ s'=>∃ B H',Inv X pins B H' s'/\Q B H') X.xe s
def PGs (X:Cx)(F:AO)(t:TGs):Prop:=
 ∀ (pins:AB) (s:AZ) (σ:St) (H:Hp) (vs:AT) (B:AN) (Q:St->Hp->Prop),Inv X pins σ H s->z0 vs B->t vs σ H Q->
  Af X (assignInOrder ((assignEach F X.env).map (·.2)) B) (λ_ s'=>∃ q H',Inv X pins q H' s'/\Q q H') X.xe s
abbrev ztV:=V->V->V->Hp->(Hp->Prop)->Prop
def PSet (X:Cx)(t:ztV):Prop:=
 ∀ (pins:AB) (s:AZ) (σ:St) (H:Hp) (o i v:V) (q B u:Value) (Q:Hp->Prop),Inv X pins σ H s->yF o q->yF i B->yF v u->t o i v H Q->
  Af X (setItem q B u) (λ_ s'=>∃H',Inv X pins σ H' s'/\Q H') X.xe s
abbrev TIp:=V->V->Hp->VK->Prop
def PIp (X:Cx)(q:Operator)(t:TIp):Prop:=
 ∀ (pins:AB) (s:AZ) (σ:St) (H:Hp) (x y:V) (v u:Value) (Q:VK),Inv X pins σ H s->yF x v->yF y u->t x y H Q->
  Af X (inplaceOp q v u) (EP X pins σ Q) X.xe s
section
variable {X:Cx}{pos:Pos}
def uT (i:Nat):TG:=λv σ H Q=>Q (σ.set i (some v)) H
def zoX(q:X.N.Nodup)(hi:X.N[i]?=some x)(B:Loc X.env.scope x)(F:X.fn x=true\/X.env.scope.names.lookup x=some .local:=by walk_at "l"):PG X (.Name x pos) (uT i):=by intro pins s σ H v u Q I r h;exact wpAny_assign_Name (zei I q hi B r (λs' I'=>⟨_,H,I',h⟩) F)
def gNil:TGs:=λvs σ H Q=>vs=[]/\Q σ H
def zqV (t:TG)(u:TGs):TGs:=λvs σ H Q=>∃v r,vs=v::r/\t v σ H λq H'=>u r q H' Q
def zoY:PGs X [] gNil:=by intro pins s σ H vs q Q I r h;obtain⟨e,h⟩:=h;subst e;cases r;exact assignInOrder_nil ⟨σ,H,I,h⟩
def zlT(h1:PG X e t)(h2:PGs X es u)(hs:(assignEach (e::es) X.env).map (·.2)=assign e X.env::(assignEach es X.env).map (·.2):=by rfl):PGs X (e::es) (zqV t u):=by
 intro pins s σ H vs O Q I r h;obtain⟨v,U,B,h⟩:=h;subst B
 cases r with
 | cons r F=>
  rw[hs];show assignInOrder_cons (thn (h1 pins s σ H _ _ _ I r h)  ?_);rintro _ J ⟨q,H1,I1,L⟩;exact h2 pins J q H1 _ _ Q I1 F L
def zun (K:AH)(n:Nat)(t:TGs):TG:=λv σ H Q=>∃a xs,v = .ref a/\SqT K H a xs/\xs.length=n/\t xs σ H Q
def zrX {es:AO}{k:Nat}{t:TGs}{n:Nat}(J:X.calm=true)(h:PGs X es t)
  (L:(assignEach es X.env).length=n:=by rfl) (q:(assignEach es X.env).findIdx? (·.1)=none:=by rfl):PG X (.Tuple es k pos) (zun X.K n t):=by
 intro pins s σ H v u Q I r B;obtain⟨a,xs,O,U,Y,B⟩:=B;subst O;cases r;obtain⟨its,F,Z,hz⟩:=I.tuple U;show assign_Tuple_tuple (I.ok.hd J) Z (by simp[L,<- Y,F.length]) q λh' hx=>?_;have I1:Inv X pins σ H { s with heap:=h' }:=I.kept (t':=s.toks) λb o e=>hx b o (aL (au e)) e;exact h pins _ σ H xs _ Q I1 (by simpa using F) B
def gSub (to ti:TE)(t:ztV):TG:=λv σ H Q=>to σ H λo H1=>ti σ H1 λi H2=>t o i v H2 λH3=>Q σ H3
def zrW(ho:PE X o to)(hi:PE X i ti)(hs:PSet X t)(ha:∀v,assign (.Subscript o i pos) X.env v=(do
   let ov <- holding [v] (eval o X.env)
   let iv <- holding [v,ov] (eval i X.env)
   standAt pos
   holding [v,ov,iv] (setItem ov iv v)
   release [v,ov,iv] []):=by intro _;rfl):PG X (.Subscript o i pos) (gSub to ti t):=by
 intro pins s σ H v u Q I r h;rw[ha];show aa (be (thn (ho pins s σ H _ I h)  ?_));rintro ov s1 ⟨x,H1,I1,r1,q1⟩;show aa (be (thn (hi pins s1 σ H1 _ I1 q1)  ?_));rintro iv s2 ⟨y,H2,I2,r2,q2⟩;show aa (bK (aa (be (thn (hs pins s2 σ H2 x y v ov iv u _ I2 r1 r2 r q2)  ?_))));rintro _ s3 ⟨H3,I3,q3⟩;exact wpAny_release ⟨σ,H3,I3,q3⟩
def zfC (te:TE)(g:TG):TS:=λD σ H=>te σ H λx H1=>g x σ H1 D.nx
def zrZ(B:PE X e te)(F:PG X tg g)(hs:swapsWithSole [tg] e pos.line X.env=pure false:=by rfl)(J:swappedStores [tg] e X.env=pure none:=by rfl)(h1:(assignEach [tg] X.env).map (·.2)=[assign tg X.env]:=by rfl):PS X (.Assign [tg] e pos) (zfC te g):=by
 intro pins s σ H D I h;show wpAny_Assign_stores (thn (B pins s σ H _ I h) λv L ⟨x,H1,I1,O,U⟩=>?_) hs J;rw[h1];exact thn (F pins L σ H1 x v _ I1 O U) λ_ Y q=>q
def zr3(q:X.N.Nodup)(hi:X.N[i]?=some x)(B:Loc X.env.scope x)(F:PE X e te)(hs:swapsWith e (some (.Name x pos')) pos.line X.env=pure false:=by rfl)(J:X.fn x=true\/X.env.scope.names.lookup x=some .local:=by walk_at "l") :
  PS X (.Assign [.Name x pos'] e pos) (zfC te (uT i)):=by
 intro pins s σ H D I h;show wpAny_Assign_Name (thn (F pins s σ H _ I h) λv U ⟨y,H1,I1,L,O⟩=>?_) hs;exact zei I1 q hi B L (λY I2=>⟨_,H1,I2,O⟩) J
def tAug (i:Nat)(te:TE)(ti:TIp):TS:=λD σ H=>∃x,σ[i]?=some (some x)/\te σ H λy H1=>ti x y H1 λz H2=>D.nx (σ.set i (some z)) H2
def zr0(Y:X.N.Nodup)(hi:X.N[i]?=some x)(L:Loc X.env.scope x)(Z:PE X e te)(ho:PIp X J ti)(hf:X.fn x=true\/X.env.scope.names.lookup x=some .local:=by walk_at "l") :
  PS X (.AugAssign (.Name x pos') J e pos) (tAug i te ti):=by
 intro pins s σ H D I h;obtain⟨v,e1,h⟩:=h;obtain⟨m,hn,hl⟩:=I.loc;have O:Vis X.env.scope x:=by rcases L with k | k;exact .inl k;exact .inr (.inl k)
 obtain⟨u,r,l⟩:=hl i x v hi e1 O;show wpAny_AugAssign_Name ?_;have U:Af X (eval e X.env) (λw B=>Af X (inplaceOp J u w) (λr F=>Af X (storeName X.env x r) (λ_=>SP X pins D .next) X.xe F) X.xe B) X.xe s:=by show thn (Z pins s σ H _ I h)  ?_;rintro w s1 ⟨y,H1,I1,r1,q1⟩;show thn (ho pins s1 σ H1 v y u w _ I1 r r1 q1)  ?_;rintro z s2 ⟨zv,H2,I2,r2,q2⟩;exact zei I2 Y hi L r2 (λs3 I3=>⟨_,H2,I3,q2⟩) hf
 rcases l with ⟨q,hm⟩ | ⟨q,c,hc,hcell⟩;exact wpAny_loadName_local I.ok.kind q hn hm U;rcases q with q | q;exact wpAny_loadName_cell I.ok.kind q hc hcell U;rcases L with k | k;have:X.env.scope.names.lookup x=some .free:=q;right;have:X.env.scope.names.lookup x=some .free:=q;right
def ipI (f:Int->Int->Int):TIp:=λx y H Q=>∃i j,x = .int i/\y = .int j/\Q (.int (f i j)) H
def zq2:PIp X .Add (ipI λi j=>i+j):=by intro pins s σ H x y v u Q I B F h;obtain⟨i,j,J,L,q⟩:=h;subst J;subst L;obtain⟨t,rfl⟩:=B;obtain⟨t',rfl⟩:=F;exact iadd_int ⟨.int _,H,I.tok _,⟨_,rfl⟩,q⟩
def zsT (c:TT)(tb:TS):TS:=λD σ H=>∃W:Nat->St->Hp->Prop,(∃m,W m σ H)/\∀m σ H,W m σ H->
 c σ H λb H1=>if b=true then ∃N:St->Hp->Prop,(∀ q H',N q H'->∃B,B<m/\W B q H')/\tb { D with nx:=N,ct:=N,bk:=D.nx } σ H1 else D.nx σ H1
def zlX(hp:PassesOwn (model X.prog X.w) X.A X.env X.xe)(hc:PT X c tc)(hb:PSs X body tb):PS X (.While c body [] pos) (zsT tc tb):=by
 intro pins s σ H D I h;obtain⟨W,⟨m0,w0⟩,F⟩:=h;show wpAny_While (codeAny_whileLoop (λn s'=>∃ J H',Inv X pins J H' s'/\W n J H') ?_ m0 ⟨σ,H,I,w0⟩);rintro n s1 ⟨B,H1,I1,w1⟩;show cG hp (thn (hc pins s1 B H1 _ I1 (F n B H1 w1))  ?_);rintro b s2 ⟨H2,I2,L⟩
 cases b with
 | true=>
  obtain⟨N,hN,L⟩:=L;rw[if_pos rfl];show cG hp (thn (hb pins s2 B H2 _ I2 L) λf s3 O=>?_)
  cases f with
  | next=>
   obtain⟨q,H3,I3,U⟩:=O;obtain⟨Y,Z,w3⟩:=hN q H3 U;exact⟨Y,Z,q,H3,I3,w3⟩
  | cont=>
   obtain⟨q,H3,I3,U⟩:=O;obtain⟨Y,Z,w3⟩:=hN q H3 U;exact⟨Y,Z,q,H3,I3,w3⟩
  | brk=>exact O
  | ret v=>exact O
 | false=>
  rw[if_neg aI];exact en ⟨B,H2,I2,L⟩
end
structure It where
 go:Nat->Hp->Prop
 yld:Nat->Hp->V->Hp->Prop
 stop:Nat->Hp->Prop
def zer (X:Cx)(pins:AB)(H:Hp)(b:Addr):Prop:=
 H b=none/\b≠X.env.locals/\b∉X.fs/\(b∈X.ex\/X.s₀.heap.objs.size<=b)/\(∀x c,X.env.cells.lookup x=some c->c≠b)/\∀p∈X.pn++pins,p.1≠b
def Inv.fpOk {X:Cx}{pins:AB}{σ:St}{H H':Hp}{s:AZ}{b:Addr}(I:Inv X pins σ H s)(B:s.heap.objs.size<=b)(F:H' b=none):zer X pins H' b:=by
 show⟨F,dq (aY I.lt B),I.nofs B,.inr (aw I.sz B),λx c e z=>?_,λp J z=>?_⟩;obtain⟨v,q⟩:=I.cell x c e;exact absurd (aY q.lt (by rw[z];exact B)) (cy _);exact absurd (aY (au (I.pin p J).1) (by rw[z];exact B)) (cy _)
structure Turn (P:Aa)(w:Ab)(K:AH)(tg:Expr)(J:It)(fp:AY)(it:Addr)(tn:Nat->Heap->Prop):Prop where
 mem:it∈fp
 obj:∀i h,tn i h->∀b∈fp,∃o,h.get? b=some o/\∀v,o.data≠.cell v
 keep:∀i h h',tn i h->(∀b∈fp,∀o,h.get? b=some o->h'.get? b=some o)->tn i h'
 item:∀ (X:Cx),X.prog=P->X.w=w->X.K=K->X.calm=true->∀ (i:Nat) (pins:AB) (s:AZ) (σ:St) (H:Hp) (E:AA),Inv X pins σ H s->(∀b∈fp,zer X pins H b)->tn i s.heap->J.go i H->
  wpAny (model P w) X.A (pyNext (.ref it)) (λr s1=>∃u,r=some u/\
   wpAny (model P w) X.A (letOwnedTupleGo tg (.ref it) u) (λ_ s2=>∃x H',Inv X pins σ H' s2/\yF x u/\J.yld i H x H'/\tn (i+1) s2.heap/\∀b∈fp,H' b=none) E s1) E s
 done:∀ (X:Cx),X.prog=P->X.w=w->X.K=K->X.calm=true->∀ (i:Nat) (pins:AB) (s:AZ) (σ:St) (H:Hp) (E:AA),Inv X pins σ H s->(∀b∈fp,zer X pins H b)->tn i s.heap->J.stop i H->
  wpAny (model P w) X.A (pyNext (.ref it)) (λr s1=>r=none/\Inv X pins σ H s1) E s
 self:∀ (A:Ae) (i:Nat) (s:AZ) (Q:AA) (E:AA),tn i s.heap->Q (.ref it) s->wpAny (model P w) A (pyIter (.ref it)) Q E s
abbrev TI:=St->Hp->(It->Hp->Prop)->Prop
def PIE (X:Cx)(pins:AB)(σ:St)(tg:Expr)(R:It->Hp->Prop)(q:Value)(B:AZ):Prop:=
 ∃ (F:Addr) (fp:AY) (I:Nat->Heap->Prop) (J:It) (H':Hp),q = .ref F/\Inv X pins σ H' B/\Turn X.prog X.w X.K tg J fp F I/\I 0 B.heap/\(∀b∈fp,zer X pins H' b)/\R J H'
def PI (X:Cx)(tg iter:Expr)(wi:TI):Prop:=
 ∀ (pins:AB) (s:AZ) (σ:St) (H:Hp) (R:It->Hp->Prop),Inv X pins σ H s->wi σ H R->
  Af X (eval iter X.env) (λv q=>Af X (pyIter v) (PIE X pins σ tg R) X.xe q) X.xe s
def zk8(F:s.heap.get? B=some o)(I:o.cls = .type n)(J:o.data = .fields vs)(L:["enumerate","zip","dict_itemiterator","dict_reverseitemiterator","odict_iterator","itertools.zip_longest","itertools.pairwise"].contains n=false)(q:Q () s):wpAny M A (letOwnedTupleGo tg (.ref B) u) Q E s:=by
 unfold letOwnedTupleGo
 cases tg <;> first
  | exact ae q
  | (cases u <;> first
    | exact ae q
    | (show aa (wpAny_load F ?_)
       rw[I,J];change wpAny M A (if (["enumerate","zip","dict_itemiterator","dict_reverseitemiterator","odict_iterator","itertools.zip_longest","itertools.pairwise"].contains n&&vs[0]?==some (rawInt _))=true then _ else _) Q E s;rw[if_neg (by lia)];exact ae q))
def Itl (K:AH)(a:Addr):It:=
 ⟨λi H=>∃xs x,SqL K H a xs/\xs[i]?=some x,λi H x H'=>H'=H/\∀xs,SqL K H a xs->xs[i]?=some x,λi H=>∃xs,SqL K H a xs/\xs.length<=i⟩
def Itt (K:AH)(a:Addr):It:=
 ⟨λi H=>∃xs x,SqT K H a xs/\xs[i]?=some x,λi H x H'=>H'=H/\∀xs,SqT K H a xs->xs[i]?=some x,λi H=>∃xs,SqT K H a xs/\xs.length<=i⟩
def Itr (lo:Int)(n:Nat):It:=⟨λi _=>i<n,λi H x H'=>H'=H/\x = .int (lo+i),λi _=>n<=i⟩
def zkp{P:Aa}{w:Ab}{K:AH}(a q:Addr):Turn P w K tg (Itl K a) [q] q (λi h=>h.IsListIter q a i) where
 mem:=by simp
 obj:=λi h st b B=>by
  have e:b=q:=by simpa using B
  subst e;obtain⟨o,e,c,d⟩:=st;right
 keep:=λi h h' st k=>st.at λo e=>k q (by simp) o e
 item:=by intro X O U Y hc i pins s σ H E I J st Z;subst O U Y;obtain⟨xs,x,L,hx⟩:=Z;obtain⟨its,rv,p,hz⟩:=I.list L;obtain⟨u,hu,ru⟩:=rv.get hx;obtain⟨f0,f1,f2,f3,f4,f5⟩:=J q (by simp);show dG st p.isList (x:=u) (by simpa using hu) λh' F sb=>?_;have I1:Inv X pins σ H { s with heap:=h' }:=I.turned (t':=s.toks) (λb o B e=>(sb.2 b B).trans e) f0 f1 f3 f4 f5;obtain⟨o,e,c,d⟩:=id F;exact⟨u,rfl,zk8 (s:={ s with heap:=h' }) e c d (by ext) ⟨x,H,I1,ru,⟨rfl,λys hy=>by rw[I.list_inj hy L];exact hx⟩,F,λb B=>(J b B).1⟩⟩
 done:=by intro X O U Y hc i pins s σ H E I J st Z;subst O U Y;obtain⟨xs,L,hx⟩:=Z;obtain⟨its,rv,p,hz⟩:=I.list L;obtain⟨f0,f1,f2,f3,f4,f5⟩:=J q (by simp);have hl:=rv.length;exact dQ (I.ok.hd hc) st p.isList (by simp;lia) λh' eb=>⟨rfl,I.turned (t':=s.toks) (λb o B e=>eb b o B e) f0 f1 f3 f4 f5⟩
 self:=λ_ _ _ _ _ st h=>wpAny_pyIter_listiter st h
def zhT{P:Aa}{w:Ab}{K:AH}(a q:Addr):Turn P w K tg (Itt K a) [q] q (λi h=>h.IsTupleIter q a i) where
 mem:=by simp
 obj:=λi h st b B=>by
  have e:b=q:=by simpa using B
  subst e;obtain⟨o,e,c,d⟩:=st;right
 keep:=λi h h' st k=>st.at λo e=>k q (by simp) o e
 item:=by intro X O U Y hc i pins s σ H E I J st Z;subst O U Y;obtain⟨xs,x,L,hx⟩:=Z;obtain⟨its,rv,p,hz⟩:=I.tuple L;obtain⟨u,hu,ru⟩:=rv.get hx;obtain⟨f0,f1,f2,f3,f4,f5⟩:=J q (by simp);show wpAny_pyNext_tuple_item st (show s.heap.IsTuple a its.toArray from p) (x:=u) (by simpa using hu) λh' F sb=>?_;have I1:Inv X pins σ H { s with heap:=h' }:=I.turned (t':=s.toks) (λb o B e=>(sb.2 b B).trans e) f0 f1 f3 f4 f5;obtain⟨o,e,c,d⟩:=id F;exact⟨u,rfl,zk8 (s:={ s with heap:=h' }) e c d (by ext) ⟨x,H,I1,ru,⟨rfl,λys hy=>by rw[I.tuple_inj hy L];exact hx⟩,F,λb B=>(J b B).1⟩⟩
 done:=by intro X O U Y hc i pins s σ H E I J st Z;subst O U Y;obtain⟨xs,L,hx⟩:=Z;obtain⟨its,rv,p,hz⟩:=I.tuple L;obtain⟨f0,f1,f2,f3,f4,f5⟩:=J q (by simp);have hl:=rv.length;exact wpAny_pyNext_tuple_end (I.ok.hd hc) st (show s.heap.IsTuple a its.toArray from p) (by simp;lia) λh' eb=>⟨rfl,I.turned (t':=s.toks) (λb o B e=>eb b o B e) f0 f1 f3 f4 f5⟩
 self:=λ_ _ _ _ _ st h=>wpAny_pyIter_tupleiter st h
def zhS{P:Aa}{w:Ab}{K:AH}(q:Addr)(lo:Int)(n:Nat):Turn P w K tg (Itr lo n) [q] q (λi h=>IsRangeIter h q (lo+(i:Nat) * 1) ((n:Int) - (i:Nat)) 1) where
 mem:=by simp
 obj:=λi h st b B=>by right
 keep:=λi h h' st k=>k q (by simp) _ st
 item:=by intro X L O U Y i pins s σ H E I J st Z;subst L O U;obtain⟨f0,f1,f2,f3,f4,f5⟩:=J q (by simp);have W:=Walks.range (prog:=X.prog) (w:=X.w) (I.ok.hd Y) q lo 1 n;show W.item i s _ _ Z st λv h' tk hv F kk=>?_;obtain⟨t,rfl⟩:=hv;have I1:Inv X pins σ H { s with heap:=h',toks:=tk }:=I.turned (λb o B e=>kk b o (by simpa using B) e) f0 f1 f3 f4 f5;show⟨_,rfl,zk8 (s:={ s with heap:=h',toks:=tk }) (n := "range_iterator") F rfl rfl (by ext) ⟨.int (lo+i),H,I1,⟨t,?_⟩,⟨rfl,rfl⟩,F,λb B=>(J b B).1⟩⟩;rw[Int.mul_one]
 done:=by intro X L O U Y i pins s σ H E I J st Z;subst L O U;obtain⟨f0,f1,f2,f3,f4,f5⟩:=J q (by simp);exact wpAny_pyNext_range_end (I.ok.hd Y) st (by have:n<=i:=Z;lia) λh' eb=>⟨rfl,I.turned (t':=s.toks) (λb o B e=>eb b o B e) f0 f1 f3 f4 f5⟩
 self:=λ_ _ _ _ _ st h=>wpAny_pyIter_rangeiter st h
section
variable {X:Cx}{tg:Expr}
def zoa (K:AH)(tl:TE):TI:=λσ H R=>tl σ H λx H1=>∃a,x = .ref a/\(∃xs,SqL K H1 a xs)/\R (Itl K a) H1
def zup (K:AH)(tl:TE):TI:=λσ H R=>tl σ H λx H1=>∃a,x = .ref a/\(∃xs,SqT K H1 a xs)/\R (Itt K a) H1
def zoZ(F:PE X l tl):PI X tg l (zoa X.K tl):=by
 intro pins s σ H R I h;show thn (F pins s σ H _ I h)  ?_;rintro v B ⟨x,H1,I1,J,L⟩;obtain⟨a,e,⟨xs,O⟩,q⟩:=L;subst e;cases J;obtain⟨its,Y,p,Z⟩:=I1.list O;show c8 p.isList ?_;show⟨B.heap.objs.size,[B.heap.objs.size],_,_,H1,rfl,I1.kept (t':=B.toks) λb o e=>af _ e,zkp a _,⟨_,aq _ rfl,rfl,rfl⟩,λb U=>?_,q⟩;have e:b=B.heap.objs.size:=by simpa using U
 subst e;exact I1.fpOk (ai _) (I1.hok.fresh (ai _))
def zrY(F:PE X l tl):PI X tg l (zup X.K tl):=by
 intro pins s σ H R I h;show thn (F pins s σ H _ I h)  ?_;rintro v B ⟨x,H1,I1,J,L⟩;obtain⟨a,e,⟨xs,O⟩,q⟩:=L;subst e;cases J;obtain⟨its,Y,p,Z⟩:=I1.tuple O;show eJ (show B.heap.IsTuple a its.toArray from p) ?_;show⟨B.heap.objs.size,[B.heap.objs.size],_,_,H1,rfl,I1.kept (t':=B.toks) λb o e=>af _ e,zhT a _,⟨_,aq _ rfl,rfl,rfl⟩,λb U=>?_,q⟩;have e:b=B.heap.objs.size:=by simpa using U
 subst e;exact I1.fpOk (ai _) (I1.hok.fresh (ai _))
def zma{pins:AB}{σ:St}{H:Hp}{s:AZ}{R:It->Hp->Prop}{E:AA}{lo hi:Int}{t u v:Tok}(I:Inv X pins σ H s)(h1:-(2 ^ 62)<=lo)(h2:lo<2 ^ 62)(B:-(2 ^ 62)<=hi)(F:hi<2 ^ 62)(q:R (Itr lo (hi - lo).toNat) H):Af X (pyIter (.ref s.heap.objs.size)) (PIE X pins σ tg R) E { s with heap:=s.heap.push { cls:=.type "range",data:=.fields #[.int lo t,.int hi u,.int 1 v] },toks:=tk }:=by
 show wpAny_pyIter_range (IsRange.new ..) (small_one h1 h2 B F) ?_;have I1:Inv X pins σ H { s with heap:=s.heap.push { cls:=.type "range",data:=.fields #[.int lo t,.int hi u,.int 1 v] },toks:=tk }:=I.kept λb o e=>af _ e
 show⟨(s.heap.push { cls:=.type "range",data:=.fields #[.int lo t,.int hi u,.int 1 v] }).objs.size,[(s.heap.push { cls:=.type "range",data:=.fields #[.int lo t,.int hi u,.int 1 v] }).objs.size],_,_,H,rfl,
  I1.kept (t':=tk) λb o e=>af _ e,zhS _ lo (hi - lo).toNat,?_,λb J=>?_,q⟩
 ·have L:lo+((0:Nat):Int) * 1=lo:=by simp
  have O:(((hi - lo).toNat:Nat):Int) - ((0:Nat):Int)=Builtin.Range.rangeSize lo hi 1:=by rw[rangeSize_one];split <;> lia
  change IsRangeIter _ _ (lo+((0:Nat):Int) * 1) ((((hi - lo).toNat:Nat):Int) - ((0:Nat):Int)) 1;rw[L,O];exact aq _ rfl
 have e:b=(s.heap.push { cls:=.type "range",data:=.fields #[.int lo t,.int hi u,.int 1 v] }).objs.size:=by simpa using J
 subst e;exact I1.fpOk (ai _) (I1.hok.fresh (ai _))
def zqX (ta:TA):TI:=λσ H R=>ta σ H λvs H1=>∃j:Int,vs=[.int j]/\-(2 ^ 62)<=j/\j<2 ^ 62/\R (Itr 0 j.toNat) H1
def zjR(F:Gl X "range")(J:X.mg "range" = none)(L:PA X [a] ta)(hs:starEach [a] X.env=[(false,eval a X.env)]:=by rfl):PI X tg (.Call (.Name "range" p) [a] [] pos) (zqX ta):=by
 intro pins s σ H R I h;show Call_ (zca I F J boot_range (bS (thn (L pos pins s σ H _ I h) λZ s1 ⟨vs,H1,I1,O,B⟩=>?_) hs rfl));obtain⟨j,e,B,U,q⟩:=B;subst e
 cases O with
 | cons r Y=>
  cases Y;obtain⟨t,rfl⟩:=r;exact call_range_1 (zma I1 (by lia) (by lia) B U (by simpa using q))
def ztM (wi:TI)(g:TG)(tb:TS):TS:=λD σ H=>wi σ H λJ H1=>∃W:Nat->Nat->St->Hp->Prop,(∃m,W 0 m σ H1)/\∀i m σ H,W i m σ H->
 (J.stop i H/\D.nx σ H)\/(J.go i H/\∃N:St->Hp->Prop,(∀ q H',N q H'->∃F,F<m/\W (i+1) F q H')/\∀x H',J.yld i H x H'->g x σ H' λB H2=>tb { D with nx:=N,ct:=N,bk:=D.nx } B H2)
def zfi (fp:AY)(h:Heap):AB:=fp.filterMap λb=>(h.get? b).map λo=>(b,o)
def zaj(q:b∈fp)(e:h.get? b=some o):(b,o)∈zfi fp h:=cU.mpr ⟨b,q,by rw[e];rfl⟩
def zjI(B:p∈zfi fp h):p.1∈fp/\h.get? p.1=some p.2:=by
 obtain⟨b,F,e⟩:=cU.mp B
 cases q:h.get? b with
 | none=>rw[q] at e;cases e
 | some o=>
  grind
def Inv.pinned {pins:AB}{σ:St}{H:Hp}{s:AZ}{fp:AY}(I:Inv X pins σ H s)(B:∀b∈fp,zer X pins H b)(F:∀b∈fp,∃o,s.heap.get? b=some o/\∀v,o.data≠.cell v):Inv X (pins++zfi fp s.heap) σ H s:=
 I.pins_of λp J=>(aG.mp J).elim (λz=>I.pin p (aU _ z)) λz=>by
  obtain⟨q,e⟩:=zjI z;obtain⟨L,O,U,_⟩:=B p.1 q;obtain⟨o,Y,d⟩:=F p.1 q;right
def Inv.unpinned{pins pl:AB}{σ:St}{H:Hp}(I:Inv X (pins++pl) σ H s):Inv X pins σ H s:=I.pins_of λp q=>I.pin p (aU _ (bA _ q))
def zr1(hp:PassesOwn (model X.prog X.w) X.A X.env X.xe)(hc:X.calm=true)(hi:PI X tg iter wi)(hg:PG X tg g)(B:PSs X body tb)(hs:∀x,foldedSetIterable iter X.env x=pure x:=by intro _;rfl):PS X (.For tg iter body [] pos) (ztM wi g tb):=by
 intro pins s σ H D I h;show wpAny_For (thn (hi pins s σ H _ I h) λv s1 h1=>thn h1 λav s2 h2=>?_) hs;obtain⟨it,fp,tn,J,H2,e,I2,T,an,f2,W,⟨m0,w0⟩,ad⟩:=h2;subst e;have F:∀ {H':Hp},(∀b∈fp,H' b=none)->∀b∈fp,zer X pins H' b:=λhn b B=>⟨hn b B,(f2 b B).2⟩;show codeAny_forLoop_any (λn s'=>∃i L H',Inv X pins L H' s'/\tn i s'.heap/\(∀b∈fp,H' b=none)/\W i n L H') ?_ m0 ⟨0,σ,H2,I2,an,λb B=>(f2 b B).1,w0⟩;rintro n s3 ⟨i,O,H3,I3,ag,al,w3⟩;rcases ad i n O H3 w3 with ⟨stop,qn⟩ | ⟨go,N,hN,step⟩
 ·show cG hp (thn (T.done X rfl rfl rfl hc i pins s3 O H3 X.xe I3 (F al) ag stop)  ?_);rintro r s4 ⟨hr,I4⟩;subst hr;exact en ⟨O,H3,I4,qn⟩
 ·show cG hp (thn (T.item X rfl rfl rfl hc i pins s3 O H3 X.xe I3 (F al) ag go)  ?_);rintro r s4 ⟨u,hr,h4⟩;subst hr;show cG hp (thn h4  ?_);rintro _ s5 ⟨x,H5,I5,r5,y5,Z,ap⟩;have I5':=I5.pinned (F ap) (T.obj _ _ Z);show cG hp (thn (hg _ s5 O H5 x u _ I5' r5 (step x H5 y5))  ?_);rintro _ s6 ⟨as,H6,I6,q6⟩;show cG hp (thn (B _ s6 as H6 _ I6 q6) λf s7 Y=>?_);have U:∀ {q:St} {H7:Hp},Inv X (pins++zfi fp s5.heap) q H7 s7->N q H7->∃m,m<n/\∃i L H',Inv X pins L H' s7/\tn i s7.heap/\(∀b∈fp,H' b=none)/\W i m L H':=λ{q H7} I7 n7=>by obtain⟨m',hm,w7⟩:=hN q H7 n7;show⟨m',hm,i+1,q,H7,I7.unpinned,T.keep _ _ _ Z λb B o e=>(I7.pin (b,o) (aU _ (aU _ (zaj B e)))).1,λb B=>?_,w7⟩;obtain⟨o,e,d⟩:=T.obj _ _ Z b B;exact (I7.pin (b,o) (aU _ (aU _ (zaj B e)))).2.1
  cases f with
  | next=>obtain⟨q,H7,I7,n7⟩:=Y;exact U I7 n7
  | cont=>obtain⟨q,H7,I7,n7⟩:=Y;exact U I7 n7
  | brk=>obtain⟨q,H7,I7,Y⟩:=Y;exact⟨q,H7,I7.unpinned,Y⟩
  | ret v=>obtain⟨x7,q,H7,I7,r7,Y⟩:=Y;exact⟨x7,q,H7,I7.unpinned,r7,Y⟩
end
def zk4 {K:AH}{a:Addr}{xs:AT}{g:TG}{tb:TS}{D:Ends}{σ:St}{H:Hp}(Pv:Nat->St->Hp->Prop)(L:Pv 0 σ H)(O:∀i σ H,i<=xs.length->Pv i σ H->SqL K H a xs)
  (hs:∀i x σ H,xs[i]?=some x->Pv i σ H->g x σ H λB H2=>tb { D with nx:=Pv (i+1),ct:=Pv (i+1),bk:=D.nx } B H2) (U:∀ σ H,Pv xs.length σ H->D.nx σ H) :
  ∃W:Nat->Nat->St->Hp->Prop,(∃m,W 0 m σ H)/\∀i m σ H,W i m σ H->
   ((Itl K a).stop i H/\D.nx σ H)\/((Itl K a).go i H/\∃N:St->Hp->Prop,(∀ F H',N F H'->∃J,J<m/\W (i+1) J F H')/\∀x H',(Itl K a).yld i H x H'->g x σ H' λB H2=>tb { D with nx:=N,ct:=N,bk:=D.nx } B H2):=by
 show⟨λi m σ H=>m=xs.length - i/\i<=xs.length/\Pv i σ H,⟨xs.length,by simp,aK _,L⟩,?_⟩;rintro i m σ H ⟨rfl,hi,p⟩;have q:=O i σ H hi p;by_cases I:i<xs.length;show .inr ⟨⟨xs,xs[i],q,by simp[I]⟩,Pv (i+1),λF H' Y=>⟨xs.length - (i+1),by lia,rfl,I,Y⟩,λx H' y=>?_⟩;obtain⟨e,y⟩:=y;subst e;exact hs i x σ _ (y xs q) p;have e:i=xs.length:=by lia
 subst e;exact .inl ⟨⟨xs,q,ai _⟩,U σ H p⟩
abbrev R2:=V->V->Hp->VK->Prop
def OpR (X:Cx)(f:Value->Value->Sem Value)(r:R2):Prop:=
 ∀ (pins:AB) (s:AZ) (σ:St) (H:Hp) (x y:V) (v u:Value) (Q:VK),Inv X pins σ H s->yF x v->yF y u->r x y H Q->
  Af X (f v u) (EP X pins σ Q) X.xe s
def UnR (X:Cx)(f:Value->Sem Value)(r:V->Hp->VK->Prop):Prop:=
 ∀ (pins:AB) (s:AZ) (σ:St) (H:Hp) (x:V) (v:Value) (Q:VK),Inv X pins σ H s->yF x v->r x H Q->
  Af X (f v) (EP X pins σ Q) X.xe s
def zcH (X:Cx)(f:Value)(r:AT->Hp->VK->Prop):Prop:=
 ∀ (pins:AB) (s:AZ) (σ:St) (H:Hp) (xs:AT) (q:AN) (Q:VK),Inv X pins σ H s->z0 xs q->r xs H Q->
  Af X (call f q) (EP X pins σ Q) X.xe s
def TruR (X:Cx)(r:V->Hp->(Bool->Hp->Prop)->Prop):Prop:=
 ∀ (pins:AB) (s:AZ) (σ:St) (H:Hp) (x:V) (v:Value) (Q:Bool->Hp->Prop),Inv X pins σ H s->yF x v->r x H Q->
  Af X (truthy v) (TP X pins σ Q) X.xe s
def tOp (r:R2)(ta tb:TE):TE:=λσ H Q=>ta σ H λx H1=>tb σ H1 λy H2=>r x y H2 Q
def tUn (r:V->Hp->VK->Prop)(ta:TE):TE:=λσ H Q=>ta σ H λx H1=>r x H1 Q
def rI (C:Int->Int->Prop)(g:Int->Int->V):R2:=λx y H Q=>∃i j,x = .int i/\y = .int j/\C i j/\Q (g i j) H
def rI0 (g:Int->Int->V):R2:=λx y H Q=>∃i j,x = .int i/\y = .int j/\Q (g i j) H
def rU (g:Int->V):V->Hp->VK->Prop:=λx H Q=>∃i,x = .int i/\Q (g i) H
section
variable {X:Cx}{a b c:Expr}{ta tb tc:TE}{pos:Pos}
def ztY(J:PE X a ta)(L:PE X b tb){pins:AB}{σ:St}{H:Hp}{R:V->V->Hp->Prop}(I:Inv X pins σ H s)(h:ta σ H λx H1=>tb σ H1 λy H2=>R x y H2){Q:AA}{f:Value->Value->Sem Value}(O:∀v u F x y H2,Inv X pins σ H2 F->yF x v->yF y u->R x y H2->Af X (f v u) Q X.xe F) :
  Af X (eval a X.env) (λv q=>Af X (eval b X.env) (λu B=>Af X (f v u) Q X.xe B) X.xe q) X.xe s:=by
 show thn (J pins s σ H _ I h)  ?_;rintro v U ⟨x,H1,I1,Y,Z⟩;show thn (L pins U σ H1 _ I1 Z)  ?_;rintro u F ⟨y,H2,I2,r2,q2⟩;exact O v u F x y H2 I2 Y r2 q2
def zu6(F:OpR X (binaryOp B) r)(J:PE X a ta)(L:PE X b tb):PE X (.BinOp a B b pos) (tOp r ta tb):=by intro pins s σ H Q I h;exact wpAny_BinOp (ztY J L I h λv u O x y H2 I2 U Y q=>F pins O σ H2 x y v u Q I2 U Y q)
def zu7(B:UnR X (unaryOp q) r)(F:PE X a ta):PE X (.UnaryOp q a pos) (tUn r ta):=by intro pins s σ H Q I h;exact UnaryOp_ (thn (F pins s σ H _ I h) <| by rintro v J ⟨x,H1,I1,L,O⟩;exact B pins J σ H1 x v Q I1 L O)
def opI{C:Int->Int->Prop}{g:Int->Int->Int}(B:∀ (i j:Int) (t u:Tok) (s:AZ) (Q:AA) (E:AA),C i j->Q (.int (g i j) s.toks) { s with toks:=s.toks+1 }->Af X (f (.int i t) (.int j u)) Q E s) :
  OpR X f (rI C λi j=>.int (g i j)):=by
 intro pins s σ H x y v u Q I F J h;obtain⟨i,j,rfl,rfl,L,q⟩:=h;obtain⟨t,rfl⟩:=F;obtain⟨t',rfl⟩:=J;exact B i j t t' s _ _ L ⟨.int (g i j),H,I.tok _,⟨_,rfl⟩,q⟩
def opI0{g:Int->Int->Int}(B:∀ (i j:Int) (t u:Tok) (s:AZ) (Q:AA) (E:AA),Q (.int (g i j) s.toks) { s with toks:=s.toks+1 }->Af X (f (.int i t) (.int j u)) Q E s) :
  OpR X f (rI0 λi j=>.int (g i j)):=by
 intro pins s σ H x y v u Q I F J h;obtain⟨i,j,rfl,rfl,q⟩:=h;obtain⟨t,rfl⟩:=F;obtain⟨t',rfl⟩:=J;exact B i j t t' s _ _ ⟨.int (g i j),H,I.tok _,⟨_,rfl⟩,q⟩
def ztF{g:Int->Int->Bool}(B:∀ (i j:Int) (t u:Tok) (s:AZ) (Q:AA) (E:AA),Q (.bool (g i j)) s->Af X (f (.int i t) (.int j u)) Q E s) :
  OpR X f (rI0 λi j=>.bl (g i j)):=by
 intro pins s σ H x y v u Q I F J h;obtain⟨i,j,rfl,rfl,q⟩:=h;obtain⟨t,rfl⟩:=F;obtain⟨t',rfl⟩:=J;exact B i j t t' s _ _ ⟨.bl (g i j),H,I,rfl,q⟩
def zqc (i j:Int):Prop:=0<j/\j<1073741824
def CPow (i j:Int):Prop:=0<=j/\j<=1000000/\i.natAbs<2 ^ 64
def ztl (i j:Int):Prop:=(-(2 ^ 64)<i/\i<2 ^ 64)\/(-(2 ^ 64)<j/\j<2 ^ 64)
def ztl.ok {i j:Int}(h:ztl i j):IntMulOk i j:=by
 rcases h with ⟨h1,h2⟩ | ⟨h1,h2⟩;exact .of_left (intBits_le_64 h1 h2);exact .of_right (intBits_le_64 h1 h2)
def zrs:OpR X (binaryOp .Add) (rI0 λi j=>.int (i+j)):=opI0 λ_ _ _ _ _ _ _ q=>add_int q
def zrA:OpR X (binaryOp .Sub) (rI0 λi j=>.int (i - j)):=opI0 λ_ _ _ _ _ _ _ q=>sub_int q
def zrw:OpR X (binaryOp .Mult) (rI ztl λi j=>.int (i * j)):=opI λ_ _ _ _ _ _ _ B q=>mul_int q B.ok
def zoM:OpR X (binaryOp .FloorDiv) (rI zqc λi j=>.int (i / j)):=opI λi j _ _ _ _ _ B q=>by have h1:(0:Int)<j:=B.1;have h2:j<1073741824:=B.2;exact floordiv_int (by lia) (by rw[Int.fdiv_eq_ediv_of_nonneg i (by lia)];exact q) (.inl (PyProof.noPylong_small (by lia)))
def zrv:OpR X (binaryOp .Mod) (rI (λ_ j=>0<j) λi j=>.int (i % j)):=opI λi j _ _ _ _ _ B q=>by have h1:(0:Int)<j:=B;exact mod_int' (by lia) (by rw[Int.fmod_eq_emod_of_nonneg i (by lia)];exact q)
def zry:OpR X (binaryOp .Pow) (rI CPow λi j=>.int (i ^ j.toNat)):=opI λ_ _ _ _ _ _ _ B q=>pow_int_small B.1 B.2.1 B.2.2 q
def unI{g:Int->Int}(B:∀ (i:Int) (t:Tok) (s:AZ) (Q:AA) (E:AA),Q (.int (g i) s.toks) { s with toks:=s.toks+1 }->Af X (f (.int i t)) Q E s) :
  UnR X f (rU λi=>.int (g i)):=by
 intro pins s σ H x v Q I F h;obtain⟨i,rfl,q⟩:=h;obtain⟨t,rfl⟩:=F;exact B i t s _ _ ⟨.int (g i),H,I.tok _,⟨_,rfl⟩,q⟩
def zs5:UnR X (unaryOp .USub) (rU λi=>.int (-i)):=unI λ_ _ _ _ _ q=>neg_int q
end
def zvo:V->V->Bool
 | .non,.non=>true | .non,.int _=>true | .int _,.non=>true | .non,.bl _=>true | .bl _,.non=>true | .non,.str _=>true | .str _,.non=>true
 | .int _,.int _=>true | .bl _,.bl _=>true | .str _,.str _=>true | .byt _,.byt _=>true
 | .int _,.str _=>true | .str _,.int _=>true | .bl _,.str _=>true | .str _,.bl _=>true
 | _,_=>false
def rEq:R2:=λx y H Q=>zvo x y=true/\Q (.bl (decide (x=y))) H
def rNe:R2:=λx y H Q=>zvo x y=true/\Q (.bl (!decide (x=y))) H
def ziu {i j:Int}:decide (V.int i=V.int j)=(i==j):=by rw[cH];simp
def zmM:decide (V.bl i=V.bl j)=(i==j):=by rw[cH];simp
def ziv:decide (V.str i=V.str j)=(i==j):=by rw[cH];simp
def zit:decide (V.byt i=V.byt j)=(i.toList==j.toList):=by
 rw[cH];right
section
variable {X:Cx}{a b c:Expr}{ta tb tc:TE}{pos:Pos}
def z6{pins:AB}{σ:St}{H:Hp}{Q:VK}(I:Inv X pins σ H s)(q:Q (.bl k) H)(e:k=B):EP X pins σ Q (.bool B) s:=by subst e;exact⟨.bl k,H,I,rfl,q⟩
def zuW:OpR X (compareOp .Eq) rEq:=by
 intro pins s σ H x y v u Q I F B h;obtain⟨hs,q⟩:=h
 cases x with
 | non=>
  cases F
  cases y with
  | non=>cases B;exact PySem.EqNone.eq_none_none (z6 I q (by simp))
  | bl j=>cases B;exact PySem.EqNone.eq_none_bool (z6 I q (by simp))
  | int j=>obtain⟨t',rfl⟩:=B;exact PySem.EqNone.eq_none_int (z6 I q (by simp))
  | str j=>obtain⟨t',rfl⟩:=B;exact PySem.EqNone.eq_none_str (z6 I q (by simp))
  | _=>exact absurd (show false=true from hs) aI
 | bl i=>
  cases F
  cases y with
  | non=>cases B;exact PySem.EqNone.eq_bool_none (z6 I q (by simp))
  | bl j=>cases B;exact eq_bool (z6 I q zmM)
  | str j=>obtain⟨t',rfl⟩:=B;exact PySem.EqMixed.eq_bool_str (z6 I q (by simp))
  | _=>exact absurd (show false=true from hs) aI
 | int i=>
  obtain⟨t,rfl⟩:=F
  cases y with
  | non=>cases B;exact PySem.EqNone.eq_int_none (z6 I q (by simp))
  | int j=>obtain⟨t',rfl⟩:=B;exact eq_int (z6 I q ziu)
  | str j=>obtain⟨t',rfl⟩:=B;exact PySem.EqMixed.eq_int_str (z6 I q (by simp))
  | _=>exact absurd (show false=true from hs) aI
 | str i=>
  obtain⟨t,rfl⟩:=F
  cases y with
  | non=>cases B;exact PySem.EqNone.eq_str_none (z6 I q (by simp))
  | bl j=>cases B;exact PySem.EqMixed.eq_str_bool (z6 I q (by simp))
  | int j=>obtain⟨t',rfl⟩:=B;exact PySem.EqMixed.eq_str_int (z6 I q (by simp))
  | str j=>obtain⟨t',rfl⟩:=B;exact eq_str (z6 I q ziv)
  | _=>exact absurd (show false=true from hs) aI
 | byt i=>
  obtain⟨t,rfl⟩:=F
  cases y with
  | byt j=>obtain⟨t',rfl⟩:=B;exact PySem.W.eq_bytes (z6 I q zit)
  | _=>exact absurd (show false=true from hs) aI
 | _=>cases y <;> exact absurd (show false=true from hs) aI
def zu1:OpR X (compareOp .NotEq) rNe:=by
 intro pins s σ H x y v u Q I F B h;obtain⟨hs,q⟩:=h
 cases x with
 | non=>
  cases F
  cases y with
  | non=>cases B;exact PySem.EqNone.ne_none_none (z6 I q (by simp))
  | bl j=>cases B;exact PySem.EqNone.ne_none_bool (z6 I q (by simp))
  | int j=>obtain⟨t',rfl⟩:=B;exact PySem.EqNone.ne_none_int (z6 I q (by simp))
  | str j=>obtain⟨t',rfl⟩:=B;exact PySem.EqNone.ne_none_str (z6 I q (by simp))
  | _=>exact absurd (show false=true from hs) aI
 | bl i=>
  cases F
  cases y with
  | non=>cases B;exact PySem.EqNone.ne_bool_none (z6 I q (by simp))
  | bl j=>cases B;exact ne_bool (z6 I q (congrArg not zmM))
  | str j=>obtain⟨t',rfl⟩:=B;exact PySem.EqMixed.ne_bool_str (z6 I q (by simp))
  | _=>exact absurd (show false=true from hs) aI
 | int i=>
  obtain⟨t,rfl⟩:=F
  cases y with
  | non=>cases B;exact PySem.EqNone.ne_int_none (z6 I q (by simp))
  | int j=>obtain⟨t',rfl⟩:=B;exact ne_int (z6 I q (congrArg not ziu))
  | str j=>obtain⟨t',rfl⟩:=B;exact PySem.EqMixed.ne_int_str (z6 I q (by simp))
  | _=>exact absurd (show false=true from hs) aI
 | str i=>
  obtain⟨t,rfl⟩:=F
  cases y with
  | non=>cases B;exact PySem.EqNone.ne_str_none (z6 I q (by simp))
  | bl j=>cases B;exact PySem.EqMixed.ne_str_bool (z6 I q (by simp))
  | int j=>obtain⟨t',rfl⟩:=B;exact PySem.EqMixed.ne_str_int (z6 I q (by simp))
  | str j=>obtain⟨t',rfl⟩:=B;exact ne_str (z6 I q (congrArg not ziv))
  | _=>exact absurd (show false=true from hs) aI
 | byt i=>
  obtain⟨t,rfl⟩:=F
  cases y with
  | byt j=>obtain⟨t',rfl⟩:=B;exact PySem.W.ne_bytes (z6 I q (congrArg not zit))
  | _=>exact absurd (show false=true from hs) aI
 | _=>cases y <;> exact absurd (show false=true from hs) aI
def zu0:OpR X (compareOp .Lt) (rI0 λi j=>.bl (decide (i<j))):=ztF λ_ _ _ _ _ _ _ q=>lt_int q
def zuZ:OpR X (compareOp .LtE) (rI0 λi j=>.bl (decide (i<=j))):=ztF λ_ _ _ _ _ _ _ q=>le_int q
def zuY:OpR X (compareOp .Gt) (rI0 λi j=>.bl (decide (j<i))):=ztF λ_ _ _ _ _ _ _ q=>gt_int q
def zuX:OpR X (compareOp .GtE) (rI0 λi j=>.bl (decide (j<=i))):=ztF λ_ _ _ _ _ _ _ q=>ge_int q
def zA(b:Expr)(h:q≠.In:=by ext)(h2:q≠.NotIn:=by ext):behindInMarks q b=false:=by
 have B:(q==CmpOp.In)=false:=by cases q <;> first | rfl | exact absurd rfl h
 have F:(q==CmpOp.NotIn)=false:=by cases q <;> first | rfl | exact absurd rfl h2
 cases b <;> simp[behindInMarks,B,F]
def zoQ(F:OpR X (compareOp B) r)(J:PE X a ta)(L:PE X b tb)(O:behindInMarks B b=false):PE X (.Compare a [B] [b] pos) (tOp r ta tb):=by intro pins s σ H Q I h;exact wpAny_Compare1 (ztY J L I h λv u U x y H2 I2 Y Z q=>F pins U σ H2 x y v u Q I2 Y Z q) O
def zpZ (t:TE):TT:=λσ H Q=>t σ H λx H'=>∃k,x = .bl k/\Q k H'
def zpb(B:OpR X (compareOp q) r)(F:PE X a ta)(J:PE X b tb)(L:behindInMarks q b=false):PT X (.Compare a [q] [b] pos) (zpZ (tOp r ta tb)):=by
 intro pins s σ H Q I h
 show wpAny_isTrue_Compare1 (thn (F pins s σ H _ I h) λv O ⟨x,H1,I1,U,Y⟩=>thn (J pins O σ H1 _ I1 Y) λu Z ⟨y,H2,I2,r2,q2⟩=>
  thn (B pins Z σ H2 x y v u _ I2 U r2 q2) λc s3 ⟨z,H3,I3,r3,k,e,q3⟩=>?_) L
 subst e;cases r3;exact bZ ⟨H3,I3,q3⟩
def ztW (K:AH)(x:V)(H:Hp)(k:Bool):Prop:=
 match x with
 | .non=>k=false
 | .bl b=>k=b
 | .int i=>k=(i != 0)
 | .str y=>y.length<=sizeLine/\k=((y.length:Int) != 0)
 | .byt y=>y.size<=sizeLine/\k=((y.size:Int) != 0)
 | .ref p=>(∃xs,SqL K H p xs/\k = !xs.isEmpty)\/(∃xs,SqT K H p xs/\k = !xs.isEmpty)\/∃kvs,H p=some (.dK kvs)/\k = !kvs.isEmpty
 | _=>False
def zhB {κ:Type}{kvs:List (κ×V)}{vs:List (κ×Value)}(r:KV kvs vs):(!vs.isEmpty) = !kvs.isEmpty:=by cases r <;> rfl
def zc0(r:z0 xs its):(!its.toArray.isEmpty) = !xs.isEmpty:=by cases r <;> simp
def ze3:(sizeLine:Nat)<2 ^ 63:=by rw[bN];decide
def zsU:TruR X (λx H Q=>∃k,ztW X.K x H k/\Q k H):=by
 intro pins s σ H x v Q I J h;obtain⟨k,e,q⟩:=h;have Y:=ze3;have hs:sizeLine=16777216:=bN
 cases x with
 | non=>
  cases J;have B:k=false:=e;subst B;exact truthy_none ⟨H,I,q⟩
 | bl b=>
  cases J;have B:k=b:=e;subst B;exact bZ ⟨H,I,q⟩
 | int i=>
  obtain⟨t,rfl⟩:=J;have B:k=(i != 0):=e;subst B;exact PySem.P.truthy_int ⟨H,I,q⟩
 | str y=>
  obtain⟨t,rfl⟩:=J;obtain⟨O,B⟩:y.length<=sizeLine/\k=((y.length:Int) != 0):=e;subst B;exact PySem.P.truthy_str (by lia) ⟨H,I.tok _,q⟩
 | byt y=>
  obtain⟨t,rfl⟩:=J;obtain⟨O,B⟩:y.size<=sizeLine/\k=((y.size:Int) != 0):=e;subst B;exact PySem.W.truthy_bytes (by lia) ⟨H,I.tok _,q⟩
 | ref p=>
  cases J;have B:(∃xs,SqL X.K H p xs/\k = !xs.isEmpty)\/(∃xs,SqT X.K H p xs/\k = !xs.isEmpty)\/∃kvs,H p=some (.dK kvs)/\k = !kvs.isEmpty:=e;rcases B with ⟨xs,hx,B⟩ | ⟨xs,hx,B⟩ | ⟨kvs,hx,B⟩;subst B;obtain⟨its,r,pl,L⟩:=I.list hx;have F:=r.length;exact wpAny_truthy_list pl.isList (by simp only[aV];lia) ⟨H,I.tok _,by rw[zc0 r];exact q⟩;subst B;obtain⟨its,r,pl,L⟩:=I.tuple hx;have F:=r.length;exact truthy_tuple pl (by simp only[aV];lia) ⟨H,I.tok _,by rw[zc0 r];exact q⟩;subst B;obtain⟨L,U,vs,r,m⟩:kvs.length<=sizeLine/\(p==sysModules)=false/\∃vs,KV kvs vs/\s.heap.DictOf (zX X.prog X.w) p vs:=I.hok p _ hx;have F:kvs.length=vs.length:=ei r;exact wpAny_truthy_dict U m (by lia) ⟨H,I.tok _,by rw[zhB r];exact q⟩
 | _=>exact (show False from e).elim
def zlZ (ha:PE X a ta)(he:∀whole,isTrue a X.env whole=(do let v <- whole;standAt a.pos;holding [v] (truthy v))) :
  PT X a (λσ H Q=>ta σ H λx H'=>∃k,ztW X.K x H' k/\Q k H'):=by
 intro pins s σ H Q I h;exact isTrue_plain (thn (ha pins s σ H _ I h) <| by rintro v s1 ⟨x,H1,I1,r1,q1⟩;exact zsU pins s1 σ H1 x v Q I1 r1 q1) (he _)
def zaD(r:z0 [x] q):∃u,q=[u]/\yF x u:=by
 cases r with
 | cons B F=>cases F;exact⟨_,rfl,B⟩
def zth(r:z0 [x,y] q):∃u w',q=[u,w']/\yF x u/\yF y w':=by
 cases r with
 | cons B F=>
  cases F with
  | cons I J=>cases J;exact⟨_,_,rfl,B,I⟩
def zkO:zcH X (.builtin "abs") (λxs H Q=>∃i,xs=[.int i]/\Q (.int (if i<0 then -i else i)) H):=by intro pins s σ H xs B Q I r h;obtain⟨i,rfl,q⟩:=h;obtain⟨u,rfl,t,rfl⟩:=zaD r;exact call_abs_int λu tk=>⟨.int (if i<0 then -i else i),H,I.tok _,⟨_,rfl⟩,q⟩
def zib (F:X.calm=true):zcH X (.builtin "max") (λxs H Q=>∃i j,xs=[.int i,.int j]/\Q (.int (if j > i then j else i)) H):=by
 intro pins s σ H xs J Q I r h;obtain⟨i,j,rfl,q⟩:=h;obtain⟨u,w',rfl,⟨t,rfl⟩,⟨t',rfl⟩⟩:=zth r;show max_two_ints (I.ok.hd F) λh' tk k=>⟨_,H,I.kept k,?_,q⟩;by_cases B:j > i;rw[if_pos B,if_pos B];exact⟨_,rfl⟩;rw[if_neg B,if_neg B];exact⟨_,rfl⟩
def zqh (K:AH)(x:V)(H:Hp)(n:Nat):Prop:=
 match x with
 | .str y=>y.length<=sizeLine/\n=y.length
 | .byt y=>y.size<=sizeLine/\n=y.size
 | .ref p=>(∃xs,SqL K H p xs/\n=xs.length)\/∃xs,SqT K H p xs/\n=xs.length
 | _=>False
def zkQ:zcH X (.builtin "len") (λxs H Q=>∃x n,xs=[x]/\zqh X.K x H n/\Q (.int n) H):=by
 intro pins s σ H xs us Q I r h;obtain⟨x,n,rfl,e,q⟩:=h;obtain⟨u,rfl,rx⟩:=zaD r;have hl:=ze3;have hs:sizeLine=16777216:=bN
 cases x with
 | str y=>
  obtain⟨t,rfl⟩:=rx;obtain⟨hy,e'⟩:y.length<=sizeLine/\n=y.length:=e;subst e';exact len_str (by lia) ⟨.int _,H,I.tok _,⟨_,rfl⟩,q⟩
 | byt y=>
  obtain⟨t,rfl⟩:=rx;obtain⟨hy,e'⟩:y.size<=sizeLine/\n=y.size:=e;subst e';exact PySem.W.len_bytes (by lia) ⟨.int _,H,I.tok _,⟨_,rfl⟩,q⟩
 | ref p=>
  cases rx;have e':(∃xs,SqL X.K H p xs/\n=xs.length)\/∃xs,SqT X.K H p xs/\n=xs.length:=e;rcases e' with ⟨xs,hx,e'⟩ | ⟨xs,hx,e'⟩;subst e';obtain⟨its,r',pl,hz⟩:=I.list hx;have hlen:=r'.length;exact Calls.call_len_list pl.isList (by simp only[aV];lia) ⟨.int xs.length,H,I.tok _,⟨_,by simp only[aV];rw[hlen]⟩,q⟩;subst e';obtain⟨its,r',pl,hz⟩:=I.tuple hx;have hlen:=r'.length;exact len_tuple pl (by simp only[aV];lia) ⟨.int xs.length,H,I.tok _,⟨_,by simp only[aV];rw[hlen]⟩,q⟩
 | _=>exact (show False from e).elim
end
structure ObjM (h:Heap)(x dx C:Addr)(mA:AI):Prop where
 obj:h.get? x=some (PySem.W.instObj C dx)
 ns:h.Ns1 dx mA
 ne:dx≠x
def zjo {h:Heap}{dx:Addr}{mA:AI}(n:h.Ns1 dx mA):∃F,h.get? dx=some F/\∀name,PySem.W.lookIn name F=some (mA name):=by
 obtain⟨o,es,Y,I,J,L,_,O⟩:=n;show⟨o,I,λname=>?_⟩;have e:=O name;unfold nsFind findBy at e;rw[<- Array.find?_toList] at e;unfold PySem.W.lookIn;rw[J];dsimp only;split;right
 ·rename_i q;rw[q] at e
  have a:es.toList.any (·.refKey)=false:=by rw[List.any_eq_false];intro y U;obtain⟨z,t,B⟩:=L y (eh.mp U);simp[DictEntry.refKey,B]
  grind
def ObjM.look(I:ObjM h x dx C mA):∃q,PySem.W.InstAt h x (PySem.W.instObj C dx) C (some q)/\∀name,PySem.W.lookIn name q=some (mA name):=
 let ⟨q,ho,hl⟩:=zjo I.ns
 ⟨q,⟨I.obj,rfl,rfl,ho⟩,hl⟩
section
variable {prog:Aa}{w:Ab}{A:Ae}{E:AA}{s:AZ}{K:AH}{x dx C f:Addr}{mA:AI}{name:Str}{v:Value}
end
def zh2.some_of(r:zh2 (some v) o):∃u,o=some u/\yF v u:=by
 cases o with
 | none=>exact (show False from r).elim
 | some u=>exact⟨u,rfl,r⟩
section
variable {P:Aa}{w:Ab}{H H':Hp}{h h':Heap}{a C dx:Addr}{fs fs':List (Str×V)}
def zoc (B:HOk P w H h)(e:H a=some (.ins C dx fs)):∃mA,ObjM h a dx C mA/\(∀f,zh2 (fs.lookup f) (mA f))/\PySem.Within mA (fs.map (·.1))/\fs.length<=1000/\H dx=some (.own a):=by obtain⟨d,z,F,ob,mA,n,r,q⟩:=(show yi P w H h a (.ins C dx fs) from B a _ e);exact⟨mA,⟨ob,n,F⟩,r,q,z,d⟩
end
structure Cls (K:AH)(C:Addr):Prop where
 pg:PySem.W.plainGet K C Str.empty=true
 hd:PySem.W.hasDictIn K C=true
 po:PySem.W.plainOver K C=true
 sa:PySem.W.findIn K (.ref C) "__setattr__" = some (some (.builtin "object.__setattr__"))
def Cls.get {K:AH}{C:Addr}(c:Cls K C)(f:Str):PySem.W.plainGet K C f=true:=c.pg
section
variable {X:Cx}{pins:AB}{σ:St}{H:Hp}{s:AZ}{a C dx:Addr}{fs:List (Str×V)}{f:Str}{v:V}{A:Ae}{E:AA}
end
def zts (X:Cx)(q:Operator)(B:V->V->Hp->VK->Prop):Prop:=
 ∀ (pins:AB) (s:AZ) (σ:St) (H:Hp) (x y:V) (u v:Value) (Q:VK),Inv X pins σ H s->yF x u->yF y v->B x y H Q->Af X (inplaceOp q u v) (EP X pins σ Q) X.xe s
section
variable {X:Cx}{o e value:Expr}{f:Str}{pos pos' tpos:Pos}{ta tv:TE}
def rAdd:V->V->Hp->VK->Prop:=λx y H Q=>∃i j,x = .int i/\y = .int j/\Q (.int (i+j)) H
def rSub:V->V->Hp->VK->Prop:=λx y H Q=>∃i j,x = .int i/\y = .int j/\Q (.int (i - j)) H
def zq0:zts X .Add rAdd:=by rintro pins s σ H x y u v Q I B F ⟨i,j,rfl,rfl,q⟩;obtain⟨t,rfl⟩:=(show ∃t,u=Value.int i t from B);obtain⟨t',rfl⟩:=(show ∃t',v=Value.int j t' from F);exact PyProof.Rows.iadd_int ⟨.int (i+j),H,I.tok _,⟨_,rfl⟩,q⟩
def zq1:zts X .Sub rSub:=by rintro pins s σ H x y u v Q I B F ⟨i,j,rfl,rfl,q⟩;obtain⟨t,rfl⟩:=(show ∃t,u=Value.int i t from B);obtain⟨t',rfl⟩:=(show ∃t',v=Value.int j t' from F);exact PyProof.Rows.isub_int ⟨.int (i - j),H,I.tok _,⟨_,rfl⟩,q⟩
variable {pins:AB}{σ:St}{H:Hp}{s:AZ}{A:Ae}{E:AA}{Q:AA}{c:Value}{b:Bool}
inductive TyOf (K:AH) (H:Hp):V->Value->Prop where
 | non:TyOf K H .non (.type "NoneType")
 | bl (x:Bool):TyOf K H (.bl x) (.type "bool")
 | int (i:Int):TyOf K H (.int i) (.type "int")
 | str (x:Str):TyOf K H (.str x) (.type "str")
 | flt (x:UInt64):TyOf K H (.flt x) (.type "float")
 | lst {a:Addr} {xs:AT} (e:H a=some (.lst xs)):TyOf K H (.ref a) (.type "list")
 | frz {a:Addr} {o:Obj} {xs:AT} (e:H a=some (.frz o (.lst xs))):TyOf K H (.ref a) (.type "list")
 | tup {a:Addr} {xs:AT} (e:H a=some (.tup xs)):TyOf K H (.ref a) (.type "tuple")
 | dK {a:Addr} {kvs:List (Key×V)} (e:H a=some (.dK kvs)):TyOf K H (.ref a) (.type "dict")
 | dT {a:Addr} {kvs:List (List Key×V)} (e:H a=some (.dT kvs)):TyOf K H (.ref a) (.type "dict")
 | ins {a C dx:Addr} {fs:List (Str×V)} (e:H a=some (.ins C dx fs)) (cl:Cls K C) (ha:PySem.W.findIn K (.ref C) "__class__" = some (some (.builtin "object.__class__")))
   (hn:PySem.W.specialIn K (.builtin "object.__class__") "__get__" = some (some (.builtin "getset_descriptor.__get__"))) (htk:PySem.W.takesIn K (.builtin "object.__class__")=some true)
   (hm:PySem.W.mroIn K C (.type "object")=some true):TyOf K H (.ref a) (.ref C)
def zi1(I:Inv X pins σ H s)(B:yF x u)(ty:TyOf X.K H x t)(e:PySem.W.kitOne X.K t c=some b)(h:∀tk,Q (.bool b) { s with toks:=tk }) :
  wpAny (model X.prog X.w) A (call (.builtin "isinstance") [u,c]) Q E s:=by
 cases ty with
 | non=>cases (show u=Value.none from B);exact bG PySem.W.kitx_none I.kIn True.intro e (λz=>nomatch z) h
 | bl y=>cases (show u=Value.bool y from B);exact bG PySem.W.kitx_bool I.kIn True.intro e (λz=>nomatch z) h
 | int i=>obtain⟨t,q⟩:=(show ∃t,u=Value.int i t from B);cases q;exact bG PySem.W.kitx_int I.kIn True.intro e (λz=>nomatch z) h
 | str y=>obtain⟨t,q⟩:=(show ∃t,u=Value.str y t from B);cases q;exact bG PySem.W.kitx_str I.kIn True.intro e (λz=>nomatch z) h
 | flt y=>obtain⟨t,q⟩:=(show ∃t,u=Value.float y t from B);cases q;exact bG PySem.W.kitx_float I.kIn True.intro e (λz=>nomatch z) h
 | @lst a xs F=>
  cases (show u=Value.ref a from B);obtain⟨_,_,n,_,h1⟩:=(show yi X.prog X.w H s.heap a (.lst xs) from I.hok a _ F);exact bG PySem.W.kitx_list I.kIn ⟨_,h1,rfl⟩ e (λz=>nomatch z) h
 | @frz a ob xs F=>
  cases (show u=Value.ref a from B);obtain⟨_,_,_,n,_,h1⟩:=(show yi X.prog X.w H s.heap a (.frz ob (.lst xs)) from I.hok a _ F);exact bG PySem.W.kitx_list I.kIn ⟨_,h1,rfl⟩ e (λz=>nomatch z) h
 | @tup a xs F=>
  cases (show u=Value.ref a from B);obtain⟨_,_,_,p⟩:=(show yi X.prog X.w H s.heap a (.tup xs) from I.hok a _ F);obtain⟨o,h1,h2,_⟩:=p;exact bG PySem.W.kitx_tuple I.kIn ⟨o,h1,h2⟩ e (λz=>nomatch z) h
 | @dK a kvs F=>
  cases (show u=Value.ref a from B);obtain⟨_,_,vs,_,p⟩:=(show yi X.prog X.w H s.heap a (.dK kvs) from I.hok a _ F);obtain⟨o,es,Y,h1,h2,_⟩:=p;exact bG PySem.W.kitx_dict I.kIn ⟨o,h1,h2.1⟩ e (λz=>nomatch z) h
 | @dT a kvs F=>
  cases (show u=Value.ref a from B);obtain⟨_,_,xs,_,o,es,Y,h1,h2,_⟩:=(show yi X.prog X.w H s.heap a (.dT kvs) from I.hok a _ F);exact bG PySem.W.kitx_dict I.kIn ⟨o,h1,h2.1⟩ e (λz=>nomatch z) h
 | @ins a C dx fs F U Z hn L hm=>
  cases (show u=Value.ref a from B);obtain⟨mA,O,_⟩:=zoc I.hok F;obtain⟨od,J,_⟩:=O.look;exact bG (PySem.W.kitx_own (U.get _) U.hd Z hn L hm) I.kIn J e (λz=>nomatch z) h
end
structure Room (k:Nat)(A:Ae):Prop where
 hd:A.handled=none
 dp:A.depth+3 * k+5<recursionLimit
 un:A.units+16 * k+200<cLine
def Room.mono {j k:Nat}{A:Ae}(r:Room k A)(h:j<=k):Room j A:=⟨r.hd,by have:=r.dp;lia,by have:=r.un;lia⟩
def Room.deeper(r:Room (k+1) A)(env:Env):Room k (A.deeper env):=
 ⟨r.hd,by have:=r.dp;change A.depth+1+3 * k+5<_;lia,by have:=r.un;change A.units+3+16 * k+200<_;lia⟩
def Room.depth(r:Room k A):A.depth<recursionLimit:=by have:=r.dp;lia
def Room.units(r:Room k A):A.units+64<cLine:=by have:=r.un;lia
def znq:TA:=λ_ H Q=>Q [] H
def zcB (ta:TE)(q:TA):TA:=λσ H Q=>ta σ H λx H1=>q σ H1 λxs H2=>Q (x::xs) H2
section
variable {X:Cx}{e:Expr}{es:AO}{te:TE}{t:TA}{pos:Pos}
def zrG:PA X [] znq:=λ_ _ _ _ H Q I h=>Calls.spliced_nil ⟨[],H,I,.nil,h⟩
def zoO (q:PE X e te)(B:PA X es t)(hs:starEach (e::es) X.env=(false,eval e X.env)::starEach es X.env:=by rfl):PA X (e::es) (zcB te t):=by intro pos pins s σ H Q I h;rw[hs];change wpAny _ _ (spliced ((false,eval e X.env)::backTo pos (starEach es X.env))) _ _ s;show Calls.spliced_cons (thn (q pins s σ H _ I h)  ?_);rintro u F ⟨x,H1,I1,J,L⟩;exact thn (B pos pins F σ H1 _ I1 L) <| by rintro Y Z ⟨xs,H2,I2,O,U⟩;exact⟨x::xs,H2,I2,.cons J O,U⟩
end
abbrev Sp:=AT->Hp->VK->XK->Prop
abbrev CXT:=List Env->Hp->AZ->XK->AA
structure Env0 (P:Aa)(w:Ab)(K:AH)(mg:AI)(base:Heap)(A:Ae)(outer:List Env)(s:AZ)(H:Hp):Prop where
 frames:A.frames=some outer
 mod:Mod K mg base
 bs:∀b o,base.get? b=some o->s.heap.get? b=some o/\H b=none
 bsz:base.objs.size<=s.heap.objs.size
 funs:s.heap.FunFrames base outer
 frf:∀b∈frs outer,H b=none
 hok:HOk P w H s.heap
 bare:AllBare s.gens
def CE (q:List Env)(P:Aa)(w:Ab)(H:Hp)(s:AZ)(Q:VK)(u:Value)(s':AZ):Prop:=
 ∃v H',s'.os=s.os/\AllBare s'.gens/\Un (frs q) [] H H' s.heap s'.heap/\HOk P w H' s'.heap/\yF v u/\Q v H'
def CR (CX:CXT)(q:List Env)(P:Aa)(w:Ab)(H:Hp)(s:AZ)(Q:VK)(E:XK)(r:Result)(s':AZ):Prop:=
 match r with
 | .ok (.ret u)=>CE q P w H s Q u s'
 | .ok _=>False
 | .error e=>CX q H s E e s'
structure FnOk (P:Aa)(w:Ab)(K:AH)(mg:AI)(base:Heap)(CX:CXT)(k:Nat)(f:Addr)(fd:Ac)(ps:AM)(sp:Sp):Prop where
 len:∀vs H Q E,sp vs H Q E->vs.length=ps.length
 run:∀ (A:Ae) (outer:List Env) (s:AZ) (H:Hp) (args:Args) (us:AN) (vs:AT) (Q:VK) (E:XK),Room k A->Env0 P w K mg base A outer s H->BindsTo s fd args (ps.zip us)->z0 vs us->sp vs H Q E->
  codeAny (model P w) A (.call (.ref f) args) (CR CX outer P w H s Q E) s
def FnOk.mono{P:Aa}{w:Ab}{K:AH}{mg:AI}{base:Heap}{CX:CXT}{f:Addr}{fd:Ac}{ps:AM}(F:FnOk P w K mg base CX j f fd ps sp)(h:j<=k) :
  FnOk P w K mg base CX k f fd ps sp:=⟨F.len,λA q s H args B vs Q E I=>F.run A q s H args B vs Q E (I.mono h)⟩
def FnOk.imp{P:Aa}{w:Ab}{K:AH}{mg:AI}{base:Heap}{CX:CXT}{f:Addr}{fd:Ac}{ps:AM}{sp I:Sp}(F:FnOk P w K mg base CX k f fd ps sp)(h:∀vs H Q E,I vs H Q E->sp vs H Q E):FnOk P w K mg base CX k f fd ps I:=
 ⟨λvs H Q E q=>F.len vs H Q E (h _ _ _ _ q),λA B s H args J vs Q E L O U Y hs=>F.run A B s H args J vs Q E L O U Y (h _ _ _ _ hs)⟩
section
variable {X:Cx}{pins:AB}{σ:St}{H:Hp}{s s':AZ}
def Inv.env0 (I:Inv X pins σ H s):Env0 X.prog X.w X.K X.mg X.base X.A X.stack s H:=
 ⟨I.ok.frames,I.ok.mod,I.bs,aw I.ok.bsz I.sz,I.stack,I.stkFree,I.hok,I.bare⟩
def Inv.after(I:Inv X pins σ H s)(h:CE X.stack X.prog X.w H s Q u s'):EP X pins σ Q u s':=by obtain⟨v,H',L,B,O,F,r,q⟩:=h;obtain⟨U,g,d,t,J⟩:=s';obtain rfl:J=s.os:=L;exact⟨v,H',I.call (h':=U) (g':=g) (d':=d) (t':=t) (ch:=[]) O F B (λb z=>absurd z (by simp)),r,q⟩
end
def zfv (sp:Sp)(dvs:AT)(E:XK)(t:TA):TE:=λσ H Q=>t σ H λvs H1=>sp (vs++dvs) H1 Q E
def zdh (K:AH)(fd:Ac)(ps:AM)(ds:AN):Prop:=
 ∀ (s:AZ) (q:AN),K.In s.heap->(q++ds).length=ps.length->BindsTo s fd ⟨q,[]⟩ (ps.zip (q++ds))
def zdh.all {K:AH}{fd:Ac}{ps:AM}(h:∀q:AN,q.length=ps.length->bindArgs fd ⟨q,[]⟩=pure (ps.zip q)):zdh K fd ps []:=λs q _ B=>by rw[eo] at B ⊢;exact .of_eq (h q B)
def zh1 (CX:CXT)(X:Cx)(E:XK):Prop:=∀ (pins:AB) (σ:St) (H:Hp) (s:AZ) (e:Value) (s':AZ),Inv X pins σ H s->CX X.stack H s E e s'->X.xe e s'
section
variable {X:Cx}{CX:CXT}{k:Nat}{f C:Addr}{fd:Ac}{ps:AM}{sp:Sp}{dvs:AT}{ds:AN}{E:XK}{x m:Str}{p pos apos:Pos}{e o:Expr}{es:AO}{ta:TE}{t:TA}
def zsD{pins:AB}{σ:St}{H:Hp}{s:AZ}{Q:VK}{vs:AT}(F:FnOk X.prog X.w X.K X.mg X.base CX k f fd ps sp)(L:Room k X.A)(O:zdh X.K fd ps ds)(U:z0 dvs ds)(Y:zh1 CX X E)(I:Inv X pins σ H s)(r:z0 vs q)(h:sp (vs++dvs) H Q E):Af X (call (.ref f) q) (EP X pins σ Q) X.xe s:=by
 have J:z0 (vs++dvs) (q++ds):=r.append U;have Z:(q++ds).length=ps.length:=by rw[<- J.length];exact F.len _ _ _ _ h
 show wpAny_call (dR (F.run X.A X.stack s H ⟨q,[]⟩ (q++ds) (vs++dvs) Q E L I.env0 (O s q I.kIn Z) J h) λr s' B=>?_)
 cases r with
 | error e=>exact Y pins σ H s e s' I B
 | ok fl=>
  cases fl with
  | ret u=>exact I.after B
  | next=>exact False.elim B
  | brk=>exact False.elim B
  | cont=>exact False.elim B
def zjO (F:FnOk X.prog X.w X.K X.mg X.base CX k f fd ps sp)(L:Room k X.A)(O:Gl X x)(U:X.mg x=some (.ref f))(Y:PySem.W.keepIn X.K (.ref f)=true)(Z:zdh X.K fd ps ds)(hd:z0 dvs ds)(hx:zh1 CX X E)
  (ha:PA X (e::es) t) (B:Ah x:=by ext) (he:starEach (e::es) X.env=(false,eval e X.env)::starEach es X.env:=by rfl) (J:(backTo pos (starEach es X.env)).any (·.1)=false:=by rfl) :
  PE X (.Call (.Name x p) (e::es) [] pos) (zfv sp dvs E t):=by
 intro pins s σ H Q I h;show eK (zoq I O U ?_ B);show PySem.W.callWith_K (h₀:=X.base) I.ok.mod.kin Y (thn (ha pos pins s σ H _ I h) λus s1 ⟨vs,H1,I1,r,q⟩=>⟨I1.kIn,?_⟩) he J;exact zsD F L Z hd hx I1 r q
variable {ks:AM}{kpos:Pos}{kws:List Keyword}{te:TE}{tk:TA}{nm:Option Str}
variable {g:AN->AN->AN}{gV:AT->AT->AT}
end
structure FnScope (N P:AM)(sc:Scope):Prop where
 kind:sc.kind = .function
 co:sc.isCoroutine=false
 gen:sc.isGenerator=false
 nd:N.Nodup
 pre:N.take P.length=P
 par:∀x∈P,sc.names.lookup x=some .local\/sc.names.lookup x=some .cell
 nofree:∀y∈sc.names,y.2≠.free
def zeE {B:Str->Option NameKind}{x:Str}:∀ {q:List (Str×Value)} {m:AI},(∀v,(x,v)∉q)->bindL B q m x=m x
 | [],_,_=>rfl
 | (n,v)::r,m,h=>by
  unfold bindL;rw[zeE λw F=>h w (ar _ F)];split
  all_goals grind
def zeC {B:Str->Option NameKind}{x:Str}:∀ {q:List (Str×Value)} {m:AI},(∀v,(x,v)∉q)->bindC B q m x=m x
 | [],_,_=>rfl
 | (n,v)::r,m,h=>by
  unfold bindC;rw[zeC λw F=>h w (ar _ F)];split
  all_goals grind
def zeD {q:Str->Option NameKind}{x:Str}{v:Value}:∀ {P:AM} {vs:AN} {i:Nat} {m:AI},P.Nodup->P[i]?=some x->vs[i]?=some v->q x=some .local->
  bindL q (P.zip vs) m x=some v
 | [],_,_,_,_,h,_,_=>by simp at h
 | _::_,[],_,_,_,_,h,_=>by simp at h
 | p::P,w::vs,0,m,B,h1,h2,F=>by simp at h1 h2;subst h1;subst h2;change bindL q ((p,w)::P.zip vs) m p=_;unfold bindL;rw[zeE λv I=>(bH.mp B).1 (List.of_mem_zip I).1,if_pos F];simp
 | p::P,w::vs,i+1,m,B,h1,h2,F=>by change bindL q ((p,w)::P.zip vs) m x=_;unfold bindL;exact zeD (i:=i) (bH.mp B).2 (by simpa using h1) (by simpa using h2) F
def zeB {q:Str->Option NameKind}{x:Str}{v:Value}:∀ {P:AM} {vs:AN} {i:Nat} {m:AI},P.Nodup->P[i]?=some x->vs[i]?=some v->q x≠some .local->
  bindC q (P.zip vs) m x=some v
 | [],_,_,_,_,h,_,_=>by simp at h
 | _::_,[],_,_,_,_,h,_=>by simp at h
 | p::P,w::vs,0,m,B,h1,h2,F=>by simp at h1 h2;subst h1;subst h2;change bindC q ((p,w)::P.zip vs) m p=_;unfold bindC;rw[zeC λv I=>(bH.mp B).1 (List.of_mem_zip I).1,if_neg F];simp
 | p::P,w::vs,i+1,m,B,h1,h2,F=>by change bindC q ((p,w)::P.zip vs) m x=_;unfold bindC;exact zeB (i:=i) (bH.mp B).2 (by simpa using h1) (by simpa using h2) F
def y4 (N:AM)(vs:AT):St:=vs.map some++List.replicate (N.length - vs.length) none
def zcL (CX:CXT)(P:Aa)(w:Ab)(K:AH)(mg:AI)(base:Heap)(N:AM)(qual:Str)(scope:Scope)(f:Addr)(cd:Value)(A:Ae)(outer:List Env)(s:AZ)(H:Hp)(E:XK):Cx where
 prog:=P
 w:=w
 K:=K
 mg:=mg
 base:=base
 A:=A.deeper (envOfC qual scope s.heap.objs.size f cd)
 N:=N
 s₀:=s
 H₀:=H
 env:=envOfC qual scope s.heap.objs.size f cd
 outer:=outer
 stack:=envOfC qual scope s.heap.objs.size f cd::outer
 ex:=[]
 calm:=true
 fn:=λ_=>true
 pn:=[]
 xe:=λe s'=>wpAny (model P w) (A.deeper (envOfC qual scope s.heap.objs.size f cd)) (leaving (envOfC qual scope s.heap.objs.size f cd) e) (λ_ s''=>CX outer H s E e s'') (λe' s''=>CX outer H s E e' s'') s'
def zgz{B:Scope}(h:B.names.lookup x=some .cell):∃c,(cellsFrom n B.names []).lookup x=some c:=by have q:=PySem.W.cellsFrom_some B.names n [] (.inl h);exact Option.isSome_iff_exists.mp q
def ziV{CX:CXT}{P:Aa}{w:Ab}{K:AH}{mg:AI}{base:Heap}{N ps:AM}{F:Str}{scope:Scope}{f:Addr}{Y:Value}{A:Ae}{B:List Env}{s s1:AZ}{H:Hp}{E:XK}{vs:AT}(S:FnScope N ps scope)(hd:A.handled=none)(I:Env0 P w K mg base A B s H)(hl:vs.length=ps.length)(r:z0 vs Z)(x:InCallC s s.heap.objs.size (bindL (envOfC F scope s.heap.objs.size f Y).kindOf (ps.zip Z) λ_=>none) (cellsFrom (s.heap.objs.size+1) scope.names []) (bindC (envOfC F scope s.heap.objs.size f Y).kindOf (ps.zip Z) λ_=>none) s1) :
  Inv (zcL CX P w K mg base N F scope f Y A B s H E) [] (y4 N vs) H s1:=by
 have ad:ps.length<=N.length:=by have:=congrArg List.length S.pre;rw[aN] at this;lia
 obtain⟨h1,tk,rfl,hk⟩:=x.done;have J:∀b:Addr,b∉(zcL CX P w K mg base N F scope f Y A B s H E).ex:=λb z=>absurd (show b∈([]:AY) from z) (by simp)
 show⟨⟨I.mod,S.kind,rfl,rfl,ai _,λy z c h1 h2=>?_,λy L=>?_,λy c _ h=>?_,λ_=>hd,Around.frames_deeper I.frames,.inr ⟨rfl,rfl⟩,λb z=>absurd z (J b),I.bs,I.bsz,λb _ _=>J b,λb z=>absurd z (J b),I.funs,I.frf⟩,
  rfl,I.bare,Un.kept hk,⟨_,x.toInCall.ns,λi y v h1 h2 h3=>?_⟩,λy c h=>⟨_,x.cell y c h⟩,I.hok.fresh (ai _),λy c h=>?_,λp O=>absurd (show p∈([]:AB) from O) (by simp),I.hok.kept hk,?_⟩
 exact name_of_addr x.apart (cN h1) (cN h2);have L:scope.names.lookup y=some .cell\/scope.names.lookup y=some .free:=L;rcases L with L | L;exact zgz L;exact absurd rfl (S.nofree _ (cN L));exact cg (x.above y c (cN h))
 have hi:i<vs.length:=by
  unfold y4 at h2;by_cases hi:i<vs.length;exact hi;rw[bf (by simpa using hi)] at h2;rw[List.getElem?_replicate] at h2;right
 have ha:vs[i]?=some v:=by
  unfold y4 at h2;rw[a6 (by simpa using hi),aj] at h2;right
 obtain⟨u,hu,rv⟩:=r.get ha;have O:ps[i]?=some y:=by rw[<- S.pre,dr (by lia)];exact h1
 have U:ps.Nodup:=by rw[<- S.pre];exact S.nd.sublist (dJ _ _)
 show⟨u,rv,?_⟩;rcases S.par y (ak O) with k | k;exact .inl ⟨k,zeD U O hu k⟩;obtain⟨c,e⟩:=zgz (n:=s.heap.objs.size+1) k;show .inr ⟨.inl k,c,e,?_⟩;have q:=x.cell y c e;rw[zeB U O hu (by change scope.names.lookup y≠_;rw[k];decide)] at q;exact q;exact I.hok.fresh (cg (x.above y c (cN h)));unfold y4;change _=N.length;grind
def zqT{CX:CXT}{P:Aa}{w:Ab}{K:AH}{mg:AI}{base:Heap}{f:Addr}{name F:Str}{O:Arguments}{body:List Stmt}{scope:Scope}{dV kV ad pm L ct oc:Value}{an od:Option Addr}{N ps:AM}{sp:Sp}(lk:K.lookup f=some ⟨oc,od,.func (PySem.W.fnOf name F O body scope dV kV ad pm an L ct),ap⟩)(as:PySem.W.codeIn K L F=true)(S:FnScope N ps scope)(ag:∀vs H Q E,sp vs H Q E->vs.length=ps.length)(Y:∀ (A:Ae) (B:List Env) (s:AZ) (H:Hp) (vs:AT) (Q:VK) (E:XK),Room k (A.deeper (envOfC F scope s.heap.objs.size f L))->sp vs H Q E->
   ∃t,PSs (zcL CX P w K mg base N F scope f L A B s H E) body t/\t { nx:=λ_ H'=>Q .non H',rt:=Q } (y4 N vs) H) :
  FnOk P w K mg base CX (k+1) f (PySem.W.fnOf name F O body scope dV kV ad pm an L ct) ps sp:=by
 show⟨ag,λA B s H args us vs Q E hr e0 hb r al=>?_⟩;have hl:=ag _ _ _ _ al;have KX:K.In s.heap:=e0.mod.kin.keeps λb o e=>(e0.bs b o e).1;have lim:s.heap.NoLimit:=e0.mod.nolimit.keeps λb o e=>(e0.bs b o e).1
 have Z:∀y∈ps.zip us,scope.names.lookup y.1=some .local\/(scope.names.lookup y.1=some .cell/\((cellsFrom (s.heap.objs.size+1) scope.names []).lookup y.1).isSome=true):=by
  rintro⟨n,v⟩ hy;rcases S.par n (List.of_mem_zip hy).1 with q | q;exact .inl q;exact .inr ⟨q,PySem.W.cellsFrom_some _ _ _ (.inl q)⟩
 show codeAny_call_function hr.depth (KX _ _ lk) rfl S.co S.gen rfl (PySem.W.codeRec_of KX as) (hb _ _ _ _ ?_);show wpAny_newFunctionEnv_cells S.kind Z λenv he s1 x=>?_;subst he;show⟨lim.keeps x.toInCall.keep,codeAny_func ?_⟩;obtain⟨t,ht,hq⟩:=Y A B s H vs Q E (hr.deeper _) al;have I:Inv (zcL CX P w K mg base N F scope f L A B s H E) [] (y4 N vs) H s1:=ziV S hr.hd e0 hl r x;show aQ (ht [] s1 (y4 N vs) H _ I hq) (λfl s' hs=>?_) λe s' hs=>hs
 have fin:∀ {U:St} {H':Hp} {v:V} {u:Value},Inv (zcL CX P w K mg base N F scope f L A B s H E) [] U H' s'->yF v u->Q v H'->CE B P w H s Q u s':=
  λ{U H' v u} J rv q=>⟨v,H',J.os,J.bare,J.base,J.hok,rv,q⟩
 cases fl with
 | ret u=>
  obtain⟨v,U,H',J,rv,q⟩:=hs;exact fin J rv q
 | next=>
  obtain⟨U,H',J,q⟩:=hs;exact fin (v:=V.non) (u:=Value.none) J rfl q
 | brk=>
  obtain⟨_,_,_,q⟩:=hs;exact False.elim q
 | cont=>
  obtain⟨_,_,_,q⟩:=hs;exact False.elim q
section
variable {X:Cx}{x:Str}{p pos:Pos}{e:Expr}{es:AO}{t:TA}{id T:String}{r:AT->Hp->VK->Prop}
def tCB (r:AT->Hp->VK->Prop)(t:TA):TE:=λσ H Q=>t σ H λvs H1=>r vs H1 Q
def zlO (F:zcH X (.builtin id) r)(J:Gl X x)(L:X.mg x=none)(O:bootBuiltins x=some (.builtin id))(U:PA X (e::es) t)(Y:x ≠ "__name__" := by ext)(q:Ah x:=by ext)
  (Z:starEach (e::es) X.env=(false,eval e X.env)::starEach es X.env:=by rfl) (B:(backTo pos (starEach es X.env)).any (·.1)=false:=by rfl):PE X (.Call (.Name x p) (e::es) [] pos) (tCB r t):=by
 intro pins s σ H Q I h;show eK (zca I J L O ?_ Y q);exact PyProof.Rows.callWith_builtin1 (thn (U pos pins s σ H _ I h) <| by rintro us s1 ⟨vs,H1,I1,r1,q1⟩;exact F pins s1 σ H1 vs us Q I1 r1 q1) Z B
def zjP (F:zcH X (.type T) r)(J:Gl X x)(L:X.mg x=none)(O:bootBuiltins x=some (.type T))(U:PA X (e::es) t)(Y:x ≠ "__name__" := by ext)(q:Ah x:=by ext)
  (Z:starEach (e::es) X.env=(false,eval e X.env)::starEach es X.env:=by rfl) (B:(backTo pos (starEach es X.env)).any (·.1)=false:=by rfl):PE X (.Call (.Name x p) (e::es) [] pos) (tCB r t):=by
 intro pins s σ H Q I h;show eK (zca I J L O ?_ Y q);exact bS (thn (U pos pins s σ H _ I h) <| by rintro us s1 ⟨vs,H1,I1,r1,q1⟩;exact F pins s1 σ H1 vs us Q I1 r1 q1) Z B
end
section
variable {κ:Type}[DecidableEq κ]
def za6 (kvs:List (κ×V))(k:κ):Option V:=(kvs.find? λkv=>decide (kv.1=k)).map (·.2)
def zap (kvs:List (κ×V))(k:κ)(v:V):List (κ×V):=
 if (kvs.any λkv=>decide (kv.1=k))=true then kvs.map (λkv=>if kv.1=k then (kv.1,v) else kv) else kvs++[(k,v)]
def xg{p:κ×V}(e:p.1=k):za6 (p::r) k=some p.2:=by simp[za6,bI,e]
def xz{p:κ×V}{r:List (κ×V)}(e:¬ p.1=k):za6 (p::r) k=za6 r k:=by simp[za6,bI,e]
def zen (k:κ):∀kvs:List (κ×V),(kvs.any λkv=>decide (kv.1=k))=(za6 kvs k).isSome
 | []=>rfl
 | p::r=>by
  rw[cO];by_cases e:p.1=k;simp only[xg e,a9 e,Bool.true_or,Option.isSome_some];rw[xz e,bc e,Bool.false_or];exact zen k r
def xE (kvs:List (κ×V))(k:κ)(v:V):(zap kvs k v).length<=kvs.length+1:=by
 unfold zap;split
 all_goals right
def zl0 {kvs:List (κ×V)}{k:κ}(v:V)(h:za6 kvs k=none):zap kvs k v=kvs++[(k,v)]:=by
 unfold zap;rw[zen,h];right
def zh2.isSome_eq(r:zh2 o u):o.isSome=u.isSome:=by
 cases o with
 | none=>cases u with
  | none=>rfl
  | some _=>exact (show False from r).elim
 | some _=>cases u with
  | none=>exact (show False from r).elim
  | some _=>rfl
def KV.val(r:KV kvs vs)(k:κ):zh2 (za6 kvs k) (valueAt vs k):=by
 unfold KV at r
 induction r with
 | nil=>exact True.intro
 | @cons p q ps B h t I=>
  obtain⟨h1,h2⟩:=h;by_cases e:p.1=k;have F:q.1=k:=h1.symm.trans e;have b:valueAt (q::B) k=some q.2:=by simp[valueAt,bI,F]
  rw[xg e,b];exact h2;have F:¬ q.1=k:=λz=>e (h1.trans z);have b:valueAt (q::B) k=valueAt B k:=by simp[valueAt,bI,F]
  rw[xz e,b];exact I
def KV.any(r:KV kvs vs)(k:κ):(kvs.any λkv=>decide (kv.1=k))=vs.any λkv=>decide (kv.1=k):=by
 unfold KV at r
 induction r with
 | nil=>rfl
 | cons h t q=>rw[cO,cO,q,h.1]
def KV.repl {kvs:List (κ×V)}{vs:List (κ×Value)}(r:KV kvs vs)(k:κ){y:V}{u:Value}(F:yF y u) :
  KV (kvs.map λkv=>if kv.1=k then (kv.1,y) else kv) (vs.map λkv=>if kv.1=k then (kv.1,u) else kv):=by
 unfold KV at r ⊢
 induction r with
 | nil=>exact .nil
 | @cons p q ps I h t B=>
  rw[aB,aB];show .cons ?_ B;grind
def KV.put(r:KV kvs vs)(k:κ)(q:yF y u):KV (zap kvs k y) (stored vs k u):=by
 unfold zap stored;rw[r.any k];by_cases e:(vs.any λkv=>decide (kv.1=k))=true;rw[if_pos e,if_pos e];exact r.repl k q;rw[if_neg e,if_neg e];exact Paired.snoc r ⟨rfl,q⟩
def KV.length {kvs:List (κ×V)}{vs:List (κ×Value)}(r:KV kvs vs):kvs.length=vs.length:=ei r
end
def zjc(r:yF (kV k) u):(zX P w).is k u=true:=by
 cases k with
 | inl i=>obtain⟨t,e⟩:=(show ∃t,u=Value.int i t from r);subst e;exact zga P w i t
 | inr x=>obtain⟨t,e⟩:=(show ∃t,u=Value.str x t from r);subst e;exact zgb P w x t
def zeV:∀ {ks:List Key} {q:AN},z0 (ks.map kV) q->ItemsAre (zX P w) ks q
 | [],_,r=>by rw[dS] at r;cases r;exact .nil
 | k::ks,_,r=>by
  rw[aB] at r
  cases r with
  | cons h t=>exact .cons (zjc h) (zeV t)
abbrev KT (H:Hp):List (List Key×V)->List (List Key×Addr×Value)->Prop:=Paired λp q=>p.1=q.1/\H q.2.1=some (.tup (p.1.map kV))/\yF p.2 q.2.2
def KT.val(r:KT H kvs xs)(k:List Key):zh2 (za6 kvs k) ((atKey xs k).map (·.2)):=by
 induction r with
 | nil=>exact True.intro
 | @cons p q ps B h t I=>
  obtain⟨h1,_,h2⟩:=h;by_cases e:p.1=k;have F:q.1=k:=h1.symm.trans e;have b:atKey (q::B) k=some q.2:=by simp[atKey,bI,F]
  rw[xg e,b];exact h2;have F:¬ q.1=k:=λz=>e (h1.trans z);have b:atKey (q::B) k=atKey B k:=by simp[atKey,bI,F]
  rw[xz e,b];exact I
def KT.repl(r:KT H kvs xs)(k:List Key)(F:yF y u) :
  KT H (kvs.map λkv=>if kv.1=k then (kv.1,y) else kv) (xs.map (putAt k u)):=by
 induction r with
 | nil=>exact .nil
 | @cons p q ps I h t B=>
  rw[aB,aB];show .cons ?_ B;obtain⟨h1,h2,J⟩:=h;unfold putAt;by_cases e:p.1=k
  all_goals right
def KT.put(r:KT H kvs xs)(k:List Key)(F:H b=some (.tup (k.map kV)))(B:yF y u) :
  KT H (zap kvs k y) (storedH xs k b u):=by
 have e:(kvs.any λkv=>decide (kv.1=k))=(atKey xs k).isSome:=by rw[zen,(r.val k).isSome_eq,Option.isSome_map]
 unfold zap storedH;rw[e];by_cases q:(atKey xs k).isSome=true;rw[if_pos q,if_pos q];exact r.repl k B;rw[if_neg q,if_neg q];exact Paired.snoc r ⟨rfl,F,B⟩
def KT.keeps(r:KT H kvs xs)(q:∀b ys,H b=some (.tup ys)->H' b=some (.tup ys)):KT H' kvs xs:=
 Paired.mapP r λ_ _ z=>⟨z.1,q _ _ z.2.1,z.2.2⟩
section
variable {P:Aa}{w:Ab}{H:Hp}{h:Heap}{a:Addr}
def zpC(q:HOk P w H h)(e:Rd H a u):yi P w H h a u:=e.ok q
def znR(q:HOk P w H h)(e:Rd H a (.dK kvs)):kvs.length<=sizeLine/\(a==sysModules)=false/\∃vs,KV kvs vs/\h.DictOf (zX P w) a vs:=
 show yi P w H h a (.dK kvs) from zpC q e
def znQ(q:HOk P w H h)(e:H a=some (.dK kvs)):kvs.length<=sizeLine/\(a==sysModules)=false/\∃vs,KV kvs vs/\h.DictOf (zX P w) a vs:=znR q (.inl e)
def zgW(q:HOk P w H h)(e:H a=some (.tup (ks.map kV))):(tupleKind (zX P w)).is h ks a:=by obtain⟨_,its,r,o,h1,h2,⟨n,B⟩,_⟩:=(show yi P w H h a (.tup (ks.map kV)) from q a _ e);exact⟨o,its.toArray,n,h1,h2,B,by simpa using zeV r⟩
def znS(F:HOk P w H h)(e:Rd H a (.dT kvs)):kvs.length<=sizeLine/\(a==sysModules)=false/\
  ∃xs,KT H kvs xs/\h.DictOfH (tupleKind (zX P w)) a xs:=by
 obtain⟨z,y,xs,r,o,es,I,h1,h2,J,L,O⟩:=(show yi P w H h a (.dT kvs) from zpC F e);show⟨z,y,xs,r,o,es,I,h1,h2,J,L,λx B=>?_,O⟩
 have all:∀ {l:List (List Key×V)} {m:List (List Key×Addr×Value)},KT H l m->∀x∈m,(tupleKind (zX P w)).is h x.1 x.2.1:=by
  intro l m q
  induction q with
  | nil=>intro x B;exact nomatch B
  | @cons p q ps Y Z t U=>
   intro x B;rcases aE.mp B with e | B;subst e;exact zgW F (by right);exact U x B
 exact all r x B
def zqM(q:HOk P w H h)(e:H a=some (.dT kvs)):kvs.length<=sizeLine/\(a==sysModules)=false/\
  ∃xs,KT H kvs xs/\h.DictOfH (tupleKind (zX P w)) a xs:=znS q (.inl e)
end
def zcE (H:Hp)(a:Addr)(y:V)(r:Option V):Prop:=
 (∃kvs k,Rd H a (.dK kvs)/\y=kV k/\r=za6 kvs k)\/∃kvs k b,Rd H a (.dT kvs)/\y = .ref b/\H b=some (.tup (k.map kV))/\r=za6 kvs k
def zcI (H:Hp)(a:Addr)(y v:V)(H':Hp):Prop:=
 (∃kvs k,H a=some (.dK kvs)/\y=kV k/\kvs.length<sizeLine/\H'=upd H a (.dK (zap kvs k v)))\/
 ∃kvs k b,H a=some (.dT kvs)/\y = .ref b/\H b=some (.tup (k.map kV))/\kvs.length<sizeLine/\H'=upd H a (.dT (zap kvs k v))
def zcE.k {H:Hp}{a:Addr}{kvs:List (Key×V)}{k:Key}(e:H a=some (.dK kvs)):zcE H a (kV k) (za6 kvs k):=.inl ⟨kvs,k,.inl e,rfl,rfl⟩
def zcE.t {H:Hp}{a b:Addr}{kvs:List (List Key×V)}{k:List Key}(e:H a=some (.dT kvs))(q:H b=some (.tup (k.map kV))):zcE H a (.ref b) (za6 kvs k):=.inr ⟨kvs,k,b,.inl e,rfl,q,rfl⟩
def zcI.k {H:Hp}{a:Addr}{kvs:List (Key×V)}{k:Key}{v:V}(e:H a=some (.dK kvs))(q:kvs.length<sizeLine):zcI H a (kV k) v (upd H a (.dK (zap kvs k v))):=.inl ⟨kvs,k,e,rfl,q,rfl⟩
def zcI.t {H:Hp}{a b:Addr}{kvs:List (List Key×V)}{k:List Key}{v:V}(e:H a=some (.dT kvs))(q:H b=some (.tup (k.map kV)))(B:kvs.length<sizeLine) :
  zcI H a (.ref b) v (upd H a (.dT (zap kvs k v))):=.inr ⟨kvs,k,b,e,rfl,q,B,rfl⟩
section
variable {X:Cx}{pins:AB}{σ:St}{H:Hp}{s:AZ}{a:Addr}{y v:V}{u r:Value}{o:Option V}{A:Ae}{E:AA}
def Inv.big (I:Inv X pins σ H s):sysModules<s.heap.objs.size:=by have h:mainGlobals<s.heap.objs.size:=(I.mod.glob.keeps I.bk).lt;exact Nat.lt_trans (by ext) h
def zeJ(U:A.units+1<cLine)(I:Inv X pins σ H s)(g:zcE H a y (some v))(O:yF y u)(h:∀w' s',Inv X pins σ H s'->yF v w'->Q w' s') :
  wpAny (model X.prog X.w) A (getItem (.ref a) u) Q E s:=by
 rcases g with ⟨kvs,k,e,ey,l⟩ | ⟨kvs,k,b,e,ey,eb,l⟩;subst ey;obtain⟨z,Y,vs,q,F⟩:=znR I.hok e;obtain⟨w',J,B⟩:=zh2.some_of (v:=v) (o:=valueAt vs k) (by rw[l];exact q.val k);exact wpAny_getItem_of (zjc O) F.mapOf J (h w' _ (I.tok _) B);subst ey;cases (show u=Value.ref b from O);obtain⟨z,Y,xs,q,F⟩:=znS I.hok e;obtain⟨w',J,B⟩:=zh2.some_of (v:=v) (o:=(atKey xs k).map (·.2)) (by rw[l];exact q.val k);obtain⟨p,Z,L⟩:=aA.mp J;show wpAny_getItem_heap (tupleKind_room_in1 U) (zgW I.hok eb) F Z ?_;rw[L];exact h w' _ (I.tok _) B
def zbZ(I:Inv X pins σ H s)(F:Mut (H a))(hs:Heap.SameBut a s.heap h')(J:∃q,h'.get? a=some q)(B:yi X.prog X.w (upd H a ob) h' a ob) :
  Inv X pins σ (upd H a ob) { s with heap:=h',toks:=t' }:=
 I.write (x:=a) (e:=a) F (.inl rfl) (λb q L z=>(hs.2 b L).trans z) J B
def zix(z:kvs.length<=sizeLine)(B:(a==sysModules)=false)(q:KV kvs vs)(F:h'.DictOf (zX P w) a vs) :
  yi P w H' h' a (.dK kvs):=⟨z,B,vs,q,F⟩
def zeK(hu:A.units+1<cLine)(I:Inv X pins σ H s)(g:zcI H a y v H')(Z:yF y u)(rv:yF v r)(h:∀s',Inv X pins σ H' s'->Q () s') :
  wpAny (model X.prog X.w) A (setItem (.ref a) u r) Q E s:=by
 rcases g with ⟨kvs,k,e,ey,l,eH⟩ | ⟨kvs,k,b,e,ey,eb,l,eH⟩;subst ey eH;obtain⟨z,L,vs,B,O⟩:=znQ I.hok e;have U:vs.length<=sizeLine:=by rw[<- B.length];exact z
 have Y:(zap kvs k v).length<=sizeLine:=by have:=xE kvs k v;lia
 show wpAny_setItem_pairs (hsz:=U) (zjc Z) O λh' F hs=>h _ ?_;have he:∃q,h'.get? a=some q:=let ⟨q,_,_,J,_⟩:=F;⟨q,J⟩;exact zbZ I (by rw[e];exact True.intro) hs he (zix Y L (B.put k rv) F);subst ey eH;cases (show u=Value.ref b from Z);obtain⟨z,L,xs,B,O⟩:=zqM I.hok e;have U:xs.length<=sizeLine:=by rw[<- ei B];exact z
 have Y:(zap kvs k v).length<=sizeLine:=by have:=xE kvs k v;lia
 show wpAny_setItem_heap (hsz:=U) (tupleKind_room_in1 hu) (zgW I.hok eb) O λh' F hs=>h _ ?_;obtain⟨q,es,ep,J,h2,h3,h4,_,h5⟩:=F;show zbZ I (by rw[e];exact True.intro) hs ⟨q,J⟩ ⟨Y,L,_,(B.put k eb rv).keeps λc ys ec=>?_,q,es,ep,J,h2,h3,h4,h5⟩;rw[zd (by grind)];exact ec
variable {kvs:List (Key×V)}{k:Key}
end
def zqj (i:Expr):Prop:=∀q B,subscripted i false q B=operate [q,B] (getItem q B)
def zpW {prog:Aa}{w:Ab}{A:Ae}{E:AA}{s:AZ}{env:Env}{value q:Expr}{pos:Pos}{T id:String}{Q:AA}
  (U:typeLookup (.type T) "__getitem__" = pure (some (.builtin id))) (hs:zqj q)
  (h:Ag prog w A (eval value env) (λo I=>Ag prog w A (eval q env) (λi B=>B.TypeIs o T/\Ag prog w A (getItem o i) Q E B) E I) E s) :
  Ag prog w A (eval (.Subscript value q pos) env) Q E s:=by
 show Subscript_ (aQ h (λo I h₁=>aQ h₁ (λi B F=>?_) λ_ _ x=>x) λ_ _ x=>x);obtain⟨O,F⟩:=F;unfold subscriptTail;show aa ?_;rw[getitemInPython_of_ne O.not_modules];show aa (er O U ?_);have fin:Ag prog w A (subscripted q false o i) (λr J=>Ag prog w A (letTemporaryGo value o r >>= λ_=>pure r) Q E J) E B:=by rw[hs o i];exact wpAny_operating (aQ F (λr J L=>aa (wpAny_letTemporaryGo (ae L))) λ_ _ x=>x)
 first
  | exact ae (aa fin)
  | exact aa (by grind)
  | exact aa fin
def zfM{X:Cx}{pins:AB}{σ:St}{H:Hp}{s:AZ}{a:Addr}{y:V}(I:Inv X pins σ H s)(g:zcE H a y o):s.TypeIs (.ref a) "dict" := by
 rcases g with ⟨kvs,k,e,_,_⟩ | ⟨kvs,k,b,e,_,_,_⟩;obtain⟨_,_,vs,_,q⟩:=znR I.hok e;exact q.typeIs;obtain⟨_,_,xs,_,q⟩:=znS I.hok e;exact q.typeIs
def zsK (td ty:TE):TE:=λσ H Q=>td σ H λx H1=>ty σ H1 λy H2=>∃a v,x = .ref a/\zcE H2 a y (some v)/\Q v H2
def zsE (td ty tv:TE):TS:=λD σ H=>tv σ H λv H1=>td σ H1 λx H2=>ty σ H2 λy H3=>∃a H4,x = .ref a/\zcI H3 a y v H4/\D.nx σ H4
def zvn (td ty tv:TE)(q:V->V->Hp->VK->Prop):TS:=λD σ H=>td σ H λx H1=>ty σ H1 λy H2=>∃a v,x = .ref a/\zcE H2 a y (some v)/\
 tv σ H2 λB H3=>q v B H3 λz H4=>∃H5,zcI H4 a y z H5/\D.nx σ H5
section
variable {X:Cx}{o i e value:Expr}{pos pos' tpos:Pos}{td ty tv:TE}
def zoR (B:X.A.units+1<cLine)(J:PE X o td)(hi:PE X i ty)(hs:zqj i):PE X (.Subscript o i pos) (zsK td ty):=by intro pins s σ H Q I h;show zpW PySem.F.slot_dict_getitem.lookup hs (thn (J pins s σ H _ I h) λu L ⟨x,H1,I1,O,U⟩=>thn (hi pins L σ H1 _ I1 U)  ?_);rintro iv s2 ⟨y,H2,I2,Y,a,v,ex,g,Z⟩;subst ex;obtain rfl:u=Value.ref a:=O;exact⟨zfM I2 g,zeJ B I2 g Y λw' s3 I3 q=>⟨v,H2,I3,q,Z⟩⟩
def zo7 (q:X.A.units+1<cLine)(B:PE X o td)(hi:PE X i ty)(F:PE X value tv)(hs:swapsWith value (some (.Subscript o i pos')) pos.line X.env=pure false) :
  PS X (.Assign [.Subscript o i pos'] value pos) (zsE td ty tv):=by
 intro pins s σ H D I h;show wpAny_Assign_Subscript (thn (F pins s σ H _ I h) λr J ⟨v,H1,I1,L,O⟩=>thn (B pins J σ H1 _ I1 O) λu U ⟨x,H2,I2,Y,Z⟩=>thn (hi pins U σ H2 _ I2 Z) λiv s3 ⟨y,H3,I3,ry,a,H4,ex,g,q3⟩=>?_) hs;subst ex;obtain rfl:u=Value.ref a:=Y;exact zeK q I3 g ry L λs4 I4=>⟨σ,H4,I4,q3⟩
def zo6(hu:X.A.units+1<cLine)(ho:PE X o td)(hi:PE X i ty)(hv:PE X value tv)(hop:zts X op rd)(ha:∀ov iv new,augStore i ov iv new=(do holding [new,ov,iv] (setItem ov iv new);release [new,ov,iv] [];pure .next)):PS X (.AugAssign (.Subscript o i tpos) op value pos) (zvn td ty tv rd):=by
 intro pins s σ H D I h;show wpAny_AugAssign_SubscriptAny (thn (ho pins s σ H _ I h) λu s1 ⟨x,H1,I1,rx,q1⟩=>thn (hi pins s1 σ H1 _ I1 q1) λiv s2 ⟨y,H2,I2,ry,a,v,ex,g,q2⟩=>?_) ha;subst ex;obtain rfl:u=Value.ref a:=rx;show zeJ hu I2 g ry λw' s3 I3 rw'=>thn (hv pins s3 σ H2 _ I3 q2) λw2 s4 ⟨y2,H3,I4,ry2,q3⟩=>thn (hop pins s4 σ H3 v y2 w' w2 _ I4 rw' ry2 q3)  ?_;rintro w3 s5 ⟨z,H4,I5,rz,H5,g5,q4⟩;exact zeK hu I5 g5 ry rz λs6 I6=>⟨σ,H5,I6,q4⟩
end
def zgH(h:Heap)(q:sysModules<h.objs.size):yi P w H (h.push { cls:=.type "dict",data:=.dict #[] }) h.objs.size (.dK []):=
 ⟨aK _,et.mpr (Ne.symm (aL q)),[],.nil,Heap.DictOf.new h⟩
def zgI(h:Heap)(q:sysModules<h.objs.size):yi P w H (h.push { cls:=.type "dict",data:=.dict #[] }) h.objs.size (.dT []):=
 ⟨aK _,et.mpr (Ne.symm (aL q)),[],.nil,_,#[],0,aq _ rfl,⟨rfl,rfl,rfl⟩,rfl,rfl,eV⟩
def zsL:TE:=λ_ H Q=>∀p,H p=none->Q (.ref p) (upd H p (.dT []))
section
variable {X:Cx}{pos:Pos}
def zlP:PE X (.Dict [] [] pos) zsL:=λpins s σ H Q I h=>
 wpAny_Dict_empty ⟨.ref s.heap.objs.size,_,I.laid (a:=s.heap.objs.size) (o:=.dT []) (t':=s.toks) (λ_ _ q=>af _ q) (ai _) (zgI s.heap I.big),rfl,h _ (I.hok.fresh (ai _))⟩
end
def zkm:List (TE×TE)->St->Hp->(List (V×V)->Hp->Prop)->Prop
 | [],_,H,Q=>Q [] H
 | (tk,tv)::r,σ,H,Q=>tk σ H λx H1=>tv σ H1 λy H2=>zkm r σ H2 λps H3=>Q ((x,y)::ps) H3
abbrev VV:List (V×V)->List (Value×Value)->Prop:=Paired λp q=>yF p.1 q.1/\yF p.2 q.2
def PPs (X:Cx)(pos:Pos)(B:List (Option Expr))(q:AO)(F:List (TE×TE)):Prop:=
 ∀ (pins:AB) (s:AZ) (σ:St) (H:Hp) (Q:List (V×V)->Hp->Prop),Inv X pins σ H s->zkm F σ H Q->
  Af X (evalPairs (pairTrees B q X.env pos)) (λvs s'=>∃ps H',Inv X pins σ H' s'/\VV ps vs/\Q ps H') X.xe s
def zo4:PPs X pos [] [] []:=λpins s σ H Q I h=>pairTrees_nil_walk ⟨[],H,I,.nil,h⟩
def zlW(F:PE X k tk)(J:PE X v tv)(L:PPs X pos ks vs q) :
  PPs X pos (some k::ks) (v::vs) ((tk,tv)::q):=λpins s σ H Q I h=>
 pairTrees_cons_walk (thn (F pins s σ H _ I h) λu O ⟨x,H1,I1,U,Y⟩=>thn (J pins O σ H1 _ I1 Y) λw2 Z ⟨y,H2,I2,ry,q2⟩=>
  thn (L pins Z σ H2 _ I2 q2) <| by rintro ws s3 ⟨ps,H3,I3,B,q3⟩;exact⟨(x,y)::ps,H3,I3,.cons ⟨U,ry⟩ B,q3⟩)
def zcf (kvs more:List (Key×V)):List (Key×V):=more.foldl (λacc kv=>zap acc kv.1 kv.2) kvs
def KV.merge:∀ {more:List (Key×V)} {B:List (Key×Value)} {kvs:List (Key×V)} {vs:List (Key×Value)},KV more B->KV kvs vs->KV (zcf kvs more) (merged vs B):=by
 intro more B kvs vs r;unfold KV at r
 induction r generalizing kvs vs with
 | nil=>intro q;exact q
 | @cons p q ps J h t F=>
  intro I
  have e:KV (zap kvs p.1 p.2) (stored vs q.1 q.2):=by
   have:=I.put p.1 h.2;right
  exact F e
def zaQ:∀ (more kvs:List (Key×V)),(zcf kvs more).length<=kvs.length+more.length
 | [],kvs=>by change kvs.length<=kvs.length+0;lia
 | p::r,kvs=>by
  have h1:=zaQ r (zap kvs p.1 p.2);have h2:=xE kvs p.1 p.2;change (zcf (zap kvs p.1 p.2) r).length<=_;grind
def zcY:∀ {kvs:List (Key×V)} {F:List (Value×Value)},VV (kvs.map λkv=>(kV kv.1,kv.2)) F->∃B,Carries (zX P w) F B/\KV kvs B
 | [],_,r=>by rw[dS] at r;cases r;exact⟨[],True.intro,.nil⟩
 | p::kvs,_,r=>by
  rw[aB] at r
  cases r with
  | @cons a b as J h t=>
   obtain⟨B,c,q⟩:=zcY (P:=P) (w:=w) t;obtain⟨L,I⟩:=b;exact⟨(p.1,I)::B,⟨zjc h.1,rfl,c⟩,.cons ⟨rfl,h.2⟩ q⟩
def zsM (q:List (TE×TE)):TE:=λσ H Q=>∀p,H p=none->zkm q σ (upd H p (.dK [])) λps H2=>H2 p=some (.dK [])/\∃kvs:List (Key×V),ps=kvs.map (λkv=>(kV kv.1,kv.2))/\kvs.length<=15/\Q (.ref p) (upd H2 p (.dK (zcf [] kvs)))
def zoS(h:PPs X pos B F J)(L:B.all (·.isSome)=true)(Z:B.length=F.length)(h0:B≠[])(U:B.length<=15):PE X (.Dict B F pos) (zsM J):=by
 intro pins s σ H Q I q;have hn:=I.hok.fresh (ai s.heap.objs.size);have I1:=I.laid (a:=s.heap.objs.size) (o:=.dK []) (h':=s.heap.push { cls:=.type "dict",data:=.dict #[] }) (t':=s.toks) (λ_ _ q=>af _ q) (ai _) (zgH s.heap I.big);show wpAny_Dict_walk (knd:=zX X.prog X.w) L Z h0 U (thn (h pins _ σ _ _ I1 (q _ hn))  ?_);rintro ws s2 ⟨ps,H2,I2,Y,e,kvs,ep,lk,q2⟩;subst ep;obtain⟨rs,c,rk⟩:=zcY (P:=X.prog) (w:=X.w) Y;obtain⟨z,hd,ad,r0,dd⟩:=znQ I2.hok e;cases r0;show⟨rs,c,dd,λh' O hs=>⟨.ref s.heap.objs.size,_,?_,rfl,q2⟩⟩;have hz:(zcf [] kvs).length<=sizeLine:=by have h1:=zaQ kvs [];rw[List.length_nil] at h1;rw[bN];lia
 have he:∃q,h'.get? s.heap.objs.size=some q:=let ⟨q,_,_,hq,_⟩:=O;⟨q,hq⟩;exact zbZ I2 (by rw[e];exact True.intro) hs he (zix hz hd (rk.merge .nil) O)
section
variable {X:Cx}{pins:AB}{σ:St}{H:Hp}{s:AZ}{a:Addr}{y d:V}{u r:Value}{o:Option V}{A:Ae}{E:AA}
variable {o e f:Expr}{apos cpos:Pos}{td ty tx:TE}
variable {kvs:List (Key×V)}
end
end L2
namespace HT
open PyProof.Rows
def lexLt:AG->AG->Bool
 | [],[]=>false
 | [],_::_=>true
 | _::_,[]=>false
 | x::xs,y::ys=>if x=y then lexLt xs ys else decide (x<y)
section
open PySem.SeqAt
open PySem.AutoSeq1 (wpAny_loadPart')
open PySem.MeetsSeq PySem.MeetsSeq2 PySem.MeetsSeq3
variable {prog:Aa}{w:Ab}{A:Ae}{E:AA}{s:AZ}
def cat_tup(ht:IsTup s.heap t vs.toArray)(hb:IsTup s.heap b q.toArray)(hv:vs≠[])(h1:q=[]->Q (.ref t) s)(h2:q≠[]->Q (.ref s.heap.objs.size) { s with heap:=s.heap.push { cls:=.type "tuple",data:=.seq (vs++q).toArray } })(hsz:vs.length+q.length<=sizeLine):Ag prog w A (binaryOp .Add (.ref t) (.ref b)) Q E s:=by
 obtain⟨⟨cls,dd,data,sl⟩,U,hc,n,hd⟩:=id ht;obtain⟨⟨ad,I,Z,J⟩,B,L,n2,O⟩:=id hb;simp only at hc hd L O;subst hc hd L O;have e:vs.toArray++q.toArray=(vs++q).toArray:=by simp
 by_cases Y:q=[]
 ·exact concat_meets ⟨_,U,rfl⟩ ⟨_,B,rfl⟩ noFill_tuple_add seq_tuple_add PySem.F.slot_tuple_add PySem.F.entry_tuple_add (PySem.F.args_tuple_add_2 _ _)
   (tuple_addW1 t b vs.toArray q.toArray n n2 dd I sl J (by simpa using hv) (by simp[Y])) ⟨U,B,h1 Y⟩
 ·show concat_meets ⟨_,U,rfl⟩ ⟨_,B,rfl⟩ noFill_tuple_add seq_tuple_add PySem.F.slot_tuple_add PySem.F.entry_tuple_add (PySem.F.args_tuple_add_2 _ _)
   (tuple_addW2 t b vs.toArray q.toArray n n2 dd I sl J (by simpa using hv) (by simpa using Y) (by right)) ⟨U,B,?_⟩
  rw[e];exact h2 Y
def sIx (n d:Nat):AQ->Nat
 | none=>d
 | some v=>if v<0 then (v+(n:Int)).toNat else min v.toNat n
def sIx_none (n d:Nat):sIx n d none=d:=rfl
def sIx_nat (n d k:Nat):sIx n d (some (k:Int))=min k n:=by change (if (k:Int)<0 then ((k:Int)+(n:Int)).toNat else min (k:Int).toNat n)=min k n;rw[if_neg (by lia),Int.toNat_natCast]
def zsF (n d:Nat)(B:d<=n)(o:AQ):sIx n d o<=n:=by
 cases o with
 | none=>exact B
 | some v=>
  change (if v<0 then (v+(n:Int)).toNat else min v.toNat n)<=n;by_cases q:v<0;rw[if_pos q];lia;rw[if_neg q];exact Nat.min_le_right _ _
def zid (v:Int)(n d:Nat):(if v<0 then max (v+(n:Int)) 0 else min v (n:Int))=((sIx n d (some v):Nat):Int):=by
 change (if v<0 then max (v+(n:Int)) 0 else min v (n:Int))=(((if v<0 then (v+(n:Int)).toNat else min v.toNat n):Nat):Int);grind
def zhn (lo hi:AQ)(n:Nat):Builtin.Slice.sliceAdjust lo hi 1 (n:Int)=(((sIx n 0 lo:Nat):Int),((sIx n n hi:Nat):Int)):=by
 have h1:¬ ((1:Int)<0):=by lia
 unfold Builtin.Slice.sliceAdjust;simp only[h1,if_false];show Prod.ext ?_ ?_
 cases lo with
 | none=>rfl
 | some v=>exact zid v n 0
 cases hi with
 | none=>rfl
 | some v=>exact zid v n n
def zhL (i j:Nat):Builtin.Slice.slicePlaces (i:Int) (j:Int) 1=j - i:=by
 unfold Builtin.Slice.slicePlaces;have h1:(1:Int) > 0:=by lia
 simp only[h1,if_true,Int.ediv_one];split <;> lia
def zdf{o:AQ}{Q:AQ->AZ->Prop}(p:IsPart v o)(h:Q o s):Ag prog w A (Builtin.Slice.slicePartIndex v) Q E s:=by
 cases p with
 | none=>exact slicePart_none h
 | int i t=>exact slicePart_int h
def uP{lo hi:AQ}{Q:Int×Int×Nat->AZ->Prop}(hs:s.heap.IsSliceOf J F I .none)(pl:IsPart F lo)(L:IsPart I hi)(h:Q (((sIx n 0 lo:Nat):Int),1,sIx n n hi - sIx n 0 lo) s):Ag prog w A (Builtin.Slice.sliceApplied (.ref J) (pure (n:Int))) Q E s:=by
 obtain⟨U,q,O,B⟩:=id hs;unfold Builtin.Slice.sliceApplied Builtin.Slice.sliceFields;show wpAny_bind (wpAny_bind (wpAny_field q B (x:=F) rfl (wpAny_bind (wpAny_field q B (x:=I) rfl (wpAny_bind (wpAny_field q B (x:=.none) rfl (wpAny_pure ?_)))))));show wpAny_bind (slicePart_none ?_);change wpAny _ _ (if ((1:Int)==0)=true then _ else _) _ _ s;rw[if_neg (by ext)];show wpAny_bind (zdf pl (wpAny_bind (zdf L (wpAny_bind (wpAny_pure ?_)))));change wpAny _ _ (match Builtin.Slice.sliceAdjust lo hi 1 (n:Int) with | (lo,hi)=>pure (lo,(1:Int),Builtin.Slice.slicePlaces lo hi 1)) _ _ s;rw[zhn lo hi n];change wpAny _ _ (pure (((sIx n 0 lo:Nat):Int),(1:Int),Builtin.Slice.slicePlaces ((sIx n 0 lo:Nat):Int) ((sIx n n hi:Nat):Int) 1)) _ _ s;rw[zhL];exact wpAny_pure h
def zlV (xs:AK)(i k:Nat):((List.range k).filterMap λ(m:Nat)=>xs[((i:Int)+(m:Int) * 1).toNat]?).toArray=((xs.toList.drop i).take k).toArray:=by
 have e:(λ(m:Nat)=>xs[((i:Int)+(m:Int) * 1).toNat]?)=λm=>xs[i+m]?:=by
  funext m;have:((i:Int)+(m:Int) * 1).toNat=i+m:=by lia
  rw[this]
 rw[e];have:=pick_run xs i k;rw[List.filterMap_map] at this;have q:((λx=>xs[x]?) ∘ λx=>i+x)=λm=>xs[i+m]?:=rfl;right
def getItem_tuple_cut{lo hi:AQ}(B:IsTup s.heap t items)(hs:s.heap.IsSliceOf F U Y .none)(pl:IsPart U lo)(Z:IsPart Y hi)(hw:¬ (sIx items.size 0 lo=0/\sIx items.size items.size hi=items.size))(h:Q (.ref s.heap.objs.size) { s with heap:=s.heap.push { cls:=.type "tuple",data:=.seq ((items.toList.drop (sIx items.size 0 lo)).take (sIx items.size items.size hi - sIx items.size 0 lo)).toArray } })(hsz:items.size<=sizeLine):Ag prog w A (getItem (.ref t) (.ref F)) Q E s:=by
 have q:sizeOk (.seq ((items.toList.drop (sIx items.size 0 lo)).take (sIx items.size items.size hi - sIx items.size 0 lo)).toArray):=by change ((items.toList.drop (sIx items.size 0 lo)).take (sIx items.size items.size hi - sIx items.size 0 lo)).toArray.size<=sizeLine;rw[List.size_toArray,List.length_take,List.length_drop,Array.length_toList];lia
 have hj:sIx items.size items.size hi<=items.size:=zsF _ _ (Nat.le_refl _) hi;obtain⟨os,I,J,ad⟩:=id hs;have L:s.TypeIs (.ref F) "slice" := ⟨os,I,J⟩;unfold getItem;try with_reducible show wpAny_holding ?_
 first | show wpAny_bind (wpAny_pure ?_) | skip
 show wpAny_bind (wpAny_sequenceKey B.typeIs (by ext) ?_)
 show wpAny_bind (wpAny_callSpecial?_slot (name:=Str.ofString "__getitem__") B.typeIs PyProof.Rows.slot_tuple_getitem
  (wpAny_call_entry PyProof.Rows.slot_tuple_getitem B.typeIs entry_tuple_getitem ?_ (args_tuple_getitem _ _)))
 change wpAny _ _ (Builtin.Tuple.tupleItemsOf (.ref t) >>= _) _ _ s;show wpAny_bind (tupleItemsOf_ B ?_);show wpAny_bind (wpAny_typeOf L ?_);rw[if_pos (by ext)];show wpAny_bind (uP hs pl Z ?_);have O:¬ ((((sIx items.size 0 lo:Nat):Int)==0&&(1:Int)==1&&(sIx items.size items.size hi - sIx items.size 0 lo)==items.size)=true):=by grind
 change wpAny _ _ (if (((sIx items.size 0 lo:Nat):Int)==0&&(1:Int)==1&&(sIx items.size items.size hi - sIx items.size 0 lo)==items.size)=true then _ else _) _ _ s;rw[if_neg O,zlV]
 first
  | exact wpAny_bind (m:=Builtin.Tuple.tupleExact _) (wpAny_newObj_type (wpAny_pure ⟨_,rfl,wpAny_pure h⟩) q)
  | exact wpAny_bind (by grind) (by grind)
  | exact wpAny_bind (by grind)
  | exact wpAny_bind (by grind)
end
end HT
namespace L2
open PyProof.Rows
abbrev TO:=St->Hp->(AQ->Hp->Prop)->Prop
def PO (X:Cx)(e:Option Expr)(t:TO):Prop:=
 ∀ (pins:AB) (s:AZ) (σ:St) (H:Hp) (Q:AQ->Hp->Prop),Inv X pins σ H s->t σ H Q->
  Af X (evalPart e X.env) (λu s'=>∃o H',Inv X pins σ H' s'/\IsPart u o/\Q o H') X.xe s
def zkl:TO:=λ_ H Q=>Q none H
def zsQ (t:TE):TO:=λσ H Q=>t σ H λx H1=>∃i,x = .int i/\Q (some i) H1
section
variable {X:Cx}{e:Expr}{te:TE}{lo hi:Option Expr}{tl th:TO}{pos p2:Pos}
def zo2:PO X none zkl:=by intro pins s σ H Q I h;rw[evalPart_none];exact ae ⟨none,H,I,.none,h⟩
def zo3 (h:PE X e te):PO X (some e) (zsQ te):=by intro pins s σ H Q I B;rw[evalPart_some];show thn (h pins s σ H _ I B)  ?_;rintro u L ⟨x,H1,I1,F,J⟩;obtain⟨i,rfl,q⟩:=J;obtain⟨t,rfl⟩:=F;exact⟨some i,H1,I1,.int i t,q⟩
def SlR (X:Cx)(r:V->AQ->AQ->Hp->VK->Prop):Prop:=
 ∀ (pins:AB) (s:AZ) (σ:St) (H:Hp) (x:V) (v q B:Value) (lo hi:AQ) (F:Addr) (Q:VK),Inv X pins σ H s->yF x v->s.heap.IsSliceOf F q B .none->IsPart q lo->IsPart B hi->r x lo hi H Q->
  ∃T id,typeLookup (.type T) "__getitem__" = pure (some (.builtin id))/\s.TypeIs v T/\Af X (getItem v (.ref F)) (EP X pins σ Q) X.xe s
def tSl (r:V->AQ->AQ->Hp->VK->Prop)(te:TE)(tl th:TO):TE:=λσ H Q=>te σ H λx H1=>tl σ H1 λl H2=>th σ H2 λu H3=>r x l u H3 Q
def zlR {r:V->AQ->AQ->Hp->VK->Prop}(L:SlR X r)(O:PE X e te)(U:PO X lo tl)(Y:PO X hi th):PE X (.Subscript e (.Slice lo hi none p2) pos) (tSl r te tl th):=by intro pins s σ H Q I h;show Subscript_ (thn (O pins s σ H _ I h)  ?_);rintro v Z ⟨x,H1,I1,r1,q1⟩;show wpAny_Slice (thn (U pins Z σ H1 _ I1 q1) λF s2 ⟨l,H2,I2,pl,q2⟩=>thn (Y pins s2 σ H2 _ I2 q2)  ?_);rintro J B ⟨u,H3,I3,pu,q3⟩;rw[evalPart_none];show ae ?_;have I4:Inv X pins σ H3 { B with heap:=B.heap.push { cls:=.type "slice",data:=.fields #[F,J,.none] } }:=I3.kept (t':=B.toks) λb ob q=>af _ q;obtain⟨T,id,hT,ht,hg⟩:=L pins { B with heap:=B.heap.push { cls:=.type "slice",data:=.fields #[F,J,.none] } } σ H3 x v F J l u B.heap.objs.size Q I4 r1 (Heap.IsSliceOf.new ..) pl pu q3;change Af X (subscriptTail e (.Slice lo hi none p2) v (.ref B.heap.objs.size)) (EP X pins σ Q) X.xe { B with heap:=B.heap.push { cls:=.type "slice",data:=.fields #[F,J,.none] } };exact tail_any (ops:=[.ref B.heap.objs.size,v]) ht hT hg (by with_unfolding_all rfl)
def zcK (xs:AT)(lo hi:AQ):AT:=(xs.drop (HT.sIx xs.length 0 lo)).take (HT.sIx xs.length xs.length hi - HT.sIx xs.length 0 lo)
def zbW (xs:AT)(lo hi:AQ):(zcK xs lo hi).length<=xs.length:=by unfold zcK;rw[aN,cw];lia
def rSlT (K:AH):V->AQ->AQ->Hp->VK->Prop:=λx lo hi H Q=>∃a xs,x = .ref a/\SqT K H a xs/\
 ¬ (HT.sIx xs.length 0 lo=0/\HT.sIx xs.length xs.length hi=xs.length)/\∀p,H p=none->Q (.ref p) (upd H p (.tup (zcK xs lo hi)))
def zsH:SlR X (rSlT X.K):=by
 intro pins s σ H x v Z vu lo hi sl Q I L hs pl O h;obtain⟨a,xs,rfl,U,Y,q⟩:=h;cases L;obtain⟨its,r,F,J⟩:=I.tuple U;have B:its.toArray.size=xs.length:=by rw[aV];exact r.length.symm
 show⟨"tuple",_,PyProof.Rows.slot_tuple_getitem.lookup,F.typeIs,?_⟩;show HT.getItem_tuple_cut F hs pl O (by rw[B];exact Y) ?_ (by rw[B];exact J);rw[B];show⟨.ref s.heap.objs.size,_,I.laid (t':=s.toks) (o:=.tup (zcK xs lo hi)) (λb ob q=>af _ q) (ai _) ?_,rfl,q _ (I.hok.fresh (ai _))⟩;exact⟨aw (zbW xs lo hi) J,_,(r.drop (HT.sIx xs.length 0 lo)).take (HT.sIx xs.length xs.length hi - HT.sIx xs.length 0 lo),zaq.new _ _⟩
def zve (K:AH):R2:=λx y H Q=>∃a b xs ys,x = .ref a/\y = .ref b/\SqT K H a xs/\SqT K H b ys/\xs≠[]/\xs.length+ys.length<=sizeLine/\
 (ys=[]->Q (.ref a) H)/\(ys≠[]->∀p,H p=none->Q (.ref p) (upd H p (.tup (xs++ys))))
def z0.nil_iff(r:z0 xs q):q=[]↔xs=[]:=by
 cases r with
 | nil=>simp
 | cons _ _=>simp
def zoL:OpR X (binaryOp .Add) (zve X.K):=by intro pins s σ H x y v u Q I L O h;obtain⟨a,b,xs,ys,rfl,rfl,U,Y,Z,hz,q1,q2⟩:=h;cases L;cases O;obtain⟨its,F,p1,_⟩:=I.tuple U;obtain⟨J,B,p2,_⟩:=I.tuple Y;show HT.cat_tup p1 p2 (λz=>Z (F.nil_iff.mp z)) (λz=>⟨.ref a,H,I,rfl,q1 (B.nil_iff.mp z)⟩) (λz=>?_) (by rw[<- F.length,<- B.length];exact hz);show⟨.ref s.heap.objs.size,_,I.laid (t':=s.toks) (o:=.tup (xs++ys)) (λb ob q=>af _ q) (ai _) ?_,rfl,q2 (λw=>z (B.nil_iff.mpr w)) _ (I.hok.fresh (ai _))⟩;exact⟨by right,_,F.append B,zaq.new _ _⟩
end
def ixN (n:Nat)(i:Int):Option Nat:=if 0<=i then (if i<n then some i.toNat else none) else if -(n:Int)<=i then some (i+n).toNat else none
def atI {α:Type}(xs:List α)(i:Int):Option α:=(ixN xs.length i).bind λj=>xs[j]?
def zf0 {n:Nat}{i:Int}{j:Nat}(h:ixN n i=some j):seqIndex? i n=some j/\j<n/\-(n:Int)<=i/\i<n:=by
 unfold ixN at h;by_cases q:0<=i;rw[if_pos q] at h;by_cases h1:i<n;rw[if_pos h1] at h;have e:i.toNat=j:=bv h;exact⟨by rw[seqIndex_of q h1,e],by lia,by lia,h1⟩;right;rw[if_neg q] at h;by_cases h1:-(n:Int)<=i;rw[if_pos h1] at h;have e:(i+n).toNat=j:=bv h;exact⟨by rw[seqIndex_neg (by lia) h1,e],by lia,h1,by lia⟩;right
def zh7 {α:Type}{xs:List α}{i:Int}{v:α}(h:atI xs i=some v):∃j,seqIndex? i xs.length=some j/\xs[j]?=some v/\j<xs.length/\-(xs.length:Int)<=i/\i<xs.length:=by
 unfold atI at h
 cases e:ixN xs.length i with
 | none=>rw[e] at h;cases h
 | some j=>
  rw[e] at h;obtain⟨h1,h2,q,B⟩:=zf0 e;exact⟨j,h1,h,h2,q,B⟩
def znC {α:Type}{xs:List α}{j:Nat}{v:α}(h:xs[j]?=some v):atI xs (j:Int)=some v:=by
 have q:j<xs.length:=(ac.mp h).1
 have e:ixN xs.length (j:Int)=some j:=by
  unfold ixN;right
 unfold atI;rw[e];exact h
def zfD (b:Expr):Prop:=∀o i,subscripted b false o i=operate [o,i] (getItem o i)
def IxR (X:Cx)(r:R2):Prop:=
 ∀ (value q:Expr) (pins:AB) (s:AZ) (σ:St) (H:Hp) (x y:V) (v u:Value) (Q:VK),Inv X pins σ H s->yF x v->yF y u->r x y H Q->
  subscripted q false v u=operate [v,u] (getItem v u)->Af X (subscriptTail value q v u) (EP X pins σ Q) X.xe s
def MtR (X:Cx)(id:String)(r:V->AT->Hp->VK->Prop):Prop:=
 ∀ (pins:AB) (s:AZ) (σ:St) (H:Hp) (x:V) (xs:AT) (v:Value) (q:AN) (Q:VK),Inv X pins σ H s->yF x v->z0 xs q->r x xs H Q->
  Af X (call (.builtin id) (v::q)) (EP X pins σ Q) X.xe s
section
variable {X:Cx}{a b:Expr}{ta tb:TE}{pos:Pos}
def zu5(B:IxR X r)(F:PE X a ta)(J:PE X b tb)(hs:zfD b):PE X (.Subscript a b pos) (tOp r ta tb):=by intro pins s σ H Q I h;exact Subscript_ (ztY F J I h λv u L x y H2 I2 O U q=>B a b pins L σ H2 x y v u Q I2 O U q (hs _ _))
def ztI (K:AH):R2:=λx y H Q=>∃p xs i v,x = .ref p/\y = .int i/\SqL K H p xs/\atI xs i=some v/\Q v H
def zsm (K:AH):R2:=λx y H Q=>∃p xs i v,x = .ref p/\y = .int i/\SqT K H p xs/\atI xs i=some v/\Q v H
def zoh:IxR X (ztI X.K):=by
 intro value B pins s σ H x y v u Q I U Y h hs;obtain⟨p,xs,i,z,rfl,rfl,Z,he,q⟩:=h;cases U;obtain⟨t,rfl⟩:=Y;obtain⟨its,r,pl,hz⟩:=I.list Z;obtain⟨j,h1,h2,h3,h4,h5⟩:=zh7 he;obtain⟨w,L,F⟩:=r.get h2;have hl:=r.length;have hn:=ze3;have fin:EP X pins σ Q w s:=⟨z,H,I,F,q⟩;by_cases O:0<=i
 have J:i.toNat=j:=by
  rw[seqIndex_of O h5] at h1;right
 exact item_listR pl.isList O (by lia) (by rw[J];simpa using L) fin hs
 have J:(i+(its.toArray.size:Int)).toNat=j:=by
  rw[seqIndex_neg (by lia) h4] at h1;right
 exact subscriptTail_builtinR (x:=w) pl.isList.typeIs slot_list_getitem.lookup
  (wpAny_getItem_list_neg (Q:=λr s'=>r=w/\EP X pins σ Q r s') pl.isList (by lia) (by right) (by lia) (by rw[J];simpa using L) ⟨rfl,fin⟩) hs
def zq4:IxR X (zsm X.K):=by
 intro value B pins s σ H x y v u Q I J L h hs;obtain⟨p,xs,i,z,rfl,rfl,O,U,q⟩:=h;cases J;obtain⟨t,rfl⟩:=L;obtain⟨its,r,pl,Z⟩:=I.tuple O;obtain⟨j,h1,h2,h3,h4,h5⟩:=zh7 U;obtain⟨w,Y,F⟩:=r.get h2;have hl:=r.length;have hn:=ze3;have fin:EP X pins σ Q w s:=⟨z,H,I,F,q⟩
 exact subscriptTail_builtinR (x:=w) pl.typeIs slot_tuple_getitem.lookup
  (getItem_tuple (j:=j) (Q:=λr s'=>r=w/\EP X pins σ Q r s') pl (by lia) (by lia) (by right) (by simpa using Y) ⟨rfl,fin⟩) hs
def zhE (its:AN)(n j:Nat)(u:Value):Obj.mapSeq (·.setIfInBounds j u) { cls:=.type "list",data:=.seq its.toArray n }={ cls:=.type "list",data:=.seq (its.set j u).toArray n }:=by simp[Obj.mapSeq]
def Inv.lst {pins:AB}{σ:St}{H:Hp}{s:AZ}{p:Addr}{xs:AT}(I:Inv X pins σ H s)(h:H p=some (.lst xs)) :
  ∃ (its:AN) (n:Nat),z0 xs its/\s.heap.get? p=some { cls:=.type "list",data:=.seq its.toArray n }/\xs.length<=sizeLine:=by
 obtain⟨z,its,n,r,e⟩:=I.hok p _ h;exact⟨its,n,r,e,z⟩
def Inv.lstUpd{pins:AB}{σ:St}{H:Hp}{s:AZ}{p:Addr}{xs ys:AT}{its its':AN}{f:Obj->Obj}(I:Inv X pins σ H s)(h:H p=some (.lst xs))(J:s.heap.get? p=some { cls:=.type "list",data:=.seq its.toArray n })(F:f { cls:=.type "list",data:=.seq its.toArray n }={ cls:=.type "list",data:=.seq its'.toArray B })(r:z0 ys its')(L:ys.length<=sizeLine)(t:Nat) :
  Inv X pins σ (upd H p (.lst ys)) { s with heap:=s.heap.update p f,toks:=t }:=by
 have e:(s.heap.update p f).get? p=some { cls:=.type "list",data:=.seq its'.toArray B }:=by rw[bj f J (by rw[F] <;> rfl),F]
 show I.write (x:=p) (e:=p) (by rw[h];trivial) (.inl rfl) (λb u O q=>(bC _ _ (Ne.symm O)).trans q) ⟨_,e⟩ ?_;exact⟨L,its',B,r,e⟩
def zvg:V->V->V->Hp->(Hp->Prop)->Prop:=λo i v H Q=>∃p xs k j,o = .ref p/\i = .int k/\H p=some (.lst xs)/\ixN xs.length k=some j/\Q (upd H p (.lst (xs.set j v)))
def zmi:PSet X zvg:=by
 intro pins s σ H o i v ov iv u Q I O U Y h;obtain⟨p,xs,k,j,rfl,rfl,J,Z,q⟩:=h;cases O;obtain⟨t,rfl⟩:=U;obtain⟨its,n,r,B,hz⟩:=I.lst J;obtain⟨h1,h2,h3,h4⟩:=zf0 Z;have hl:=r.length;have hn:=ze3
 have I':Inv X pins σ (upd H p (.lst (xs.set j v))) { s with heap:=s.heap.update p (Obj.mapSeq (·.setIfInBounds j u)) }:=
  I.lstUpd J B (zhE its n j u) (r.set Y j) (by right) s.toks
 by_cases L:0<=k
 have F:k.toNat=j:=by
  rw[seqIndex_of L h4] at h1;right
 exact PySem.W.ki_setAt B L (by lia) (by right) (by rw[F];exact⟨_,I',q⟩)
 have F:(k+(its.toArray.size:Int)).toNat=j:=by
  rw[seqIndex_neg (by lia) h3] at h1;right
 exact PySem.W.ki_setBack B (by lia) (by right) (by lia) (by rw[F];exact⟨_,I',q⟩)
def zfs (lo hi:AQ)(n:Nat):(sliceBounds lo hi none n).1=((HT.sIx n 0 lo:Nat):Int)/\(sliceBounds lo hi none n).2.1=((HT.sIx n n hi:Nat):Int)/\(sliceBounds lo hi none n).2.2=1:=by
 show⟨?_,?_,rfl⟩
 ·cases lo with
  | none=>simp[sliceBounds,HT.sIx]
  | some i=>
   simp only[sliceBounds,HT.sIx,Option.getD_none,show (1:Int) > 0 by ext,if_true];by_cases h:i<0
   ·simp only[h,if_true] <;> lia
   ·simp only[h,if_false] <;> lia
 ·cases hi with
  | none=>simp[sliceBounds,HT.sIx]
  | some i=>
   simp only[sliceBounds,HT.sIx,Option.getD_none,show (1:Int) > 0 by ext,if_true];by_cases h:i<0
   ·simp only[h,if_true] <;> lia
   ·simp only[h,if_false] <;> lia
def zee (its:AN)(lo hi:AQ):slicePick its.toArray lo hi none=((its.drop (HT.sIx its.length 0 lo)).take (HT.sIx its.length its.length hi - HT.sIx its.length 0 lo)).toArray:=by obtain⟨h1,h2,q⟩:=zfs lo hi its.toArray.size;unfold slicePick;rw[h1,h2,q];simp only[sliceRange_one,pick_run,aV] <;> rfl
def rSlL (K:AH):V->AQ->AQ->Hp->VK->Prop:=λx lo hi H Q=>∃a xs,x = .ref a/\SqL K H a xs/\∀p,H p=none->Q (.ref p) (upd H p (.lst (zcK xs lo hi)))
def zpP:SlR X (rSlL X.K):=by intro pins s σ H x v Y Z lo hi sl Q I J hs pl L h;obtain⟨a,xs,rfl,O,q⟩:=h;cases J;obtain⟨its,r,F,U⟩:=I.list O;have B:=r.length;show⟨"list",_,slot_list_getitem.lookup,F.isList.typeIs,?_⟩;show wpAny_getItem_list_slice F.isList hs pl L .none (by simp) ?_ (by grind);rw[zee,<- B];show⟨.ref s.heap.objs.size,_,I.laid (t':=s.toks) (o:=.lst (zcK xs lo hi)) (λb ob q=>af _ q) (ai _) ?_,rfl,q _ (I.hok.fresh (ai _))⟩;exact⟨aw (zbW xs lo hi) U,_,0,(r.drop (HT.sIx xs.length 0 lo)).take (HT.sIx xs.length xs.length hi - HT.sIx xs.length 0 lo),aq _ rfl⟩
def zdG:V->Bool
 | .non=>true
 | .bl _=>true
 | .int _=>true
 | .str _=>true
 | _=>false
def eqV:V->V->Bool
 | .non,.non=>true
 | .bl a,.bl b=>a==b
 | .bl a,.int b=>(if a then 1 else 0)==b
 | .int a,.bl b=>a==(if b then 1 else 0)
 | .int a,.int b=>a==b
 | .str a,.str b=>a==b
 | _,_=>false
def zqO(B:yF y u)(q:yF x v)(I:zdG y=true)(F:zdG x=true):SeqAt.EqAt A s u v (eqV y x):=by
 cases y with
 | non=>
  cases B
  cases x with
  | non=>cases q;exact SeqAt.EqAt.same _
  | bl b=>cases q;exact SeqAt.EqAt.none_bool b
  | int b=>obtain⟨t,rfl⟩:=q;exact SeqAt.EqAt.none_int b t
  | str b=>obtain⟨t,rfl⟩:=q;exact SeqAt.EqAt.none_str b t
  | _=>exact absurd (show false=true from F) aI
 | bl a=>
  cases B
  cases x with
  | non=>cases q;exact SeqAt.EqAt.bool_none a
  | bl b=>cases q;exact SeqAt.EqAt.bool_bool a b
  | int b=>obtain⟨t,rfl⟩:=q;exact SeqAt.EqAt.bool_int a b t
  | str b=>obtain⟨t,rfl⟩:=q;exact SeqAt.EqAt.bool_str a b t
  | _=>exact absurd (show false=true from F) aI
 | int a=>
  obtain⟨t',rfl⟩:=B
  cases x with
  | non=>cases q;exact SeqAt.EqAt.int_none a t'
  | bl b=>cases q;exact SeqAt.EqAt.int_bool a t' b
  | int b=>obtain⟨t,rfl⟩:=q;exact SeqAt.EqAt.int_int a t' b t
  | str b=>obtain⟨t,rfl⟩:=q;exact SeqAt.EqAt.int_str a t' b t
  | _=>exact absurd (show false=true from F) aI
 | str a=>
  obtain⟨t',rfl⟩:=B
  cases x with
  | non=>cases q;exact SeqAt.EqAt.str_none a t'
  | bl b=>cases q;exact SeqAt.EqAt.str_bool a t' b
  | int b=>obtain⟨t,rfl⟩:=q;exact SeqAt.EqAt.str_int a t' b t
  | str b=>obtain⟨t,rfl⟩:=q;exact SeqAt.EqAt.str_str a t' b t
  | _=>exact absurd (show false=true from F) aI
 | _=>exact absurd (show false=true from I) aI
def eqU (x:V)(u:Value):Bool:=match u with
 | .none=>eqV .non x
 | .bool b=>eqV (.bl b) x
 | .int i _=>eqV (.int i) x
 | .str z _=>eqV (.str z) x
 | _=>false
def zmN(r:yF y u)(f:zdG y=true):eqU x u=eqV y x:=by
 cases y with
 | non=>cases r;rfl
 | bl b=>cases r;rfl
 | int i=>obtain⟨t,rfl⟩:=r;rfl
 | str z=>obtain⟨t,rfl⟩:=r;rfl
 | _=>exact absurd (show false=true from f) aI
def zfE:∀ {xs:AT} {q:AN},z0 xs q->xs.all zdG=true->q.any (eqU x)=xs.any λy=>eqV y x
 | _,_,.nil,_=>rfl
 | y::xs,u::q,.cons r t,f=>by rw[cP,bw] at f;rw[cO,cO,zmN r f.1,zfE t f.2]
def zdS {A:Ae}{s:AZ}{x:V}{v:Value}(F:yF x v)(I:zdG x=true):∀ {xs:AT} {q:AN},z0 xs q->xs.all zdG=true->∀u∈q,SeqAt.EqAt A s u v (eqU x u)
 | _,_,.nil,_=>by grind
 | y::xs,u::q,.cons r t,f=>λJ B=>by
  rw[cP,bw] at f;rcases aE.mp B with rfl | B;rw[zmN r f.1];exact zqO r F f.1 I;exact zdS F I t f.2 J B
def inV (x:V)(xs:AT):Bool:=xs.any λy=>eqV y x
def rIn (K:AH)(q:Bool):R2:=λx y H Q=>∃p xs,y = .ref p/\(SqL K H p xs\/SqT K H p xs)/\zdG x=true/\xs.all zdG=true/\Q (.bl (if q then !inV x xs else inV x xs)) H
def zfe:OpR X (compareOp .NotIn) (rIn X.K true):=by
 intro pins s σ H x y v u Q I J O h;obtain⟨p,xs,rfl,B,L,fs,q⟩:=h;cases O;rcases B with B | B;obtain⟨its,r,pl,U⟩:=I.list B;show SeqAt.notIn_listAt (eqU x) pl.isList (λw F=>zdS J L r fs w (by simpa using F)) ⟨.bl _,H,I,rfl,?_⟩;rw[show its.toArray.any (eqU x)=its.any (eqU x) by simp,zfE r fs];exact q;obtain⟨its,r,pl,U⟩:=I.tuple B;show SeqAt.notIn_tupleAt (eqU x) pl (λw F=>zdS J L r fs w (by simpa using F)) ⟨.bl _,H,I,rfl,?_⟩;rw[show its.toArray.any (eqU x)=its.any (eqU x) by simp,zfE r fs];exact q
def zeF:zcH X (.type "list") (λxs H Q=>∃p ys,xs=[.ref p]/\(SqL X.K H p ys\/SqT X.K H p ys)/\∀l,H l=none->Q (.ref l) (upd H l (.lst ys))):=by
 intro pins s σ H xs us Q I r h;obtain⟨p,ys,rfl,J,q⟩:=h;obtain⟨u,rfl,rx⟩:=zaD r;cases rx
 have fin:∀ (its:AN),z0 ys its->ys.length<=sizeLine->∀ (h':Heap) (B:Nat),(∀b o',s.heap.get? b=some o'->h'.get? b=some o')->
   h'.get? s.heap.objs.size=some { cls:=.type "list",dict:=none,data:=.seq its.toArray B,slots:=#[] }->EP X pins σ Q (.ref s.heap.objs.size) { s with heap:=h' }:=λits F L h' B O e=>
  ⟨.ref s.heap.objs.size,_,I.laid (t':=s.toks) O (ai _) (show yi X.prog X.w _ h' _ (.lst ys) from ⟨L,its,B,F,e⟩),rfl,q _ (I.hok.fresh (ai _))⟩
 rcases J with J | J;obtain⟨its,F,pl,L⟩:=I.list J;have U:=F.length;obtain⟨o,Y,Z,n,hd⟩:=pl.isList;exact call_list_seq p (.inl rfl) Y Z hd (λh' B O e=>fin its F L h' B O e) (by grind);obtain⟨its,F,pl,L⟩:=I.tuple J;have U:=F.length;obtain⟨o,Y,Z,n,hd⟩:=pl;exact call_list_seq p (.inr rfl) Y Z hd (λh' B O e=>fin its F L h' B O e) (by grind)
def zds:zcH X (.type "tuple") (λxs H Q=>∃p ys,xs=[.ref p]/\((SqL X.K H p ys/\∀l,H l=none->Q (.ref l) (upd H l (.tup ys)))\/(SqT X.K H p ys/\Q (.ref p) H))):=by
 intro pins s σ H xs U Q I r h;obtain⟨p,ys,rfl,h⟩:=h;obtain⟨u,rfl,L⟩:=zaD r;cases L;rcases h with ⟨hq,q⟩ | ⟨hq,q⟩;obtain⟨its,B,pl,F⟩:=I.list hq;have J:=B.length;show call_tuple_list pl.isList (λh' O=>?_) (by grind);have I1:Inv X pins σ H { s with heap:=h' }:=I.kept (t':=s.toks) O
 have I2:Inv X pins σ (upd H h'.objs.size (.tup ys)) { s with heap:=h'.push { cls:=.type "tuple",data:=.seq its.toArray } }:=
  I1.laid (t':=s.toks) (λb o e=>af _ e) (ai _) (show yi X.prog X.w _ _ _ (.tup ys) from ⟨F,its,B,zaq.new _ _⟩)
 exact⟨.ref h'.objs.size,_,I2,rfl,q _ (I1.hok.fresh (ai _))⟩;obtain⟨its,B,pl,F⟩:=I.tuple hq;exact call_tuple_same pl ⟨.ref p,H,I,rfl,q⟩
def tyV (K:AH)(T:String)(x:V)(H:Hp):Prop:=match x with
 | .str _=>T = "str"
 | .int _=>T = "int"
 | .ref p=>(T = "list" /\ ∃xs,SqL K H p xs)\/(T = "tuple" /\ ∃o,K.lookup p=some o/\o.cls = .type "tuple" /\ o.dict=none)\/
   (T = "dict" /\ ((∃kvs,H p=some (.dK kvs))\/∃kvs,H p=some (.dT kvs)))\/(T = "set" /\ ∃S n,H p=some (.set S n))
 | _=>False
def znr {pins:AB}{σ:St}{H:Hp}{s:AZ}{T:String}{x:V}{v:Value}(I:Inv X pins σ H s)(r:yF x v)(ty:tyV X.K T x H) :
  s.TypeIs v T/\∀a,v = .ref a->∃ob,s.heap.get? a=some ob/\ob.dict=none:=by
 cases x with
 | str z=>
  obtain⟨t,rfl⟩:=r;cases (show T = "str" from ty);exact⟨typeIs_str s z t,λ_ e=>nomatch e⟩
 | int i=>
  obtain⟨t,rfl⟩:=r;cases (show T = "int" from ty);exact⟨fJ s i t,λ_ e=>nomatch e⟩
 | ref p=>
  cases r;rcases ty with ⟨rfl,xs,hq⟩ | ⟨rfl,o,q,hc,B⟩ | ⟨rfl,q⟩ | ⟨rfl,S,n,q⟩;obtain⟨its,_,pl,_⟩:=I.list hq;show⟨pl.isList.typeIs,λa e=>?_⟩;cases e;obtain⟨o,n,e,c,B,_⟩:=pl;exact⟨o,e,B⟩;show⟨⟨o,I.kIn p o q,hc⟩,λa e=>?_⟩;cases e;exact⟨o,I.kIn _ o q,B⟩
  have z:∃o,s.heap.get? p=some o/\o.ExactDict:=by
   rcases q with ⟨kvs,q⟩ | ⟨kvs,q⟩;obtain⟨_,_,_,_,o,_,_,e,ex,_⟩:=I.hok p _ q;exact⟨o,e,ex⟩;obtain⟨_,_,_,_,o,_,_,e,ex,_⟩:=I.hok p _ q;exact⟨o,e,ex⟩
  obtain⟨o,e,ex⟩:=z;show⟨⟨o,e,ex.1⟩,λa F=>?_⟩;cases F;exact⟨o,e,ex.2.1⟩;obtain⟨o,_,_,_,e,ex,_⟩:=I.hok p _ q;show⟨⟨o,e,ex.1⟩,λa F=>?_⟩;cases F;exact⟨o,e,ex.2.1⟩
 | _=>exact False.elim ty
def zvq (K:AH)(T:String)(r:V->AT->Hp->VK->Prop)(to:TE):TE:=λσ H Q=>to σ H λx H1=>tyV K T x H1/\r x [] H1 Q
def tBM (K:AH)(T:String)(r:V->AT->Hp->VK->Prop)(to:TE)(t:TA):TE:=λσ H Q=>to σ H λx H1=>tyV K T x H1/\t σ H1 λxs H2=>r x xs H2 Q
variable {o e:Expr}{es:AO}{to:TE}{t:TA}{name:Str}{apos cpos:Pos}{T id:String}{r:V->AT->Hp->VK->Prop}
def zrM (O:PlainAttrs T)(F:Slot T name id)(J:typeOf (.builtin id)=pure (.type "method_descriptor"))(U:MtR X id r)(Y:PE X o to)
  (q:attributeBase o name X.env (eval o X.env)=eval o X.env:=by rfl) (B:(apos.endLine==cpos.line)=true:=by rfl):PE X (.Call (.Attribute o name apos) [] [] cpos) (zvq X.K T r to):=by
 intro pins s σ H Q I h;show wpAny_Call_method0_late q B (thn (Y pins s σ H _ I h)  ?_);rintro v Z ⟨x,H1,I1,L,ty,q1⟩;obtain⟨h1,h2⟩:=znr I1 L ty;exact⟨T,id,O,F,J,h1,h2,Calls.callWith_builtin rfl (PySem.evalArgs_none (U pins Z σ H1 x [] v [] Q I1 L .nil q1))⟩
def zrL (Z:PlainAttrs T)(J:Slot T name id)(O:typeOf (.builtin id)=pure (.type "method_descriptor"))(hm:MtR X id r)(ho:PE X o to)(ha:PA X (e::es) t)
  (B:attributeBase o name X.env (eval o X.env)=eval o X.env:=by rfl)
  (L:((backTo cpos (starEach (e::es) X.env)).all (λx=>!x.1)&&(backToKw cpos (keywordEach [] X.env)).all (λx=>x.1.isSome)
   && decide ((e::es).length+([]:List Keyword).length+(if ([]:List Keyword).isEmpty then 0 else 1)<30))=true:=by rfl)
  (F:(apos.endLine==cpos.line)=true:=by rfl) (hs:starEach (e::es) X.env=(false,eval e X.env)::starEach es X.env:=by rfl) (q:(backTo cpos (starEach es X.env)).any (·.1)=false:=by rfl) :
  PE X (.Call (.Attribute o name apos) (e::es) [] cpos) (tBM X.K T r to t):=by
 intro pins s σ H Q I h;show wpAny_Call_method_late B L F rfl (thn (ho pins s σ H _ I h)  ?_);rintro v s1 ⟨x,H1,I1,U,ty,q1⟩;obtain⟨h1,h2⟩:=znr I1 U ty;show⟨T,id,Z,J,O,h1,h2,?_⟩;have Y:=ha cpos pins s1 σ H1 _ I1 q1;rw[hs] at Y ⊢;show Calls.callWith_builtin (by change (false || (backTo cpos (starEach es X.env)).any (·.1))=false;rw[q] <;> rfl) (Calls.evalArgs_plain ?_);exact thn Y <| by rintro us s2 ⟨vs,H2,I2,r2,q2⟩;exact hm pins s2 σ H2 x vs v us Q I2 U r2 q2
end
def MtM (X:Cx)(id:String)(r:V->AT->Hp->VK->Prop):Prop:=
 ∀ (pins:AB) (s:AZ) (σ:St) (H:Hp) (x:V) (xs:AT) (v:Value) (q:AN) (Q:VK),Inv X pins σ H s->yF x v->z0 xs q->r x xs H Q->
  Af X (call (.builtin id) (v::q)) (EP X pins σ Q) X.xe s
def z0.one:∀ {x:V} {q:AN},z0 [x] q->∃u,q=[u]/\yF x u
 | _,_,.cons r .nil=>⟨_,rfl,r⟩
def z0.zero:∀ {q:AN},z0 [] q->q=[]
 | _,.nil=>rfl
def z0.eraseIdx:∀ {xs:AT} {q:AN} (i:Nat),z0 xs q->z0 (xs.eraseIdx i) (q.eraseIdx i)
 | _,_,_,.nil=>.nil
 | _,_,0,.cons _ t=>t
 | _,_,i+1,.cons r t=>.cons r (z0.eraseIdx i t)
def z0.rep(h:z0 xs q):∀k:Nat,z0 (List.replicate k xs).flatten (List.replicate k q).flatten
 | 0=>.nil
 | k+1=>by rw[cQ,cQ,dL,dL];exact z0.append h (z0.rep h k)
def ze2 {α:Type}:∀ (l:List α) (i:Nat),(l.eraseIdx i).length<=l.length
 | [],_=>ai _
 | _::_,0=>eu _
 | _::r,i+1=>Nat.succ_le_succ (ze2 r i)
def zeR (its:AN):∀ (k:Nat) (acc:AN),
  List.foldl (λx1 q=>x1++q) acc.toArray (List.replicate k its.toArray)=(acc++(List.replicate k its).flatten).toArray
 | 0,acc=>by simp
 | k+1,acc=>by
  have e:acc.toArray++its.toArray=(acc++its).toArray:=by simp
  have B:(acc++its)++(List.replicate k its).flatten=acc++(List.replicate (k+1) its).flatten:=by grind
  rw[<- B,<- zeR its k (acc++its),<- e,cQ,eA]
section
variable {X:Cx}{pins:AB}{σ:St}{H:Hp}{s:AZ}{l b:Addr}{xs ys zs:AT}
def Inv.lset{its its':AN}{f:AK->AK}(I:Inv X pins σ H s)(B:H l=some (.lst xs))(e:s.heap.get? l=some { cls:=.type "list",data:=.seq its.toArray n })(F:f its.toArray=its'.toArray)(J:z0 ys its')(L:ys.length<=sizeLine) :
  Inv X pins σ (upd H l (.lst ys)) { s with heap:=s.heap.update l (Obj.mapSeq f),toks:=t' }:=by
 have q:=PySem.IsL.update e f;rw[F] at q;show I.write (x:=l) (e:=l) (by rw[B];exact trivial) (.inl rfl) (λY u O U=>(bC s.heap (Obj.mapSeq f) (Ne.symm O)).trans U) ⟨_,q⟩ ?_;exact⟨L,its',_,J,q⟩
def Inv.lnew(I:Inv X pins σ H s)(B:z0 ys its)(F:ys.length<=sizeLine) :
  Inv X pins σ (upd H s.heap.objs.size (.lst ys)) { s with heap:=s.heap.push { cls:=.type "list",data:=.seq its.toArray },toks:=t' }:=
 I.laid (λ_ _ q=>af _ q) (ai _) ⟨F,its,0,B,aq _ rfl⟩
def Inv.fresh (I:Inv X pins σ H s):H s.heap.objs.size=none:=I.hok.fresh (ai _)
def Inv.lstM (I:Inv X pins σ H s)(q:H l=some (.lst xs)):xs.length<=sizeLine/\∃ (its:AN) (n:Nat),z0 xs its/\xs.length=its.length/\s.heap.get? l=some { cls:=.type "list",data:=.seq its.toArray n }:=by obtain⟨z,its,n,r,e⟩:=I.hok l _ q;exact⟨z,its,n,r,r.length,e⟩
def zg4(h:n<=sizeLine):Builtin.List.listTooLong n=false:=by
 unfold Builtin.List.listTooLong;right
def zgk:V->AT->Hp->VK->Prop:=λx vs H Q=>∃l xs y,x = .ref l/\vs=[y]/\H l=some (.lst xs)/\xs.length<sizeLine/\Q .non (upd H l (.lst (xs++[y])))
def ze8:MtM X "list.append" zgk:=by intro pins s σ H x vs v U Q I J L h;obtain⟨l,xs,y,rfl,rfl,B,Y,q⟩:=h;cases J;obtain⟨u,rfl,O⟩:=L.one;obtain⟨z,its,n,r,Z,e⟩:=I.lstM B;show dw F.slot_list_append ⟨_,e,rfl⟩ F.entry_list_append (F.args_list_append_2 _ _) (PySem.list_append l its.toArray n u (by grind)) ⟨e,?_⟩;show⟨.non,_,I.lset (its':=its++[u]) B e (by simp) (r.append (.cons O .nil)) ?_,rfl,q⟩;rw[aD,cz];lia
def zpy:V->AT->Hp->VK->Prop:=λx vs H Q=>∃l b xs zs,x = .ref l/\vs=[.ref b]/\H l=some (.lst xs)/\H b=some (.lst zs)/\xs.length+zs.length<=sizeLine/\Q .non (upd H l (.lst (xs++zs)))
def zjy:MtM X "list.extend" zpy:=by
 intro pins s σ H x vs v us Q I O U h;obtain⟨l,b,xs,zs,rfl,rfl,L,Y,hz,q⟩:=h;cases O;obtain⟨u,rfl,Z⟩:=U.one;cases Z;obtain⟨z,its,n,r,hl,e⟩:=I.lstM L;obtain⟨z2,B,n2,r2,ad,e2⟩:=I.lstM Y;have hsz:its.toArray.size+B.toArray.size<=sizeLine:=by rw[aV,aV];lia
 have J:¬ (!its.toArray.isEmpty&&Builtin.List.listTooLong (its.toArray.size+B.toArray.size))=true:=by
  rw[zg4 hsz,Bool.and_false];grind
 show dw F.slot_list_extend ⟨_,e,rfl⟩ F.entry_list_extend (F.args_list_extend_2 _ _)
  (AutoSeq1.list_extend_list_list_0 l its.toArray n b B.toArray n2 J (by lia) (by lia)) ⟨e,e2,?_⟩
 show⟨.non,_,I.lset (its':=its++B) L e (by simp) (r.append r2) ?_,rfl,q⟩;right
def zne:V->AT->Hp->VK->Prop:=λx vs H Q=>∃l xs i k y,x = .ref l/\vs=[.int i]/\H l=some (.lst xs)/\-(2 ^ 63)<=i/\i<2 ^ 63/\seqIndex? i xs.length=some k/\xs[k]?=some y/\Q y (upd H l (.lst (xs.eraseIdx k)))
def zgZ:MtM X "list.pop" zne:=by
 intro pins s σ H x vs v Z Q I L O h;obtain⟨l,xs,i,k,y,rfl,rfl,J,h1,h2,hk,U,q⟩:=h;cases L;obtain⟨u,rfl,Y⟩:=O.one;obtain⟨t,rfl⟩:=Y;obtain⟨z,its,n,r,hl,e⟩:=I.lstM J;obtain⟨w,hw,B⟩:=r.get U
 show dw F.slot_list_pop ⟨_,e,rfl⟩ F.entry_list_pop (F.args_list_pop_2 _ _)
  (MeetsSeq.list_pop_at l its.toArray n i t k w (fitsIndex_both h1 h2) (by right) (by right) (by right)) ⟨e,?_⟩
 show⟨y,_,I.lset (its':=its.eraseIdx k) J e ?_ (r.eraseIdx k) ?_,B,q⟩;right;have:=ze2 xs k;lia
def zj0:V->AT->Hp->VK->Prop:=λx vs H Q=>∃l xs,x = .ref l/\vs=[]/\H l=some (.lst xs)/\Q .non (upd H l (.lst []))
def zlD:MtM X "list.clear" zj0:=by intro pins s σ H x vs v U Q I L O h;obtain⟨l,xs,rfl,rfl,J,q⟩:=h;cases L;have B:=O.zero;subst B;obtain⟨z,its,n,r,Y,e⟩:=I.lstM J;show dw F.slot_list_clear ⟨_,e,rfl⟩ F.entry_list_clear (F.args_list_clear_1 _) (AutoSeq1.list_clear_list_0 l its.toArray n (by grind)) ⟨e,?_⟩;exact⟨.non,_,I.lset (its':=[]) (ys:=[]) J e rfl .nil (aK _),rfl,q⟩
def rCat:R2:=λx y H Q=>∃l b xs zs,x = .ref l/\y = .ref b/\H l=some (.lst xs)/\H b=some (.lst zs)/\xs.length+zs.length<=sizeLine/\∀p,H p=none->Q (.ref p) (upd H p (.lst (xs++zs)))
def zrt:OpR X (binaryOp .Add) rCat:=by
 intro pins s σ H x y v u Q I F J h;obtain⟨l,b,xs,zs,rfl,rfl,L,O,hz,q⟩:=h;cases F;cases J;obtain⟨z,its,n,r,hl,e⟩:=I.lstM L;obtain⟨z2,B,n2,U,Y,Z⟩:=I.lstM O;show PySem.P.add_list e Z ?_ (by right);have ea:its.toArray++B.toArray=(its++B).toArray:=by simp
 rw[ea];exact⟨.ref _,_,I.lnew (t':=s.toks) (r.append U) (by right),rfl,q _ I.fresh⟩
def ztK:R2:=λx y H Q=>∃l k xs,x = .ref l/\y = .int k/\H l=some (.lst xs)/\-(2 ^ 63)<=k/\k<2 ^ 63/\xs.length * k.toNat<=sizeLine/\
 ∀p,H p=none->Q (.ref p) (upd H p (.lst (List.replicate k.toNat xs).flatten))
def zor {α:Type}(xs:List α)(k:Nat):(List.replicate k xs).flatten.length=k * xs.length:=by right
def zrz:OpR X (binaryOp .Mult) ztK:=by
 intro pins s σ H x y v u Q I rx ry h;obtain⟨l,k,xs,rfl,rfl,hH,h1,h2,hz,q⟩:=h;cases rx;obtain⟨t,rfl⟩:=ry;obtain⟨z,its,n,r,hl,e⟩:=I.lstM hH;have hlen:its.toArray.size * k.toNat<=sizeLine:=by rw[aV,<- hl];exact hz
 have hcap:¬ its.toArray.size * k.toNat > (2 ^ 63 - 1) / 8:=by
  have:(sizeLine:Nat)<=(2 ^ 63 - 1) / 8:=by ext
  lia
 have hfit:¬ (!Builtin.List.listFitsIndex k)=true:=by
  rw[fitsIndex_both h1 h2];grind
 have hlong:¬ Builtin.List.listTooLong (its.toArray.size * k.toNat)=true:=by
  rw[zg4 hlen];grind
 have hnew:List.foldl (λx1 x2=>x1++x2) #[] (List.replicate (if its.toArray.isEmpty=true then 0 else k.toNat) its.toArray)=(List.replicate k.toNat its).flatten.toArray:=by
  have f0:∀m:Nat,List.foldl (λx1 x2=>x1++x2) #[] (List.replicate m its.toArray)=(List.replicate m its).flatten.toArray:=λm=>by
   have:=zeR its m [];right
  rw[f0]
  cases its with
  | nil=>simp
  | cons a r'=>rw[if_neg (by simp)]
 show wpAny_binaryOp_repeat_ref (T := "list") (U := "int") (by ext) ⟨_,e,rfl⟩ (λs'=>fJ s' k t) noFill_list_mul F.fills_int_mul F.slot_int_rmul repeat_list F.slot_int_index.lookup
  (dw F.slot_int_rmul (fJ s k t) F.entry_int_rmul (F.args_int_rmul_2 _ _) (int___rmul___int_list k t l its.toArray n)
   ⟨e,rfl,⟨_,e,rfl⟩,dw F.slot_list_mul ⟨_,e,rfl⟩ F.entry_list_mul (F.args_list_mul_2 _ _) (AutoListH.list___mul___list_int_3 l its.toArray n k t hfit hcap hlong) ⟨e,?_⟩⟩)
 rw[hnew];exact⟨.ref _,_,I.lnew (t':=s.toks) (r.rep k.toNat) (by rw[zor,Nat.mul_comm];exact hz),rfl,q _ I.fresh⟩
variable {prog:Aa}{w:Ab}{A:Ae}{E:AA}
end
end L2
namespace Att
open PySem.W PySem.Calls PyProof.Rows
def zb4:∀ (ns:AG) (vs:AN),WellAll P h vs (ns.map WData.int)->IntsAre vs ns:=by
 intro ns
 induction ns with
 | nil=>
  intro vs w;rw[List.map_nil] at w;cases w;exact .nil
 | cons n ns q=>
  intro vs w;rw[List.map_cons] at w
  cases w with
  | cons a b=>
   cases a;exact .cons _ _ (q _ b)
def zkc{l:OpenLaw}(hn:l.most=some n){P:Params}{h:Heap}{q:AN}(B:l.row.toRowW.claim.pre args=true)(J:WellAll P h q args) :
  ∃a vs ns,q=[Value.ref a]/\args=[WData.list (ns.map WData.int)]/\h.get? a=some { cls:=.type "list",data:=.seq vs.toArray }/\IntsAre vs ns/\ns.length<=n:=by
 have L:WShape.hasAll [] args [.list .int]=true:=(pre_splitW B).1;have O:l.pre.holds [] { args:=args }=true:=(pre_splitW B).2;obtain⟨d,r,rfl,h1,h2⟩:=hasAllW_cons L;obtain rfl:=hasAllW_nil h2;obtain⟨xs,rfl,Y⟩:=hasW_list h1;obtain⟨ns,rfl⟩:=items_int Y
 have F:ns.length<=n:=by
  unfold OpenLaw.pre at O
  have U:(WTm.not (.lt (.lit (.int (n:Int))) (.len (.arg 0)))).holds [] { args:=[.list (ns.map .int)] }=true:=by
   have U:=(holds_andW O).1;right
  have h5:=condW_of U (w_not (w_lt w_lit (w_len_list (w_arg rfl))));grind
 cases J with
 | cons Z w2=>
  cases w2
  cases Z with
  | list ho I=>exact⟨_,_,ns,rfl,rfl,ho,zb4 ns _ I,F⟩
def zjS (l:OpenLaw)(args:List WData):l.row.toRowW.claim.post args (.bool true) args=true:=
 postW_of (r:=l.row.toRowW) (X:=(true==true))
  (show WShape.has [] (.bool true) .bool=true by first | rfl | decide | simp[WShape.has,WShape.arms,WShape.armsAll])
  (show (WTm.eq .res (.lit (.bool true))).value [] { args:=args,res:=some (.bool true),after:=args }=some (.bool (true==true)) from w_eq_bool (w_res rfl) w_lit) rfl
def attach_call{l:OpenLaw}{q:Aa}{F:AM}{XP:(AI)->Heap->Prop}{YP:Ab->Heap->Prop}{d:DefRec}(hn:l.most=some n)(ag:d.params.defaults=[])(O:∀ (w:Ab) (I B:AZ) (mg mb:AI) (fa:Addr) (o:Obj) (pm cd J:Value) (a:Addr) (vs:AN) (ns:AG),
   Ground q F [] XP w I mg mb B.heap->YP w B.heap->
   B.heap.get? fa=some o->o.data = .func (docDef d.name d.params d.body d.scope pm cd J)->B.heap.CodeRec cd d.name->mg d.name=some (.ref fa)->
   B.heap.get? a=some { cls:=.type "list",data:=.seq vs.toArray }->IntsAre vs ns->ns.length<=n->B.gens = #[]->
   codeAny (model l.prog w) callerA (.call (.ref fa) ⟨[.ref a],[]⟩) (λr s'=>r = .ok (.ret (.bool true))/\OldK B.heap s'.heap/\s'.os=B.os/\AllBare s'.gens) B) :
  WalkO q F XP YP l.row.toRowW d [] (λf vs=>PySem.call f vs):=by
 intro w I B mg mb G Y fa o pm cd J dV kV ho hd al hD an hg args av as U a0 a1 ap a2;obtain rfl:dV = .none:=Dflts.none hD ag;obtain rfl:kV = .none:=Dflts.noKw hD;obtain⟨a,vs,ns,rfl,rfl,Z,L,ad⟩:=zkc hn U ap;show enter_call (codeAny_mono (O w I B mg mb fa o pm cd J a vs ns G Y ho (fd_plain hd) al an Z L ad hg) λr s' hq=>?_);obtain⟨rfl,h2,h3,h4⟩:=hq;exact⟨.inl ⟨.bool true,.bool true,[],rfl,λ_=>rfl,.bool true,zjS l _,λ_=>⟨List.Pairwise.nil,λ_ hm=>(nomatch hm)⟩⟩,h2,h3,h4⟩
section
variable {prog:Aa}{w:Ab}{A:Ae}{E:AA}{s:AZ}{K:Frag}
def ledger (h:Heap)(L d:Addr):AB:=(List.range h.objs.size).filterMap λa=>if a=L\/a=d then none else (h.get? a).map λo=>(a,o)
end
end Att
namespace L2
open PyProof.Rows
def zfw:∀ {vs:AN} {ns:AG},IntsAre vs ns->z0 (ns.map V.int) vs
 | _,_,.nil=>.nil
 | _,_,.cons n t h=>.cons ⟨t,rfl⟩ (zfw h)
def ztS (H:Hp):Prop:=∀b,H b=none\/∃o xs,H b=some (.frz o (.lst xs))
def zlu{P:Aa}{w:Ab}{K:AH}{mg mb:AI}{CX:CXT}{fa a:Addr}{fd:Ac}{sp:Sp}{B:AZ}{vs:AN}{ns:AG}(KX:K.In B.heap)(Y:B.heap.Ns mainGlobals mg)(J:B.heap.Ns builtinsNs mb)(ap:∀x:Str,x ≠ "__name__" -> mb x=bootBuiltins x)(Z:B.heap.NoLimit)(hg:B.gens = #[])(ha:B.heap.get? a=some { cls:=.type "list",data:=.seq vs.toArray })(hi:IntsAre vs ns)(hl:ns.length<=sizeLine)(hr:Room k callerA)(F:∀base:Heap,K.In base->base.Ns mainGlobals mg->FnOk P w K mg base CX k fa fd [x] sp)(U:∀ (s:AZ) (u:Value),BindsTo s fd ⟨[u],[]⟩ [(x,u)])(as:∀H:Hp,ztS H->SqL K H a (ns.map V.int)->sp [.ref a] H (λv _=>v = .bl true) λ_ _ _=>False)(av:∀H e s',CX [] H B (λ_ _ _=>False) e s'->False) :
  codeAny (model P w) callerA (.call (.ref fa) ⟨[.ref a],[]⟩) (λr s'=>r = .ok (.ret (.bool true))/\OldK B.heap s'.heap/\s'.os=B.os/\AllBare s'.gens) B:=by
 have rv:=zfw hi;have a1:=hi.length
 have O:∀H:Hp,ztS H->SqL K H a (ns.map V.int)->HOk P w H B.heap->(∀b,H b≠none->b=a)->(H a≠none->K.lookup a=none)->
   codeAny (model P w) callerA (.call (.ref fa) ⟨[.ref a],[]⟩) (λr s'=>r = .ok (.ret (.bool true))/\OldK B.heap s'.heap/\s'.os=B.os/\AllBare s'.gens) B:=by
  intro H hO hS ad hA hK;have I:∀ {b:Addr} {o:Obj},B.heap.get? b=some o->H b=none->(zk9 B.heap H).get? b=some o:=λe n=>zla e n;have a0:∀ {b:Addr} {o:Obj} {es:Array DictEntry} {ep:Nat},B.heap.get? b=some o->o.data = .dict es ep->H b=none:=λ{b o es ep} e d=>by grind
  have L:∀ {b:Addr} {m:AI},B.heap.Ns b m->(zk9 B.heap H).Ns b m:=λ{b m} ⟨o,es,ep,e,d,r⟩=>⟨o,es,ep,I e (a0 e d),d,r⟩;have ag:K.In (zk9 B.heap H):=λb o e=>I (KX b o e) (by grind);have hM:Mod K mg (zk9 B.heap H):=⟨ag,L Y,⟨mb,L J,ap⟩,let ⟨mc,h1,h2⟩:=Z;⟨mc,L h1,h2⟩⟩;have e0:Env0 P w K mg (zk9 B.heap H) callerA [] B H:=⟨rfl,hM,λb o e=>zoJ e,Nat.le_of_eq (ziR _ _),trivial,λb J=>absurd (show b∈([]:AY) from J) (by simp),ad,.of_eq hg⟩;show dR ((F _ ag (L Y)).run callerA [] B H ⟨[.ref a],[]⟩ [.ref a] [.ref a] _ _ hr e0 (U B (.ref a)) (.cons rfl .nil) (as H hO hS)) λr s' h=>?_
  cases r with
  | error e=>exact (av H e s' h).elim
  | ok fl=>
   cases fl with
   | next=>exact False.elim h
   | brk=>exact False.elim h
   | cont=>exact False.elim h
   | ret u=>
    obtain⟨v,H',os,al,un,an,r',q⟩:=h;have q':v = .bl true:=q;subst q';obtain rfl:u=Value.bool true:=r';show⟨rfl,OldK.of_keep λb o e=>?_,os,al⟩
    cases q:H b with
    | none=>exact un.keep b o e q (by intro z;exact absurd (show b∈([]:AY) from z) (by simp)) (by simp)
    | some u=>
     rcases hO b with z | ⟨ob,xs,z⟩;grind;have z2:=un.frzs b ob _ z;obtain⟨e1,_⟩:=ad b _ z;obtain⟨e2,_⟩:=an b _ z2;grind
 cases hk:K.lookup a with
 | some o=>
  have e:=KX a o hk;rw[ha] at e;cases e;show O (λ_=>none) (λ_=>.inl rfl) (.inr ⟨_,vs.toArray,_,hk,rfl,rfl,rfl,by right,by simpa using rv⟩) (λb u z=>by lia) (by grind) λz=>absurd rfl z
 | none=>
  show O (λb=>if b=a then some (.frz { cls:=.type "list",data:=.seq vs.toArray } (.lst (ns.map V.int))) else none) (λb=>?_) (.inl (.inr ⟨{ cls:=.type "list",data:=.seq vs.toArray },if_pos rfl⟩)) (λb u z=>?_) (λb z=>?_) λ_=>hk;by_cases J:b=a;exact .inr ⟨_,_,if_pos J⟩;exact .inl (if_neg J);by_cases J:b=a;have z':=(if_pos J).symm.trans z;cases z';subst J;exact⟨ha,by right,vs,_,rv,ha⟩;right;grind
def zp9{l:PySem.W.OpenLaw}{q:Aa}{I:AM}{XP:(AI)->Heap->Prop}{YP:Ab->Heap->Prop}{d:DefRec}{K:Params->AH}{CX:Ab->CXT}{sp:Ab->Sp}(hn:l.most=some n)(U:n<=sizeLine)(Z:d.params.defaults=[])(hr:Room k callerA)(hY:∀ (w:Ab) (h:Heap),YP w h->(K w.params).In h)(F:∀ (w:Ab) (mg:AI) (fa:Addr) (h:Heap),(K w.params).In h->h.Ns mainGlobals mg->mg d.name=some (.ref fa)->
   ∃fd:Ac,(∀ (s:AZ) (u:Value),BindsTo s fd ⟨[u],[]⟩ [(x,u)])/\
    ∀base:Heap,(K w.params).In base->base.Ns mainGlobals mg->FnOk l.prog w (K w.params) mg base (CX w) k fa fd [x] (sp w))(ad:∀ (w:Ab) (H:Hp) (a:Addr) (ns:AG),ns.length<=n->ztS H->SqL (K w.params) H a (ns.map V.int)->sp w [.ref a] H (λv _=>v = .bl true) λ_ _ _=>False)(ag:∀ (w:Ab) (H:Hp) (s:AZ) (e:Value) (s':AZ),CX w [] H s (λ_ _ _=>False) e s'->False) :
  PySem.W.WalkO q I XP YP l.row.toRowW d [] (λf vs=>PySem.call f vs):=by
 show Att.attach_call hn Z λw an L mg mb fa o pm cd ap a vs ns G Y ho hd as al O J B hg=>?_;have KX:=hY w _ Y;obtain⟨fd,hb,hF⟩:=F w mg fa _ KX G.T.g al;exact zlu KX G.T.g G.T.b G.T.builtins G.T.nolimit hg O J (aw B U) hr hF hb (λH hO hS=>ad w H a ns B hO hS) λH e s'=>ag w H L e s'
def yZ (s:Stmt):Arguments:=match s with
 | .FunctionDef _ a _ _ _ _ _ _ _ _=>a
 | _=>{ posonlyargs:=[],args:=[],vararg:=none,kwonlyargs:=[],kw_defaults:=[],kwarg:=none,defaults:=[] }
def zJ (s:Stmt):List Stmt:=match s with
 | .FunctionDef _ _ b _ _ _ _ _ _ _=>b
 | _=>[]
def ze (s:Stmt):Scope:=match s with
 | .FunctionDef _ _ _ _ _ _ q _ _ _=>q
 | _=>{ kind:=.function,names:=[],isGenerator:=false,isCoroutine:=false }
abbrev CX0:CXT:=λ_ _ _ _ _ _=>False
abbrev E0:XK:=λ_ _ _=>False
def zrI:zh1 CX0 X E0:=λ_ _ _ _ _ _ _ h=>h.elim
structure Fun (K:AH)(x qual:Str)(st:Stmt)(f:Addr)(fd:Ac):Prop where
 ex:∃ (oc:Value) (od:Option Addr) (kV doc pm:Value) (an:Option Addr) (cdv ct:Value) (osl:Array AJ),
  fd=PySem.W.fnOf x qual (yZ st) (zJ st) (ze st) .none kV doc pm an cdv ct/\K.lookup f=some ⟨oc,od,.func fd,osl⟩/\PySem.W.codeIn K cdv qual=true
 kp:PySem.W.keepIn K (.ref f)=true
section
variable {P:Aa}{w:Ab}{K:AH}{mg:AI}{base:Heap}
def Fun.ok{x I:Str}{st:Stmt}{f:Addr}{fd:Ac}{N ps:AM}{sp:Sp}(F:Fun K x I st f fd)(S:FnScope N ps (ze st))(O:∀vs H Q E,sp vs H Q E->vs.length=ps.length)(L:∀ (J:Value) (A:Ae) (B:List Env) (s:AZ) (H:Hp) (vs:AT) (Q:VK) (E:XK),Room k (A.deeper (envOfC I (ze st) s.heap.objs.size f J))->sp vs H Q E->
   ∃t,PSs (zcL CX0 P w K mg base N I (ze st) f J A B s H E).nox (zJ st) t/\t { nx:=λ_ H'=>Q .non H',rt:=Q } (y4 N vs) H):FnOk P w K mg base CX0 (k+1) f fd ps sp:=by
 obtain⟨oc,od,kV,Z,pm,an,J,ct,ad,rfl,lk,U⟩:=F.ex;show zqT lk U S O λA B s H vs Q E hr Y=>?_;obtain⟨t,h,q⟩:=L J A B s H vs Q E hr Y;exact⟨t,h.nox,q⟩
def Fun.binds {x q:Str}{st:Stmt}{f:Addr}{fd:Ac}{ps:AM}(F:Fun K x q st f fd)
  (h:∀ (kV B J:Value) (L:Option Addr) (I ct:Value) (O:AN),O.length=ps.length->bindArgs (PySem.W.fnOf x q (yZ st) (zJ st) (ze st) .none kV B J L I ct) ⟨O,[]⟩=pure (ps.zip O)):zdh K fd ps []:=by
 obtain⟨Z,od,kV,B,J,L,I,ct,U,rfl,lk,Y⟩:=F.ex;exact .all (h kV B J L I ct)
def zmP{x q:Str}{st:Stmt}{f:Addr}{U J:Option Addr}{kV F L B ct:Value}(l:K.lookup f=some ⟨O,U,.func (PySem.W.fnOf x q (yZ st) (zJ st) (ze st) .none kV F L J B ct),I⟩)(c:PySem.W.codeIn K B q=true)(k:PySem.W.keepIn K (.ref f)=true):Fun K x q st f (PySem.W.fnOf x q (yZ st) (zJ st) (ze st) .none kV F L J B ct):=⟨⟨O,U,kV,F,L,J,B,ct,I,rfl,l,c⟩,k⟩
end
def xc(q:Room k A):A.units+1<cLine:=aM (Nat.add_le_add_left (by decide:1<=64) _) q.units
def zcz(h:n<=1000):n<sizeLine:=aM h (by ext)
section
variable {X:Cx}
end
def iteF {A B:Prop}(h:B):if false=true then A else B:=by grind
def ztx {c A B:Prop}[Decidable c](h1:c->A)(h2:¬ c->B):if c then A else B:=by grind
def y3 (H H':Hp):Prop:=∀b o,H b=some o->H' b=some o
def y3.trans(a:y3 H H1)(b:y3 H1 H2):y3 H H2:=λc o h=>b c o (a c o h)
def y3.free(e:y3 H H')(h:H' l=Option.none):H l=Option.none:=by
 cases q:H l with
 | none=>rfl
 | some o=>
  rw[e l o q] at h;cases h
def y3.seq{K:AH}{H H':Hp}{a:Addr}(e:y3 H H')(h:SqL K H a xs):SqL K H' a xs:=by
 rcases h with (h | ⟨o,h⟩) | h;exact .inl (.inl (e _ _ h));exact .inl (.inr ⟨o,e _ _ h⟩);exact .inr h
section
variable {κ:Type}[DecidableEq κ]
variable {X:Cx}
def zfH:zcH X (.builtin "isinstance") (λxs H Q=>∃x T t b,xs=[x,.ty T]/\TyOf X.K H x t/\PySem.W.kitOne X.K t (.type T)=some b/\Q (.bl b) H):=by intro pins s σ H xs J Q I r h;obtain⟨x,T,t,b,rfl,ty,e,q⟩:=h;obtain⟨u,c,rfl,B,F⟩:=zth r;cases F;exact zi1 I B ty e λtk=>⟨.bl b,H,I.tok tk,rfl,q⟩
def zjZ (K:AH):R2:=λx y H Q=>∃a b xs ys,x = .ref a/\y = .ref b/\H a=some (.tup xs)/\H b=some (.tup ys)/\xs.length+ys.length<=sizeLine/\
 ∀p H',H' p=some (.tup (xs++ys))->y3 H H'->Q (.ref p) H'
def zoK:OpR X (binaryOp .Add) (zjZ X.K):=by
 intro pins s σ H x y v u Q I rx ry h;obtain⟨a,b,xs,ys,rfl,rfl,ha,O,hz,q⟩:=h;by_cases hx:xs=[]
 ·subst hx;cases rx;cases ry;obtain⟨its,r1,p1,_⟩:=I.tuple (.of ha);obtain⟨B,r2,p2,_⟩:=I.tuple (.of O);obtain⟨⟨cls,dd,data,sl⟩,ho,hc,n,hd⟩:=id p1;obtain⟨⟨ad,U,Y,Z⟩,F,J,n2,L⟩:=id p2;simp only at hc hd J L;subst hc hd J L;have hi:its=[]:=r1.nil_iff.mpr rfl
  exact concat_meets ⟨_,ho,rfl⟩ ⟨_,F,rfl⟩ fB seq_tuple_add dH dz (du _ _)
   (tuple_addW0 a b its.toArray B.toArray n n2 dd U sl Z (by simp[hi])) ⟨ho,F,⟨.ref b,H,I,rfl,q b H O λ_ _ e=>e⟩⟩
 show zoL pins s σ H _ _ v u Q I rx ry ⟨a,b,xs,ys,rfl,rfl,.of ha,.of O,hx,hz,λe=>?_,λe p hp=>?_⟩;subst e;exact q a H (by right) λ_ _ e=>e;exact q p _ zj λc o e=>by rw[zd (zc e hp)];exact e
end
end L2
namespace HT
open PyProof.Rows
section
variable {prog:Aa}{w:Ab}{A:Ae}{E:AA}{s:AZ}
def getItem_tuple_whole{lo hi:AQ}(q:IsTup s.heap t items)(hs:s.heap.IsSliceOf F O U .none)(pl:IsPart O lo)(Y:IsPart U hi)(hw:sIx items.size 0 lo=0/\sIx items.size items.size hi=items.size)(h:Q (.ref t) s)(hsz:items.size<=sizeLine):Ag prog w A (getItem (.ref t) (.ref F)) Q E s:=by
 obtain⟨Z,I,J,ad⟩:=id hs;have L:s.TypeIs (.ref F) "slice" := ⟨Z,I,J⟩;unfold getItem;try with_reducible show wpAny_holding ?_
 first | show wpAny_bind (wpAny_pure ?_) | skip
 show wpAny_bind (wpAny_sequenceKey q.typeIs (by ext) ?_)
 show wpAny_bind (wpAny_callSpecial?_slot (name:=Str.ofString "__getitem__") q.typeIs PyProof.Rows.slot_tuple_getitem
  (wpAny_call_entry PyProof.Rows.slot_tuple_getitem q.typeIs entry_tuple_getitem ?_ (args_tuple_getitem _ _)))
 change wpAny _ _ (Builtin.Tuple.tupleItemsOf (.ref t) >>= _) _ _ s;show wpAny_bind (tupleItemsOf_ q ?_);show wpAny_bind (wpAny_typeOf L ?_);rw[if_pos (by ext)];show wpAny_bind (uP hs pl Y ?_);have B:(((sIx items.size 0 lo:Nat):Int)==0&&(1:Int)==1&&(sIx items.size items.size hi - sIx items.size 0 lo)==items.size)=true:=by right
 change wpAny _ _ (if (((sIx items.size 0 lo:Nat):Int)==0&&(1:Int)==1&&(sIx items.size items.size hi - sIx items.size 0 lo)==items.size)=true then _ else _) _ _ s;rw[if_pos B];unfold Builtin.Tuple.tupleIsExact;show wpAny_bind (wpAny_bind (wpAny_typeOf q.typeIs ?_));show wpAny_pure ?_;rw[if_pos (by ext)];show wpAny_bind (wpAny_rule ?_);exact wpAny_pure ⟨_,rfl,wpAny_pure h⟩
end
end HT
namespace L2
open PyProof.Rows
section
variable {X:Cx}
def rSlA:V->AQ->AQ->Hp->VK->Prop:=λx lo hi H Q=>∃a xs,x = .ref a/\H a=some (.tup xs)/\∀p H',H' p=some (.tup (zcK xs lo hi))->y3 H H'->Q (.ref p) H'
def zpQ:SlR X rSlA:=by
 intro pins s σ H x v Y Z lo hi sl Q I F hs pl J h;obtain⟨a,xs,rfl,L,q⟩:=h;by_cases O:HT.sIx xs.length 0 lo=0/\HT.sIx xs.length xs.length hi=xs.length;cases F;obtain⟨its,r,U,hz⟩:=I.tuple (.of L);have B:its.toArray.size=xs.length:=by rw[aV];exact r.length.symm
 show⟨"tuple",_,PyProof.Rows.slot_tuple_getitem.lookup,U.typeIs,?_⟩;show HT.getItem_tuple_whole U hs pl J (by rw[B];exact O) ⟨.ref a,H,I,rfl,q a H ?_ λ_ _ e=>e⟩ (by rw[B];exact hz);unfold zcK;grind;exact zsH pins s σ H _ v Y Z lo hi sl Q I F hs pl J ⟨a,xs,rfl,.of L,O,λp hp=>q p _ zj λc o e=>by rw[zd (zc e hp)];exact e⟩
inductive Dt where
 | non | bl (b:Bool) | int (i:Int) | str (x:Str) | tup (l:List Dt) | lst (l:List Dt) | dct
abbrev AS:=List Dt
mutual
def Is (H:Hp):Dt->V->Prop
 | .non,v=>v = .non
 | .bl b,v=>v = .bl b
 | .int i,v=>v = .int i
 | .str x,v=>v = .str x
 | .tup l,v=>∃a xs,v = .ref a/\H a=some (.tup xs)/\IsL H l xs
 | .lst l,v=>∃a xs,v = .ref a/\H a=some (.lst xs)/\IsL H l xs
 | .dct,v=>∃a kvs,v = .ref a/\H a=some (.dK kvs)/\za6 kvs (Sum.inr "at" : Key)=none
def IsL (H:Hp):AS->AT->Prop
 | [],xs=>xs=[]
 | d::ds,xs=>∃x r,xs=x::r/\Is H d x/\IsL H ds r
end
open Classical in
@[reducible] noncomputable def pnK:HO->Option (List (Key×V))
 | .dK kvs=>some kvs
 | .ext q=>if (∃d ob,(∃h:Heap,h.get? d=some ob)/\q=λh=>h.get? d=some ob) then some [(Sum.inr "at",.non)] else none
 | _=>none
def zu (H H':Hp):Prop:=∀b o,H b=some o->(∀kvs,pnK o=some kvs->za6 kvs (Sum.inr "at" : Key)=none)->H' b=some o
def zu.refl (H:Hp):zu H H:=λ_ _ e _=>e
def zu.trans(a:zu H H1)(b:zu H1 H2):zu H H2:=λc o e n=>b c o (a c o e n) n
def zu.same(a:y3 H H1):zu H H1:=λc o e _=>a c o e
def zu.upd(h:H p=none):zu H (upd H p o):=λc u e _=>by rw[zd (zc e h)];exact e
def y3.upd(h:H p=none):y3 H (upd H p o):=λc u e=>by rw[zd (zc e h)];exact e
def zu.tup(a:zu H H1)(h:H p=some (.tup xs)):H1 p=some (.tup xs):=a _ _ h λ_ e=>by cases e
def zu.lst(a:zu H H1)(h:H p=some (.lst xs)):H1 p=some (.lst xs):=a _ _ h λ_ e=>by cases e
mutual
def Is.stay {H H1:Hp}(a:zu H H1):∀ {d:Dt} {v:V},Is H d v->Is H1 d v
 | .non,_,h=>h
 | .bl _,_,h=>h
 | .int _,_,h=>h
 | .str _,_,h=>h
 | .tup l,v,h=>by obtain⟨p,xs,e,hp,hl⟩:=h;exact⟨p,xs,e,a.tup hp,IsL.stay a hl⟩
 | .lst l,v,h=>by obtain⟨p,xs,e,hp,hl⟩:=h;exact⟨p,xs,e,a.lst hp,IsL.stay a hl⟩
 | .dct,v,h=>by obtain⟨p,kvs,e,hp,hl⟩:=h;exact⟨p,kvs,e,a _ _ hp λkvs' e=>by cases e;exact hl,hl⟩
def IsL.stay {H H1:Hp}(a:zu H H1):∀ {ds:AS} {xs:AT},IsL H ds xs->IsL H1 ds xs
 | [],_,h=>h
 | d::ds,xs,h=>by obtain⟨x,r,e,h1,h2⟩:=h;exact⟨x,r,e,Is.stay a h1,IsL.stay a h2⟩
end
def IsL.length:∀ {ds:AS} {xs:AT},IsL H ds xs->xs.length=ds.length
 | [],_,h=>by cases h;rfl
 | d::ds,xs,h=>by obtain⟨x,r,rfl,_,h2⟩:=h;rw[aO,aO,IsL.length h2]
def IsL.get:∀ {ds:AS} {xs:AT} {i:Nat} {x:V},IsL H ds xs->xs[i]?=some x->∃d,ds[i]?=some d/\Is H d x
 | [],_,_,_,h,e=>by cases h;simp at e
 | d::ds,xs,i,x,h,e=>by
  obtain⟨y,r,rfl,h1,h2⟩:=h
  cases i with
  | zero=>simp at e;subst e;exact⟨d,rfl,h1⟩
  | succ i=>
   obtain⟨d',q,B⟩:=IsL.get (i:=i) (x:=x) h2 (by simpa using e);right
def IsL.getD:∀ {ds:AS} {xs:AT} {i:Nat} {d:Dt},IsL H ds xs->ds[i]?=some d->∃x,xs[i]?=some x/\Is H d x
 | [],_,_,_,_,e=>by simp at e
 | d::ds,xs,i,x,h,e=>by
  obtain⟨y,r,rfl,h1,h2⟩:=h
  cases i with
  | zero=>simp at e;subst e;exact⟨y,rfl,h1⟩
  | succ i=>
   obtain⟨d',q,B⟩:=IsL.getD (i:=i) (d:=x) h2 (by simpa using e);right
def IsL.append:∀ {ds es:AS} {xs ys:AT},IsL H ds xs->IsL H es ys->IsL H (ds++es) (xs++ys)
 | [],_,_,_,h,k=>by cases h;exact k
 | d::ds,es,xs,ys,h,k=>by obtain⟨y,r,rfl,h1,h2⟩:=h;exact⟨y,r++ys,rfl,h1,IsL.append h2 k⟩
def IsL.take:∀ {ds:AS} {xs:AT} (n:Nat),IsL H ds xs->IsL H (ds.take n) (xs.take n)
 | _,_,0,_=>by simp[IsL]
 | [],_,n+1,h=>by cases h;simp[IsL]
 | d::ds,xs,n+1,h=>by obtain⟨y,r,rfl,h1,h2⟩:=h;exact⟨y,r.take n,rfl,h1,IsL.take n h2⟩
def IsL.drop:∀ {ds:AS} {xs:AT} (n:Nat),IsL H ds xs->IsL H (ds.drop n) (xs.drop n)
 | _,_,0,h=>h
 | [],_,n+1,h=>by cases h;simp[IsL]
 | d::ds,xs,n+1,h=>by obtain⟨y,r,rfl,h1,h2⟩:=h;exact IsL.drop n h2
def IsL.one(h:Is H d x):IsL H [d] [x]:=⟨x,[],rfl,h,rfl⟩
def IsL.ints:∀ {ns:AG},IsL H (ns.map .int) (ns.map .int)
 | []=>rfl
 | n::ns=>⟨_,_,rfl,rfl,IsL.ints⟩
def IsL.of_ints:∀ {ns:AG} {xs:AT},IsL H (ns.map .int) xs->xs=ns.map .int
 | [],_,h=>h
 | n::ns,xs,h=>by obtain⟨y,r,rfl,h1,h2⟩:=h;cases h1;rw[IsL.of_ints h2];rfl
def Dt.ty:Dt->String
 | .non => "NoneType" | .bl _ => "bool" | .int _ => "int" | .str _ => "str" | .tup _ => "tuple" | .lst _ => "list" | .dct => "dict"
def Is.ty {K:AH}{H:Hp}:∀ {d:Dt} {v:V},Is H d v->TyOf K H v (.type d.ty)
 | .non,_,h=>by cases h;exact .non
 | .bl _,_,h=>by cases h;exact .bl _
 | .int _,_,h=>by cases h;exact .int _
 | .str _,_,h=>by cases h;exact .str _
 | .tup l,v,h=>by obtain⟨p,xs,rfl,q,B⟩:=h;exact .tup q
 | .lst l,v,h=>by obtain⟨p,xs,rfl,q,B⟩:=h;exact .lst q
 | .dct,v,h=>by obtain⟨p,xs,rfl,q,B⟩:=h;exact .dK q
abbrev Dt.isTup:Dt->Bool
 | .tup _=>true | _=>false
abbrev Dt.isLst:Dt->Bool
 | .lst _=>true | _=>false
abbrev Dt.isInt:Dt->Bool
 | .int _=>true | .bl _=>true | _=>false
abbrev Dt.isBl:Dt->Bool
 | .bl _=>true | _=>false
def Dt.isWhole:Dt->Bool
 | .int _=>true | _=>false
def zop (K:AH)(d:Dt):PySem.W.kitOne K (.type d.ty) (.type "tuple")=some d.isTup:=by cases d <;> rfl
def zoo (K:AH)(d:Dt):PySem.W.kitOne K (.type d.ty) (.type "list")=some d.isLst:=by cases d <;> rfl
def zon (K:AH)(d:Dt):PySem.W.kitOne K (.type d.ty) (.type "int")=some d.isInt:=by cases d <;> rfl
def zrd (K:AH)(d:Dt):PySem.W.kitOne K (.type d.ty) (.type "bool")=some d.isBl:=by cases d <;> rfl
end
def zho (env:Env):List (Str×NameKind)->List (Str×Addr)->List (Str×Addr)
 | [],cs=>cs
 | x::r,cs=>zho env r (if (x.2==NameKind.free)=true then (x.1,(env.cells.lookup x.1).getD 0)::cs else cs)
def zhp(h:∀x∈scope.names,x.2 = .free->∃c,env.cells.lookup x.1=some c):closureFor scope env=pure (zho env scope.names []):=by
 have gen:∀ (names:List (Str×NameKind)) (cs:List (Str×Addr)),(∀x∈names,x.2 = .free->∃c,env.cells.lookup x.1=some c)->
   (forIn names cs (λx r=>match x with
    | (name,kind)=>if (kind==NameKind.free)=true then do let a <- cellOf env name;pure (ForInStep.yield ((name,a)::r)) else pure (ForInStep.yield r)):Sem (List (Str×Addr)))=pure (zho env names cs):=by
  intro names
  induction names with
  | nil=>intro cs _;rfl
  | cons x r ih=>
   intro cs hh;obtain⟨n,k⟩:=x;rw[eB];by_cases hk:(k==NameKind.free)=true;obtain⟨c,hc⟩:=hh (n,k) am (eq_of_beq hk);have hc':env.cells.lookup n=some c:=hc;have e:cellOf env n=pure c:=by unfold cellOf;rw[hc']
   simp only[hk,if_true,e,pure_bind];rw[ih _ λy hy=>hh y (ar _ hy)];change pure _=pure (zho env r (if (k==NameKind.free)=true then (n,(env.cells.lookup n).getD 0)::cs else cs));right;simp only[hk,pure_bind];have e2:zho env ((n,k)::r) cs=zho env r cs:=by change zho env r (if (k==NameKind.free)=true then _ else cs)=_;rw[if_neg hk]
   right
 unfold closureFor;have:=gen scope.names [] h;simpa using this
def zbT:∀ {names:List (Str×NameKind)} {cs:List (Str×Addr)} {x:Str} {c:Addr},(∀y∈names,y.2 = .free->∃c,env.cells.lookup y.1=some c)->(zho env names cs).lookup x=some c->env.cells.lookup x=some c\/cs.lookup x=some c
 | [],_,_,_,_,h=>.inr h
 | (n,k)::r,cs,x,c,B,h=>by
  have q:=zbT (names:=r) (x:=x) (c:=c) (λy F=>B y (ar _ F)) h;rcases q with q | q;exact .inl q;by_cases I:(k==NameKind.free)=true;obtain⟨J,L⟩:=B (n,k) am (eq_of_beq I);grind;right
def zcX:∀ {names:List (Str×NameKind)} {cs:List (Str×Addr)} {x:Str},(∃c,cs.lookup x=some c)->∃c,(zho env names cs).lookup x=some c
 | [],_,_,h=>h
 | (n,k)::r,cs,x,h=>by
  show zcX (names:=r) ?_;grind
def zbI:∀ {names:List (Str×NameKind)} {cs:List (Str×Addr)} {x:Str},names.lookup x=some .free->∃c,(zho env names cs).lookup x=some c
 | [],_,_,h=>by simp at h
 | (n,k)::r,cs,x,h=>by
  rw[List.lookup_cons] at h
  cases e:x==n with
  | true=>
   rw[e] at h;have h':some k=some NameKind.free:=h;cases h';show zcX (names:=r) ?_;right
  | false=>
   rw[e] at h;exact zbI (names:=r) h
def yU {env:Env}:∀ {names:List (Str×NameKind)} {x:Str} {k:NameKind},(∀y∈names,y.2≠.cell)->
  (names.map λ(n,k)=>if (k==NameKind.free&&env.scope.kind==.function&&env.kindOf n==some .cell) then (n,NameKind.cell) else (n,k)).lookup x=some k->(k = .cell\/k = .free)->names.lookup x=some .free
 | [],_,_,_,h,_=>by simp at h
 | (n,k)::r,x,q,B,h,I=>by
  have J:=@yU env r x q (λy F=>B y (ar _ F));grind
def xF {env:Env}:∀ {names:List (Str×NameKind)} {x:Str},names.lookup x=some .free->
  (names.map λ(n,k)=>if (k==NameKind.free&&env.scope.kind==.function&&env.kindOf n==some .cell) then (n,NameKind.cell) else (n,k)).lookup x=some .cell\/
  (names.map λ(n,k)=>if (k==NameKind.free&&env.scope.kind==.function&&env.kindOf n==some .cell) then (n,NameKind.cell) else (n,k)).lookup x=some .free
 | [],_,h=>by simp at h
 | (n,k)::r,x,h=>by
  have q:=@xF env r x;grind
def zt (X:Cx)(scope:Scope)(N:AM)(C:Addr)(s:AZ)(H:Hp)(ex:AY):Cx where
 prog:=X.prog
 w:=X.w
 K:=X.K
 mg:=X.mg
 base:=X.base
 A:=X.A
 N:=N
 s₀:=s
 H₀:=H
 env:=compEnvC scope (zho X.env scope.names []) C X.env
 outer:=X.stack
 stack:=X.stack
 ex:=ex
 fn:=λ_=>false
 calm:=X.calm
 pn:=[]
 xe:=λ_ _=>False
def caps (XN:AM)(Xnames names:List (Str×NameKind))(N:AM)(cix:List (Option Nat)):Bool:=
 N.length==cix.length&&(names.all λy=>y.2 != .cell)&&((N.zip cix).all λp=>match p.2 with
  | none=>true
  | some i=>XN[i]?==some p.1&&names.lookup p.1==some .free&&(Xnames.lookup p.1==some .cell || Xnames.lookup p.1==some .free)) &&
 (names.all λy=>y.2 != .free || (Xnames.lookup y.1==some .cell || Xnames.lookup y.1==some .free))
def zaF (σ:St)(cix:List (Option Nat)):St:=cix.map λo=>match o with
 | none=>none
 | some i=>(σ[i]?).join
structure CompOk (X:Cx)(scope:Scope)(N:AM)(cix:List (Option Nat)):Prop where
 kind:scope.kind = .function
 names:∀x∈scope.names,x.2 = .local->scope.names.lookup x.1=some .local
 caps:caps X.N X.env.scope.names scope.names N cix=true
section
variable {X:Cx}{pins:AB}{σ:St}{H:Hp}{s:AZ}{scope:Scope}{N:AM}{cix:List (Option Nat)}
def CompOk.cell (c:CompOk X scope N cix):∀y∈scope.names,y.2≠.cell:=λy q e=>by
 have h:=c.caps;unfold L2.caps at h;rw[bw,bw,bw] at h;have:=bn.mp h.1.1.2 y q;right
def CompOk.len (c:CompOk X scope N cix):N.length=cix.length:=by
 have h:=c.caps;unfold L2.caps at h;right
def CompOk.cells (c:CompOk X scope N cix)(B:X.Ok):∀x∈scope.names,x.2 = .free->∃a,X.env.cells.lookup x.1=some a:=λx F e=>by
 have h:=c.caps;unfold L2.caps at h;rw[bw] at h;have q:=bn.mp h.2 x F;rw[e] at q;have I:(X.env.scope.names.lookup x.1==some NameKind.cell || X.env.scope.names.lookup x.1==some NameKind.free)=true:=by simpa using q
 rcases Bool.or_eq_true_iff.mp I with q | q;exact B.has _ (.inl (eq_of_beq q));exact B.has _ (.inr (eq_of_beq q))
def CompOk.cap (c:CompOk X scope N cix){j i:Nat}{x:Str}(h1:N[j]?=some x)(h2:cix[j]?=some (some i)):X.N[i]?=some x/\scope.names.lookup x=some .free/\(X.env.scope.names.lookup x=some .cell\/X.env.scope.names.lookup x=some .free):=by
 have h:=c.caps;unfold L2.caps at h;rw[bw,bw] at h;have B:(x,some i)∈N.zip cix:=by show ak (i:=j) ?_;rw[List.getElem?_zip_eq_some];exact⟨h1,h2⟩
 have q:=bn.mp h.1.2 _ B;grind
def zld {fp:AY}{h':Heap}{tk:Nat}{m:AI}(I:Inv X pins σ H s)(c:CompOk X scope N cix)(Y:∀b∈fp,zer X pins H b)(ad:∀b∈fp,b<s.heap.objs.size)
  (hn:h'.Ns s.heap.objs.size m) (Z:∀b o,s.heap.get? b=some o->h'.get? b=some o) :
  Inv (zt X scope N s.heap.objs.size s H fp) [] (zaF σ cix) H { s with heap:=h',toks:=tk }:=by
 have ag:=c.cells I.ok
 have B:∀x a,(zho X.env scope.names []).lookup x=some a->X.env.cells.lookup x=some a:=λx a e=>by
  rcases zbT ag e with z | z;exact z;simp at z
 show⟨⟨I.mod,c.kind,I.ok.glob,I.ok.blt,ai _,λx y a e1 e2=>I.ok.inj x y a (B x a e1) (B y a e2),λx hx=>?_,λx a z _=>absurd (show (false:Bool)=true from z) (by ext),I.ok.hd,I.ok.frames,.inl rfl,
  λb J=>⟨aL (ad b J),λx a e=>(Y b J).2.2.2.2.1 x a (B x a e)⟩,I.bs,aw I.ok.bsz I.sz,λb o e J=>?_,λb J z=>?_,I.stack,I.stkFree⟩,
  I.os ▸ rfl,I.bare,Un.kept Z,⟨m,hn,λj x v h1 h2 h3=>?_⟩,λx a e=>?_,I.hok.fresh (ai _),λx a e=>I.freeC x a (B x a e),λp hp=>absurd (show p∈([]:AB) from hp) (by simp),I.hok.kept Z,?_⟩
 have al:((relabel scope X.env).names.lookup x=some .cell\/(relabel scope X.env).names.lookup x=some .free):=hx;rcases al with z | z;exact zbI (yU c.cell z (.inl rfl));exact zbI (yU c.cell z (.inr rfl));rcases (Y b J).2.2.2.1 with z | z;exact I.ok.noex b o e z;exact absurd (aY (au e) (aw I.ok.bsz z)) (cy _);rcases aE.mp (I.stkSub b z) with e | e;exact (Y b J).2.1 e;exact (Y b J).2.2.1 e;have an:N[j]?=some x:=h1;unfold zaF at h2;rw[aj] at h2
 cases e:cix[j]? with
 | none=>rw[e] at h2;cases h2
 | some o=>
  rw[e] at h2
  cases o with
  | none=>cases h2
  | some i=>
   have F:(σ[i]?).join=some v:=bv h2
   have O:σ[i]?=some (some v):=by
    cases q:σ[i]? with
    | none=>rw[q] at F;cases F
    | some z=>rw[q] at F;have:z=some v:=F;rw[this]
   obtain⟨q1,q2,q3⟩:=c.cap an e;obtain⟨m0,as,ap⟩:=I.loc;obtain⟨u,ru,hu⟩:=ap i x v q1 O (q3.elim (λz=>.inr (.inl z)) λz=>.inr (.inr z));show⟨u,ru,.inr ⟨xF q2,?_⟩⟩;rcases hu with ⟨z,_⟩ | ⟨_,a,ha,hcell⟩;have z':X.env.scope.names.lookup x=some .local:=z;right;obtain⟨a',U⟩:=zbI (env:=X.env) (cs:=[]) q2;have:a'=a:=by have:=(B x a' U).symm.trans ha;exact bv this
   subst this;obtain⟨oc,L,hd⟩:=hcell;exact⟨a',U,oc,Z _ _ L,hd⟩
 obtain⟨v,oc,L,hd⟩:=I.cell x a (B x a e);exact⟨v,oc,Z _ _ L,hd⟩;change (zaF σ cix).length=N.length;unfold zaF;rw[ab,c.len]
def zfS(x:HOk P w H h)(B:H a=none)(hs:Heap.SameBut a h h'):HOk P w H h':=λb o e=>by
 show (x b o e).stay (λc u F q=>(hs.2 c ?_).trans q) (λ_ q=>q) λ_ _ q=>q;grind
def zhA{O:St}{H':Hp}{s':AZ}(I:Inv X pins σ H s)(L:∀b∈fp,zer X pins H b)(I':Inv (zt X scope N s.heap.objs.size s H fp) [] O H' s')(hs:Heap.SameBut s.heap.objs.size s'.heap F) :
  Inv X pins σ H' { s' with heap:=F }:=by
 have U:∀b o,s.heap.get? b=some o->b≠s.heap.objs.size:=λb o e=>aL (au e);have u:=I'.base;show Inv.call' (ch:=fp) I I'.os ⟨λb o e n B J=>?_,λb o e n B J=>?_,u.free,λb o e J=>?_,u.tups,u.frzs,u.tbls⟩ (zfS I'.hok I'.free hs) I'.bare λb B=>⟨(L b B).2.2.2.1,(L b B).2.1,(L b B).2.2.2.2.1,(L b B).2.2.2.2.2⟩;exact (hs.2 b (U b o e)).trans (u.keep b o e n B J);obtain⟨Y,q⟩:=u.slot b o e n B J;exact⟨Y,(hs.2 b (U b o e)).trans q⟩;obtain⟨o',q⟩:=u.there b o e J;exact⟨o',(hs.2 b (U b o e)).trans q⟩
variable {prog:Aa}{w:Ab}{A:Ae}{R:Result->AZ->Prop}
def zdz(I:Nat->AZ->Prop)(turn:∀n s,I n s->Ag prog w A (pyNext it) (λr s₁=>match r with
   | none=>R (.ok .next) s₁
   | some v=>Ag prog w A (letOwnedTupleGo target it v) (λ_ s₂=>Ag prog w A (assign target env v) (λ_ s₃=>
     Ag prog w A (forIn ifs true λc r=>if r=true then do let ok <- isTrue c env (eval c env);pure (ForInStep.yield ok) else pure (ForInStep.yield r)) (λok s₄=>
      if ok=true then Ag prog w A (eval elt env) (λx s₅=>
       Ag prog w A (call (.builtin "list.append") [acc,x]) (λ_ s₆=>∃m,m<n/\I m s₆) (λ_ _=>False) s₅) (λ_ _=>False) s₄
      else ∃m,m<n/\I m s₄) (λ_ _=>False) s₃) (λ_ _=>False) s₂) (λ_ _=>False) s₁) (λ_ _=>False) s)(n:Nat)(h:I n s) :
  codeAny (model prog w) A (.compLoop (.ListComp elt [⟨target,iter,ifs,0⟩] scope pos) 0 it acc env) R s:=by
 show eM rfl I (λn s hI=>?_) n h;change wpAny _ A ((compTurn (.ListComp elt [⟨target,iter,ifs,0⟩] scope pos) 0 it acc env).onRaise (λx=>do noteFrame x env;theTreesLotGoes x)) _ _ s;show ff ?_;rw[compTurn_list];show aa (bK (aa (aQ (turn n s hI) (λr s₁ h₁=>?_) λ_ _ h'=>h'.elim)))
 cases r with
 | none=>exact ae h₁
 | some v=>
  show aa (aQ h₁ (λ_ s₂ h₂=>?_) λ_ _ h'=>h'.elim);show aa (aQ h₂ (λ_ s₃ h₃=>aa (aQ h₃ (λok s₄ h₄=>?_) λ_ _ h'=>h'.elim)) λ_ _ h'=>h'.elim)
  cases ok with
  | false=>exact ae ⟨rfl,h₄⟩
  | true=>
   exact aa (aa (aQ h₄ (λx s₅ h₅=>aa (aQ h₅ (λ_ s₆ h₆=>ae (ae ⟨rfl,h₆⟩)) λ_ _ h'=>h'.elim)) λ_ _ h'=>h'.elim))
end
def PTs (X:Cx)(ifs:AO)(t:TT):Prop:=
 ∀ (pins:AB) (s:AZ) (σ:St) (H:Hp) (Q:Bool->Hp->Prop),Inv X pins σ H s->t σ H Q->
  Af X (forIn ifs true λc r=>if r=true then do let ok <- isTrue c X.env (eval c X.env);pure (ForInStep.yield ok) else pure (ForInStep.yield r)) (TP X pins σ Q) X.xe s
def zbk:TT:=λ_ H Q=>Q true H
def zpc:PTs X [] zbk:=λpins s σ H Q I h=>wpAny_tests_nil ⟨H,I,h⟩
def zpd(h:PT X c t):PTs X [c] t:=λpins s σ H Q I q=>wpAny_tests_one (h pins s σ H Q I q)
def zvr (wi:TI)(g:TG)(ti:TT)(te:TE)(cix:List (Option Nat)):TE:=λσ H Q=>wi σ H λJ H1=>∀acc,H1 acc=none->∃W:Nat->Nat->St->Hp->Prop,(∃m,W 0 m (zaF σ cix) (upd H1 acc (.lst [])))/\
 ∀i m B H',W i m B H'->(J.stop i H'/\Q (.ref acc) H')\/(J.go i H'/\∃N:St->Hp->Prop,(∀ F H2,N F H2->∃I,I<m/\W (i+1) I F H2)/\
  ∀x H2,J.yld i H' x H2->g x B H2 λq H3=>ti q H3 λL H4=>if L=true then te q H4 λv H5=>∃xs,H5 acc=some (.lst xs)/\xs.length<sizeLine/\N q (upd H5 acc (.lst (xs++[v]))) else N q H4)
def zhs (g:TG)(ti:TT)(te:TE)(acc:Addr)(N:St->Hp->Prop)(x:V)(σ:St)(H:Hp):Prop:=
 g x σ H λq H3=>ti q H3 λB H4=>if B=true then te q H4 λv H5=>∃xs,H5 acc=some (.lst xs)/\xs.length<sizeLine/\N q (upd H5 acc (.lst (xs++[v]))) else N q H4
def zmA (M:Model)(A:Ae)(e:Expr)(k:Nat)(tg:Expr)(ifs:AO)(it acc:Value)(env:Env)(B:(AZ->Prop)->AZ->Prop):Prop:=
 ∀ (R:Result->AZ->Prop) (s:AZ) (I:Nat->AZ->Prop),(∀n s,I n s->wpAny M A (pyNext it) (λr s₁=>match r with
   | none=>R (.ok .next) s₁
   | some v=>wpAny M A (letOwnedTupleGo tg it v) (λ_ s₂=>wpAny M A (assign tg env v) (λ_ s₃=>
     wpAny M A (forIn ifs true λc r=>if r=true then do let ok <- isTrue c env (eval c env);pure (ForInStep.yield ok) else pure (ForInStep.yield r)) (λok s₄=>
      if ok=true then B (λs'=>∃m,m<n/\I m s') s₄ else ∃m,m<n/\I m s₄) (λ_ _=>False) s₃) (λ_ _=>False) s₂) (λ_ _=>False) s₁) (λ_ _=>False) s)->
  ∀n,I n s->codeAny M A (.compLoop e k it acc env) R s
def ze6{X:Cx}{ifs:AO}{it acc:Addr}{fp:AY}{tn:Nat->Heap->Prop}{J:It}{g:TG}{ti:TT}{tb:(St->Hp->Prop)->St->Hp->Prop}{B:(AZ->Prop)->AZ->Prop}{pl:AB}{Fin:St->Hp->Prop}{R:Result->AZ->Prop}{W:Nat->Nat->St->Hp->Prop}{σ0:St}{H0:Hp}{s0:AZ}(L:zmA (model X.prog X.w) X.A e k tg ifs (.ref it) (.ref acc) X.env B)(hc:X.calm=true)(xX:X.xe=λ_ _=>False)(T:Turn X.prog X.w X.K tg J fp it tn)(f4:∀ {H':Hp},(∀b∈fp,H' b=none)->∀b∈fp,zer X pl H' b)(hg:PG X tg g)(ht:PTs X ifs ti)(I:∀pl' s σ H (Nx:St->Hp->Prop) (P:AZ->Prop),Inv X (pl++pl') σ H s->tb Nx σ H->(∀ q H' s',Inv X (pl++pl') q H' s'->Nx q H'->P s')->B P s)(Y:∀i n σ H,W i n σ H->(J.stop i H/\Fin σ H)\/(J.go i H/\∃Nx:St->Hp->Prop,(∀ q H',Nx q H'->∃m,m<n/\W (i+1) m q H')/\∀x H',J.yld i H x H'->g x σ H' λO H2=>ti O H2 λb H3=>if b=true then tb Nx O H3 else Nx O H3))(fin:∀ σ H s,Inv X pl σ H s->Fin σ H->R (.ok .next) s)(I0:Inv X pl σ0 H0 s0)(an:tn 0 s0.heap)(ap:∀b∈fp,H0 b=none)(w0:W 0 m0 σ0 H0) :
  codeAny (model X.prog X.w) X.A (.compLoop e k (.ref it) (.ref acc) X.env) R s0:=by
 show L R s0 (λn s'=>∃i q H',Inv X pl q H' s'/\tn i s'.heap/\(∀b∈fp,H' b=none)/\W i n q H') ?_ m0 ⟨0,σ0,H0,I0,an,ap,w0⟩;rintro n s5 ⟨i,F,H5,I5,Z,ad,w5⟩;rcases Y i n F H5 w5 with ⟨stop,qn⟩ | ⟨go,Nx,hN,step⟩
 ·show thn (T.done X rfl rfl rfl hc i pl s5 F H5 (λ_ _=>False) I5 (f4 ad) Z stop) ?_;rintro r s6 ⟨hr,I6⟩;subst hr;exact fin F H5 s6 I6 qn
 show thn (T.item X rfl rfl rfl hc i pl s5 F H5 (λ_ _=>False) I5 (f4 ad) Z go) ?_;rintro r s6 ⟨u,hr,h6⟩;subst hr;show thn h6 ?_;rintro _ s7 ⟨x,H7,I7,r7,y7,U,as⟩;have I7':=I7.pinned (f4 as) (T.obj _ _ U);have a7:=hg _ s7 F H7 x u _ I7' r7 (step x H7 y7);rw[xX] at a7;show thn a7 ?_;rintro _ s8 ⟨al,H8,I8,q8⟩;have t8:=ht _ s8 al H8 _ I8 q8;rw[xX] at t8;show thn t8 ?_;rintro ok s9 ⟨H9,I9,q9⟩
 have ag:∀ q H' s',Inv X (pl++zfi fp s7.heap) q H' s'->Nx q H'->∃m,m<n/\∃i q H',Inv X pl q H' s'/\tn i s'.heap/\(∀b∈fp,H' b=none)/\W i m q H':=λq H' s' J' n'=>by
  obtain⟨m',hm,w'⟩:=hN q H' n'
  have pn:∀b∈fp,∀o,s7.heap.get? b=some o->s'.heap.get? b=some o/\H' b=none:=λb I o e=>by
   have:=J'.pin (b,o) (aU _ (aU _ (zaj I e)));right
  show⟨m',hm,i+1,q,H',J'.unpinned,T.keep _ _ _ U λb I o e=>(pn b I o e).1,λb I=>?_,w'⟩;obtain⟨o,e,_⟩:=T.obj _ _ U b I;right
 cases ok with
 | false=>exact ag _ _ _ I9 q9
 | true=>exact I _ s9 al H9 _ _ I9 q9 ag
structure Inn (X X':Cx)(pins:AB)(σ:St)(fp:AY)(C:Addr):Prop where
 pX:X'.prog=X.prog
 wX:X'.w=X.w
 KX:X'.K=X.K
 AX:X'.A=X.A
 cX:X'.calm=X.calm
 xX:X'.xe=λ_ _=>False
 lX:X'.env.locals=C
 f4:∀ {H':Hp},(∀b∈fp,H' b=none)->∀b∈fp,zer X' [] H' b
 back:∀ {σ':St} {H':Hp} {s':AZ} {h'':Heap},Inv X' [] σ' H' s'->Heap.SameBut C s'.heap h''->Inv X pins σ H' { s' with heap:=h'' }
structure Opn (X:Cx)(scope:Scope)(cix:List (Option Nat))(Fam:Cx->Prop):Prop where
 kind:scope.kind = .function
 names:∀x∈scope.names,x.2 = .local->scope.names.lookup x.1=some .local
 cells:X.Ok->∀x∈scope.names,x.2 = .free->∃a,X.env.cells.lookup x.1=some a
 run:∀ (pins:AB) (σ:St) (H3:Hp) (s3:AZ) (fp:AY) (Q:Env->AZ->Prop),Inv X pins σ H3 s3->(∀b∈fp,zer X pins H3 b)->(∀b∈fp,b<s3.heap.objs.size)->
  (∀X' cenv s4,Fam X'->Inn X X' pins σ fp s3.heap.objs.size->cenv.locals=s3.heap.objs.size->X'.env={ cenv with scope:=relabel scope X.env }->Inv X' [] (zaF σ cix) H3 s4->(∀b o,s3.heap.get? b=some o->s4.heap.get? b=some o)->Q cenv s4)->
  Af X (newFunctionEnv scope X.env.globals (zho X.env scope.names []) [] X.env.qual none .none (some X.env)) Q X.xe s3
def zaG{X:Cx}{Fam:Cx->Prop}{scope:Scope}{cix:List (Option Nat)}{use:Option (Value->Sem Unit)}{Qp:AA}{ifs:AO}{pos:Pos}{L:Sem Value}{o0:Addr->HO}{B:Cx->Addr->(AZ->Prop)->AZ->Prop}{tb:Addr->(St->Hp->Prop)->St->Hp->Prop}{Fin:Addr->Hp->Prop}{wi:TI}{g:TG}{ti:TT}{Kk:It->Hp->Prop}{pins:AB}{σ:St}{H:Hp}{s:AZ}(O:Opn X scope cix Fam)(hc:X.calm=true)(a4:clausesOf e=⟨tg,iter,ifs,0⟩::gs)(hs:∀x,foldedSetIterable iter X.env x=pure x)(a5:∀ (R:Result->AZ->Prop) (s:AZ) (it acc:Value) (env:Env),codeAny (model X.prog X.w) X.A (.compLoop e 0 it acc env) R s->Af X (pyIter it) (λa7 s'=>codeAny (model X.prog X.w) X.A (.compLoop e 0 a7 acc env) R s') (notedBy (model X.prog X.w) X.A env λx s'=>R (.error x) s') s->codeAny (model X.prog X.w) X.A (.compStart e 0 it acc env) R s)(hL:∀X',Fam X'->∀it acc,zmA (model X'.prog X'.w) X'.A e 0 tg ifs it (.ref acc) X'.env (B X' acc))(an:∀ (s:AZ) (Q:AA),Q (.ref s.heap.objs.size) { s with heap:=s.heap.push ob }->Af X L Q X.xe s)(bb:∀ {pins σ H s},Inv X pins σ H s->∀H',yi X.prog X.w H' (s.heap.push ob) s.heap.objs.size (o0 s.heap.objs.size))(hi:PI X tg iter wi)(hg:∀X',Fam X'->PG X' tg g)(ht:∀X',Fam X'->PTs X' ifs ti)(U:∀X',Fam X'->X'.prog=X.prog->X'.w=X.w->X'.A=X.A->X'.calm=true->X'.xe=(λ_ _=>False)->∀acc pl s σ H (Nx:St->Hp->Prop) (P:AZ->Prop),Inv X' pl σ H s->tb acc Nx σ H->(∀ Y H' s',Inv X' pl Y H' s'->Nx Y H'->P s')->B X' acc P s)(I:Inv X pins σ H s)(h:wi σ H Kk)(hK:∀J H1 acc,Kk J H1->H1 acc=none->∃W:Nat->Nat->St->Hp->Prop,(∃m,W 0 m (zaF σ cix) (upd H1 acc (o0 acc)))/\∀i n σ H,W i n σ H->(J.stop i H/\Fin acc H)\/(J.go i H/\∃Nx:St->Hp->Prop,(∀ Y H',Nx Y H'->∃m,m<n/\W (i+1) m Y H')/\∀x H',J.yld i H x H'->g x σ H' λad H2=>ti ad H2 λb H3=>if b=true then tb acc Nx ad H3 else Nx ad H3))(ap:∀acc C H5 s6,zer X pins H5 C->(∃m,s6.heap.Ns C m)->(∀ag,Heap.SameBut C s6.heap ag->Inv X pins σ H5 { s6 with heap:=ag })->Fin acc H5->compPost (model X.prog X.w) X.A X.xe use Qp (.ref acc) C (.ok .next) s6) :
  Af X (comprehension e scope X.env pos L false (eval iter X.env) use) Qp X.xe s:=by
 show wpAny_comprehension_free (use:=use) a4 hs (zhp (O.cells I.ok)) O.kind O.names (thn (hi pins s σ H _ I h) λxv s1 h1=>thn h1 λbl F h2=>?_);obtain⟨it,fp,tn,J,H2,e,I2,T,as,f2,q2⟩:=h2;subst e;show an F _ ?_;have al:=I2.hok.fresh (ai F.heap.objs.size);obtain⟨W,⟨m0,w0⟩,av⟩:=hK J H2 F.heap.objs.size q2 al;have a0:∀b o,F.heap.get? b=some o->(F.heap.push ob).get? b=some o:=λb u e=>af _ e;have I3:Inv X pins σ (upd H2 F.heap.objs.size (o0 F.heap.objs.size)) { F with heap:=F.heap.push ob,toks:=F.toks }:=I2.laid (t':=F.toks) a0 (ai _) (bb I2 _);have a1:∀b∈fp,b<F.heap.objs.size:=λb U=>by obtain⟨o,ho,_⟩:=T.obj _ _ as b U;exact au ho
 have fn:∀b∈fp,upd H2 F.heap.objs.size (o0 F.heap.objs.size) b=none:=λb U=>by rw[zd (aL (a1 b U))];exact (f2 b U).1
 show O.run pins σ _ _ fp _ I3 (λb U=>⟨fn b U,(f2 b U).2⟩) (λb U=>Nat.lt_trans (a1 b U) (by simp)) λX' bk s4 hF N hl hE I4 kp=>?_;rw[<- hE,hl];have a2:tn 0 s4.heap:=T.keep _ _ _ as λb U o e=>kp b o (a0 b o e);have cX:=N.cX.trans hc;have Z:=ze6 (X:=X') (R:=compPost (model X.prog X.w) X.A X.xe use Qp (.ref F.heap.objs.size) (F.heap.push ob).objs.size) (Fin:=λ_ H=>Fin F.heap.objs.size H) (pl:=[]) (hL X' hF (.ref it) F.heap.objs.size) cX N.xX (by rw[N.pX,N.wX,N.KX];exact T) N.f4 (hg X' hF) (ht X' hF) (U X' hF N.pX N.wX N.AX cX N.xX F.heap.objs.size) av (λbo H5 s6 I6 q=>?_) I4 a2 fn w0;rw[N.pX,N.wX,N.AX] at Z;exact a5 _ _ _ _ _ Z (T.self X.A 0 _ _ _ a2 Z);have bd:H5 (F.heap.push ob).objs.size=none:=by have:=I6.free;rwa[N.lX] at this
 obtain⟨m6,a3,_⟩:=I6.loc;rw[N.lX] at a3;exact ap _ _ H5 s6 (I3.fpOk (ai _) bd) ⟨m6,a3⟩ (λag hs=>N.back I6 hs) q
section
variable {X:Cx}{scope:Scope}{N:AM}{cix:List (Option Nat)}{z:Str}
def uj (c:CompOk X scope N cix):Opn X scope cix (λX'=>∃C s H ex,X'=zt X scope N C s H ex) where
 kind:=c.kind
 names:=c.names
 cells:=c.cells
 run:=λpins σ H3 O fp Q I3 B F k=>by
  show wpAny_newFunctionEnv c.cell (by simp) (λY J L=>?_) c.kind;have U:∀b o,O.heap.get? b=some o->Y.get? b=some o:=λb o e=>L.extBut b o (aL (au e)) (af _ e);show k (zt X scope N O.heap.objs.size O H3 fp) _ _ ⟨_,_,_,_,rfl⟩ ⟨rfl,rfl,rfl,rfl,rfl,rfl,rfl,λ{H'} Z b q=>⟨Z b q,aL (F b q),λy=>?_,.inl q,λx a e=>?_,λp hp=>?_⟩,λI' hs=>zhA I3 B I' hs⟩ rfl rfl (zld I3 c B F J U) U;rcases aE.mp (I3.stkSub b y) with e | e;exact (B b q).2.1 e;exact (B b q).2.2.1 e;rcases zbT (c.cells I3.ok) e with y | y;exact (B b q).2.2.2.2.1 x a y;simp at y;exact absurd (show p∈([]:AB)++[] from hp) (by simp)
def zdF {pins:AB}{σ:St}{Q:VK}{acc C:Addr}{H5:Hp}{F:AZ}(J:∃m,F.heap.Ns C m)(L:∀B,Heap.SameBut C F.heap B->Inv X pins σ H5 { F with heap:=B })(q:Q (.ref acc) H5):compPost (model X.prog X.w) X.A X.xe none (EP X pins σ Q) (.ref acc) C (.ok .next) F:=
 let ⟨m,hn⟩:=J;⟨m,hn,λO I=>⟨.ref acc,H5,L O I,rfl,q⟩⟩
def zdo{pos spos px:Pos}{nx:Str}{B first:Sem Value}{D:Ends}{pins:AB}{σ:St}{s:AZ}(O:X.N.Nodup)(Y:X.N[ix]?=some nx)(J:X.env.scope.names.lookup nx=some .local)(Z:swapsWithSole [.Name nx px] e spos.line X.env=pure true)(ad:(assignEach [.Name nx px] X.env).map (·.2)=[assign (.Name nx px) X.env])(ag:∀U,evalThenUse e X.env U=comprehension e scope X.env pos B false first (some U) >>= λ_=>pure ())(h:∀ (U:Value->Sem Unit) (Qp:AA),(∀acc C H5 I,zer X pins H5 C->(∃m,I.heap.Ns C m)->(∀L,Heap.SameBut C I.heap L->Inv X pins σ H5 { I with heap:=L })->D.nx (σ.set ix (some (.ref acc))) H5->compPost (model X.prog X.w) X.A X.xe (some U) Qp (.ref acc) C (.ok .next) I)->Af X (comprehension e scope X.env pos B false first (some U)) Qp X.xe s) :
  Af X (exec (.Assign [.Name nx px] e spos) X.env) (SP X pins D) X.xe s:=by
 rw[exec_Assign_arm];show aa (bK ?_);rw[Z];show aa (ae ?_);rw[if_pos rfl];show aa ?_;rw[ag];show aa ?_;show h _ _ λacc C H5 I F hm al q=>?_;have IX:=al _ ⟨rfl,λ_ _=>rfl⟩;change wpAny _ _ (assignAll _ ((assignEach [.Name nx px] X.env).map (·.2))) _ _ I;rw[ad];show wpAny_assign_Name (x:=nx) (pos:=px) ?_;show zft IX O Y (Or.inl J) (v:=.ref acc) rfl (λs7 I7 ⟨a7,an,ap⟩=>?_) (.inr J)
 have as:C≠a7:=by
  intro z;rcases ap with e | e;exact F.2.1 (z.trans e);exact F.2.2.2.2.1 nx a7 e z.symm
 obtain⟨m6,oC,av,a0,a1,rC⟩:=hm;show⟨m6,⟨oC,av,a0,(an.2 _ as).trans a1,rC⟩,λh8 a2=>ae (ae ?_)⟩;exact⟨_,H5,I7.turned (t':=s7.toks) (λb o hb e=>(a2.2 b hb).trans e) F.1 F.2.1 F.2.2.2.1 F.2.2.2.2.1 F.2.2.2.2.2,q⟩
variable {Fam:Cx->Prop}{use:Option (Value->Sem Unit)}{Qp:AA}{elt tg iter:Expr}{ifs:AO}{pos ipos spos px:Pos}{wi:TI}{g:TG}{ti:TT}{te:TE}{pins:AB}{σ:St}{H:Hp}{s:AZ}{Fin:Addr->Hp->Prop}
def zgw {P:AZ->Prop}{acc:Addr}{Nx:St->Hp->Prop}(he:PE X elt te)(Z:X.xe=λ_ _=>False)(I:Inv X pins σ H s)(q:te σ H λv H'=>∃xs,H' acc=some (.lst xs)/\xs.length<sizeLine/\Nx σ (upd H' acc (.lst (xs++[v]))))(k:∀ B H' s',Inv X pins B H' s'->Nx B H'->P s') :
  Af X (eval elt X.env) (λx s5=>Af X (call (.builtin "list.append") [.ref acc,x]) (λ_ s6=>P s6) (λ_ _=>False) s5) (λ_ _=>False) s:=by
 have e9:=he pins s σ H _ I q;rw[Z] at e9;show thn e9 ?_;rintro u2 J ⟨v,H10,I10,L,xs,O,U,nx⟩;have F:=ze8 (X:=X) _ J σ H10 (.ref acc) [v] (.ref acc) [u2] (λ_ H'=>Nx σ H') I10 rfl (.cons L .nil) ⟨_,xs,v,rfl,rfl,O,U,nx⟩;rw[Z] at F;show thn F (by rintro _ ad ⟨_,H11,I11,_,Y⟩;exact k _ _ _ I11 Y)
def ze4 (O:Opn X scope cix Fam)(hc:X.calm=true)(hi:PI X tg iter wi)(hg:∀X',Fam X'->PG X' tg g)(ht:∀X',Fam X'->PTs X' ifs ti)(he:∀X',Fam X'->PE X' elt te)(hs:∀x,foldedSetIterable iter X.env x=pure x)(I:Inv X pins σ H s)
  (h:wi σ H λJ H1=>∀acc,H1 acc=none->∃W:Nat->Nat->St->Hp->Prop,(∃m,W 0 m (zaF σ cix) (upd H1 acc (.lst [])))/\∀i n σ H,W i n σ H->(J.stop i H/\Fin acc H)\/(J.go i H/\∃Nx:St->Hp->Prop,(∀ L H',Nx L H'->∃m,m<n/\W (i+1) m L H')/\∀x H',J.yld i H x H'->zhs g ti te acc Nx x σ H'))
  (U:∀acc C H5 F,zer X pins H5 C->(∃m,F.heap.Ns C m)->(∀Y,Heap.SameBut C F.heap Y->Inv X pins σ H5 { F with heap:=Y })->Fin acc H5->compPost (model X.prog X.w) X.A X.xe use Qp (.ref acc) C (.ok .next) F) :
  Af X (comprehension (.ListComp elt [⟨tg,iter,ifs,0⟩] scope pos) scope X.env ipos (newList []) false (eval iter X.env) use) Qp X.xe s:=
 zaG (ob:={ cls:=.type "list",dict:=none,data:=.seq ([]:AN).toArray }) (o0:=λ_=>.lst []) (B:=λX' acc P s=>wpAny (model X'.prog X'.w) X'.A (eval elt X'.env) (λx s5=>wpAny (model X'.prog X'.w) X'.A (call (.builtin "list.append") [.ref acc,x]) (λ_ F=>P F) (λ_ _=>False) s5) (λ_ _=>False) s) (tb:=λacc Nx σ H=>te σ H λv H'=>∃xs,H' acc=some (.lst xs)/\xs.length<sizeLine/\Nx σ (upd H' acc (.lst (xs++[v])))) O hc rfl hs (λ_ _ _ _ _ h0 h1=>codeAny_compStart_list h0 h1) (λ_ _ _ _ _ _ I Z n h=>zdz I Z n h) (λs Q h=>bh h) (λ_ _=>⟨aK _,[],0,.nil,aq _ rfl⟩) hi hg ht (λX' hF _ _ _ _ xX _ _ _ _ _ _ _ I q k=>zgw (he X' hF) xX I q k) I h (λJ H1 acc q hn=>q acc hn) U
end
section
variable {X:Cx}{scope:Scope}{N:AM}{z:Str}
def zbK {P:Cx->Prop}(h:∀C s H ex,P (zt X scope N C s H ex)):∀X',(∃C s H ex,X'=zt X scope N C s H ex)->P X':=by right
abbrev ztO (X:Cx)(pins:AB)(σ:St)(use:Option (Value->Sem Unit))(Qp:AA)(Q:VK):Prop:=∀acc C H5 B,zer X pins H5 C->(∃m,B.heap.Ns C m)->(∀q,Heap.SameBut C B.heap q->Inv X pins σ H5 { B with heap:=q })->Q (.ref acc) H5->compPost (model X.prog X.w) X.A X.xe use Qp (.ref acc) C (.ok .next) B
end
structure Dfn (K:AH)(mg:AI)(x:Str)(st:Stmt)(ps:AM)(f:Addr)(fd:Ac):Prop where
 F:Fun K x x st f fd
 b:zdh K fd ps []
 m:mg x=some (.ref f)
section
variable {X:Cx}
def zu4{x:Str}{st:Stmt}{ps:AM}{f:Addr}{fd:Ac}{sp:Sp}{es:AO}{p pos:Pos}(D:Dfn X.K X.mg x st ps f fd)(G:FnOk X.prog X.w X.K X.mg X.base CX0 j f fd ps sp)(J:Room k X.A)(L:PA X (e::es) t)(q:j<=k:=by ext)(O:Gl X x:=by rfl)(B:Ah x:=by ext)(U:starEach (e::es) X.env=(false,eval e X.env)::starEach es X.env:=by rfl)(I:(backTo pos (starEach es X.env)).any (·.1)=false:=by rfl) :
  PE X (.Call (.Name x p) (e::es) [] pos) (zfv sp [] E0 t):=
 zjO G (J.mono q) O D.m D.F.kp D.b .nil zrI L B U I
def zj3 {q:List Bool}:((List.range q.length).all λi=>q.getD i true)=q.all id:=by
 rw[cH,bn,bn];constructor;intro h b F;obtain⟨i,hi,e⟩:=bB.mp F;right;intro h i hi;have B:=aW.mp hi;have:=h q[i] (bL B);right
def zkP (Z:X.calm=true):zcH X (.builtin "all") (λxs H Q=>∃ (p:Addr) (B:List Bool),xs=[.ref p]/\H p=some (.lst (B.map V.bl))/\Q (.bl (B.all id)) H):=by
 intro pins s σ H xs us Q I r h;obtain⟨p,B,rfl,hp,q⟩:=h;obtain⟨u,rfl,ru⟩:=zaD r;cases ru;obtain⟨its,U,pl,hz⟩:=I.list (.of hp);have F:=U.length;rw[ab] at F;have W:Walks X.prog X.w X.A.in1 s.heap.objs.size [s.heap.objs.size,p] [s.heap.objs.size] its.toArray.size (λi v=>its.toArray[i]?=some v) (λi h=>h.IsListIter s.heap.objs.size p i/\h.IsList p its.toArray):=by show Walks.list (A:=X.A.in1) (I.ok.hd Z) s.heap.objs.size p ?_ its.toArray;obtain⟨o,_,ho,_⟩:=pl;exact aL (au ho)
 show call_all_walk (c8 pl.isList ⟨s.heap.objs.size,_,_,_,_,_,λi=>B.getD i true,rfl,W,⟨?_,?_⟩,?_,?_⟩);exact⟨_,aq _ rfl,rfl,rfl⟩;exact pl.isList.at λo e=>af _ e;intro i v s' Q' E' hP L;have O:its[i]?=some v:=by simpa using hP
 have hi:i<B.length:=by grind
 have hb:(B.map V.bl)[i]?=some (V.bl B[i]):=by simp[hi]
 obtain⟨u',J,rb⟩:=U.get hb;rw[O] at J;cases J;cases rb;have:B.getD i true=B[i]:=by simp[hi]
 dsimp only at L;rw[this] at L;exact bZ L;intro h' tk hk;have e:(List.range its.toArray.size).all (λi=>B.getD i true)=B.all id:=by rw[aV,<- F];exact zj3
 rw[e];exact⟨.bl _,H,I.kept (t':=tk) λb o Y=>hk b o (by simp;exact aL (au Y)) (af _ Y),rfl,q⟩
end
structure QE (X:Cx)(e:Expr)(t:TE):Prop where
 run:PE X e t
structure QT (X:Cx)(e:Expr)(t:TT):Prop where
 run:PT X e t
structure QW (X:Cx)(e:Expr)(t:TT):Prop where
 run:PW X e t
structure QC (X:Cx)(op:CmpOp)(a b:Expr)(t:TE):Prop where
 run:PC X op a b t
structure QA (X:Cx)(es:AO)(t:TA):Prop where
 run:PA X es t
structure QS (X:Cx)(s:Stmt)(t:TS):Prop where
 run:PS X s t
structure QSs (X:Cx)(s:List Stmt)(t:TS):Prop where
 run:PSs X s t
structure QG (X:Cx)(e:Expr)(t:TG):Prop where
 run:PG X e t
structure QGs (X:Cx)(es:AO)(t:TGs):Prop where
 run:PGs X es t
structure QI (X:Cx)(tg e:Expr)(t:TI):Prop where
 run:PI X tg e t
structure QO (X:Cx)(e:Option Expr)(t:TO):Prop where
 run:PO X e t
structure QP (X:Cx)(pos:Pos)(ks:List (Option Expr))(vs:AO)(t:List (TE×TE)):Prop where
 run:PPs X pos ks vs t
structure QTs (X:Cx)(es:AO)(t:TT):Prop where
 run:PTs X es t
structure OpQ (X:Cx)(f:Value->Value->Sem Value)(r:R2):Prop where
 run:OpR X f r
structure CallQ (X:Cx)(f:Value)(r:AT->Hp->VK->Prop):Prop where
 run:zcH X f r
structure IxQ (X:Cx)(r:R2):Prop where
 run:IxR X r
structure SlQ (X:Cx)(r:V->AQ->AQ->Hp->VK->Prop):Prop where
 run:SlR X r
section
variable {X:Cx}{e a b c:Expr}{es:AO}{te ta tb tc:TE}{t u:TT}{pos p:Pos}
def qv(i:Nat)(B:X.N[i]?=some x:=by rfl)(F:Vis X.env.scope x:=by walk_at "v")(I:Ah x:=by ext)(q:(x==("__classdict__" : Str))=false:=by ext):QE X (.Name x pos) (zkG i):=⟨zrQ B F I q⟩
def yu{i:Int}:QE X (.Constant (.int i) j pos) (tC (.int i)):=⟨zm9⟩
def zvc:QE X (.Constant (.bool k) j pos) (tC (.bl k)):=⟨zu3⟩
def xL:QE X (.Constant (.str x) j pos) (tC (.str x)):=⟨zrP⟩
def zpf(q:Gl X x)(B:X.mg x=none)(F:bootBuiltins x=some w)(r:yF v w)(I:x ≠ "__name__" := by ext)(J:Ah x:=by ext):QE X (.Name x pos) (tC v):=⟨zoP q B F r I J⟩
def yS:OpQ X (binaryOp .Add) (rI0 λi j=>.int (i+j)):=⟨zrs⟩
def zm8:OpQ X (binaryOp .Sub) (rI0 λi j=>.int (i - j)):=⟨zrA⟩
def zch:OpQ X (binaryOp .Mult) (rI ztl λi j=>.int (i * j)):=⟨zrw⟩
def zd0:OpQ X (binaryOp .FloorDiv) (rI zqc λi j=>.int (i / j)):=⟨zoM⟩
def za0:OpQ X (binaryOp .Mod) (rI (λ_ j=>0<j) λi j=>.int (i % j)):=⟨zrv⟩
def zjN:OpQ X (binaryOp .Pow) (rI CPow λi j=>.int (i ^ j.toNat)):=⟨zry⟩
def xK:OpQ X (binaryOp .Add) (zjZ X.K):=⟨zoK⟩
def zrB:OpQ X (binaryOp .Add) rCat:=⟨zrt⟩
def zm7:OpQ X (binaryOp .Mult) ztK:=⟨zrz⟩
def zgf:OpQ X (compareOp .Lt) (rI0 λi j=>.bl (decide (i<j))):=⟨zu0⟩
def zrE:OpQ X (compareOp .LtE) (rI0 λi j=>.bl (decide (i<=j))):=⟨zuZ⟩
def zlK:OpQ X (compareOp .Gt) (rI0 λi j=>.bl (decide (j<i))):=⟨zuY⟩
def zu2:OpQ X (compareOp .GtE) (rI0 λi j=>.bl (decide (j<=i))):=⟨zuX⟩
def xP:OpQ X (compareOp .Eq) rEq:=⟨zuW⟩
def zd1:OpQ X (compareOp .NotEq) rNe:=⟨zu1⟩
def zff:OpQ X (compareOp .NotIn) (rIn X.K true):=⟨zfe⟩
def yW(B:OpQ X (binaryOp q) r)(F:QE X a ta)(I:QE X b tb):QE X (.BinOp a q b pos) (tOp r ta tb):=⟨zu6 B.run F.run I.run⟩
def zph(B:OpQ X (compareOp q) r)(F:QE X a ta)(I:QE X b tb)(J:behindInMarks q b=false):QE X (.Compare a [q] [b] pos) (tOp r ta tb):=⟨zoQ B.run F.run I.run J⟩
def zcm(B:OpQ X (compareOp q) r)(F:QE X a ta)(I:QE X b tb)(J:behindInMarks q b=false):QT X (.Compare a [q] [b] pos) (zpZ (tOp r ta tb)):=⟨zpb B.run F.run I.run J⟩
def zr9(q:QE X a ta):QC X .Is a (.Constant .none j pos') (zvs ta):=⟨zrJ q.run⟩
def zsi(h:QC X q a b te)(h1:behindInMarks q b=false:=by first | exact zg2 _ (by ext) (by ext) | rfl):QT X (.Compare a [q] [b] pos) (tB te):=⟨zr4 h.run h1⟩
def zsk (h:QE X e te)(he:∀whole,isTrue e X.env whole=(do let v <- whole;standAt e.pos;holding [v] (truthy v)):=by intro _;rfl):QT X e (tB te):=⟨zr6 h.run he⟩
def zl9 (h:QE X e te)(he:∀whole,isTrue e X.env whole=(do let v <- whole;standAt e.pos;holding [v] (truthy v)):=by intro _;rfl):QT X e (λσ H Q=>te σ H λx H'=>∃k,ztW X.K x H' k/\Q k H'):=⟨zlZ h.run he⟩
def zsj (h:QT X a t):QT X (.UnaryOp .Not a pos) (tNot t):=⟨zr5 h.run⟩
def zjY (h:QT X a t):QW X (.BoolOp .And [a] pos) t:=⟨zpe h.run⟩
def zsl (h:QT X a t):QW X (.BoolOp .Or [a] pos) t:=⟨zr8 h.run⟩
def znc {zQ:AO}(h:QT X a t)(h':QW X (.BoolOp .And (b::zQ) pos) u):QW X (.BoolOp .And (a::b::zQ) pos) (zvp t u):=⟨zr7 h.run h'.run⟩
def zvd {zQ:AO}(h:QT X a t)(h':QW X (.BoolOp .Or (b::zQ) pos) u):QW X (.BoolOp .Or (a::b::zQ) pos) (tOr t u):=⟨zvb h.run h'.run⟩
def QW.pt (h:QW X e t):QT X e t:=⟨h.run.pt⟩
def zsf(h:QE X a ta):QE X (.BoolOp q [a] pos) ta:=⟨zrO h.run⟩
def zsa {zQ:AO}(q:QE X a ta)(B:QE X (.BoolOp .And (b::zQ) pos) tb):QE X (.BoolOp .And (a::b::zQ) pos) (zsJ ta tb):=⟨zrK q.run B.run⟩
def zse (q:QE X a ta):QE X (.UnaryOp .Not a pos) (zsP ta):=⟨zrN q.run⟩
def zl3 (q:QT X c t)(B:QE X a ta)(F:QE X b tb):QE X (.IfExp c a b pos) (tIf t ta tb):=⟨zlQ q.run B.run F.run⟩
def yk:QA X [] znq:=⟨zrG⟩
def zG(B:QE X e te)(F:QA X es q)(hs:starEach (e::es) X.env=(false,eval e X.env)::starEach es X.env:=by rfl):QA X (e::es) (zcB te q):=⟨zoO B.run F.run hs⟩
def zpu:QP X pos [] [] []:=⟨zo4⟩
def zd7(B:QE X k tk)(F:QE X v tv)(I:QP X pos ks vs q):QP X pos (some k::ks) (v::vs) ((tk,tv)::q):=⟨zlW B.run F.run I.run⟩
def zpj(h:QP X pos q B F)(I:q.all (·.isSome)=true)(L:q.length=B.length)(O:q≠[])(J:q.length<=15):QE X (.Dict q B pos) (zsM F):=⟨zoS h.run I L O J⟩
def zjV:QO X none zkl:=⟨zo2⟩
def zjW (h:QE X e te):QO X (some e) (zsQ te):=⟨zo3 h.run⟩
def zpT:SlQ X rSlA:=⟨zpQ⟩
def zki:SlQ X (rSlL X.K):=⟨zpP⟩
def zd5{r:V->AQ->AQ->Hp->VK->Prop}{lo hi:Option Expr}{tl th:TO}(q:SlQ X r)(B:QE X e te)(F:QO X lo tl)(I:QO X hi th):QE X (.Subscript e (.Slice lo hi none p2) pos) (tSl r te tl th):=⟨zlR q.run B.run F.run I.run⟩
def x9:IxQ X (ztI X.K):=⟨zoh⟩
def yo:IxQ X (zsm X.K):=⟨zq4⟩
def zpk(q:IxQ X r)(B:QE X a ta)(F:QE X b tb)(hs:zfD b):QE X (.Subscript a b pos) (tOp r ta tb):=⟨zu5 q.run B.run F.run hs⟩
def x6 (q:X.A.units+1<cLine)(B:QE X a ta)(F:QE X b tb)(hs:zqj b):QE X (.Subscript a b pos) (zsK ta tb):=⟨zoR q B.run F.run hs⟩
def yQ:CallQ X (.builtin "len") (λxs H Q=>∃x n,xs=[x]/\zqh X.K x H n/\Q (.int n) H):=⟨zkQ⟩
def zii:CallQ X (.builtin "abs") (λxs H Q=>∃i,xs=[.int i]/\Q (.int (if i<0 then -i else i)) H):=⟨zkO⟩
def zik (q:X.calm=true):CallQ X (.builtin "max") (λxs H Q=>∃i j,xs=[.int i,.int j]/\Q (.int (if j > i then j else i)) H):=⟨zib q⟩
def zij:CallQ X (.builtin "isinstance") (λxs H Q=>∃x T t b,xs=[x,.ty T]/\TyOf X.K H x t/\PySem.W.kitOne X.K t (.type T)=some b/\Q (.bl b) H):=⟨zfH⟩
def zgD (B:X.calm=true):CallQ X (.builtin "all") (λxs H Q=>∃ (p:Addr) (q:List Bool),xs=[.ref p]/\H p=some (.lst (q.map V.bl))/\Q (.bl (q.all id)) H):=⟨zkP B⟩
def zht:CallQ X (.type "list") (λxs H Q=>∃p ys,xs=[.ref p]/\(SqL X.K H p ys\/SqT X.K H p ys)/\∀l,H l=none->Q (.ref l) (upd H l (.lst ys))):=⟨zeF⟩
def zfK:CallQ X (.type "tuple") (λxs H Q=>∃p ys,xs=[.ref p]/\((SqL X.K H p ys/\∀l,H l=none->Q (.ref l) (upd H l (.tup ys)))\/(SqT X.K H p ys/\Q (.ref p) H))):=⟨zds⟩
def y0 {id:String}{r:AT->Hp->VK->Prop}{x:Str}{F:TA}(I:CallQ X (.builtin id) r)(J:Gl X x)(L:X.mg x=none)(O:bootBuiltins x=some (.builtin id))(U:QA X (e::es) F)(Y:x ≠ "__name__" := by ext)(q:Ah x:=by ext)
  (Z:starEach (e::es) X.env=(false,eval e X.env)::starEach es X.env:=by rfl) (B:(backTo pos (starEach es X.env)).any (·.1)=false:=by rfl):QE X (.Call (.Name x p) (e::es) [] pos) (tCB r F):=⟨zlO I.run J L O U.run Y q Z B⟩
def zaa(I:CallQ X (.type T) r)(J:Gl X x)(L:X.mg x=none)(O:bootBuiltins x=some (.type T))(U:QA X (e::es) F)(Y:x ≠ "__name__" := by ext)(q:Ah x:=by ext)(Z:starEach (e::es) X.env=(false,eval e X.env)::starEach es X.env:=by rfl)(B:(backTo pos (starEach es X.env)).any (·.1)=false:=by rfl):QE X (.Call (.Name x p) (e::es) [] pos) (tCB r F):=⟨zjP I.run J L O U.run Y q Z B⟩
def zl2{x:Str}{st:Stmt}{ps:AM}{f:Addr}{fd:Ac}{sp:Sp}(D:Dfn X.K X.mg x st ps f fd)(G:FnOk X.prog X.w X.K X.mg X.base CX0 j f fd ps sp)(J:Room k X.A)(L:QA X (e::es) I)(q:j<=k:=by ext)(O:Gl X x:=by rfl)(B:Ah x:=by ext)(U:starEach (e::es) X.env=(false,eval e X.env)::starEach es X.env:=by rfl)(F:(backTo pos (starEach es X.env)).any (·.1)=false:=by rfl) :
  QE X (.Call (.Name x p) (e::es) [] pos) (zfv sp [] E0 I):=⟨zu4 D G J L.run q O B U F⟩
def zck(q:X.N.Nodup)(hi:X.N[i]?=some x)(B:Loc X.env.scope x)(F:X.fn x=true\/X.env.scope.names.lookup x=some .local:=by walk_at "l"):QG X (.Name x pos) (uT i):=⟨zoX q hi B F⟩
def zpp:QGs X [] gNil:=⟨zoY⟩
def zl4(h1:QG X e g)(h2:QGs X es gs)(hs:(assignEach (e::es) X.env).map (·.2)=assign e X.env::(assignEach es X.env).map (·.2):=by rfl):QGs X (e::es) (zqV g gs):=⟨zlT h1.run h2.run hs⟩
def zsg {k:Nat}{gs:TGs}{n:Nat}(B:X.calm=true)(h:QGs X es gs)(F:(assignEach es X.env).length=n:=by rfl)(q:(assignEach es X.env).findIdx? (·.1)=none:=by rfl):QG X (.Tuple es k pos) (zun X.K n gs):=⟨zrX B h.run F q⟩
def zd6(q:QE X e te):QI X tg e (zoa X.K te):=⟨zoZ q.run⟩
def zsh(q:QE X e te):QI X tg e (zup X.K te):=⟨zrY q.run⟩
def zfk(B:Gl X "range")(F:X.mg "range" = none)(I:QA X [a] q)(hs:starEach [a] X.env=[(false,eval a X.env)]:=by rfl):QI X tg (.Call (.Name "range" p) [a] [] pos) (zqX q):=⟨zjR B F I.run hs⟩
def zea:QTs X [] zbk:=⟨zpc⟩
def zpw (h:QT X c t):QTs X [c] t:=⟨zpd h.run⟩
def zpi(B:X.calm=true)(c:CompOk X scope N cix)(hi:QI X tg iter wi)(F:∀C s H ex,QG (zt X scope N C s H ex) tg g)(J:∀C s H ex,QTs (zt X scope N C s H ex) ifs ti)(L:∀C s H ex,QE (zt X scope N C s H ex) elt te)(hs:∀x,foldedSetIterable iter X.env x=pure x:=by intro _;rfl):QE X (.ListComp elt [⟨tg,iter,ifs,0⟩] scope pos) (zvr wi g ti te cix):=⟨λpins s σ H Q I h=>by
 rw[eval_ListComp];exact ze4 (Fin:=λacc H=>Q (.ref acc) H) (uj c) B hi.run (zbK λC s H ex=>(F C s H ex).run) (zbK λC s H ex=>(J C s H ex).run) (zbK λC s H ex=>(L C s H ex).run) hs I h λ_ _ _ _ _ O U q=>zdF O U q⟩
end
section
variable {X:Cx}{st:Stmt}{sts body a b:List Stmt}{t u:TS}{e o i:Expr}{te td ty tv:TE}{pos:Pos}
def zd9:QSs X [] zsO:=⟨zo9⟩
def yb (h1:QS X st t)(h2:QSs X sts u):QSs X (st::sts) (zvt t u):=⟨zlY h1.run h2.run⟩
def uC (h1:QS X st t):QSs X [st] t:=⟨zpa h1.run⟩
def zcl (q:QE X e te)(hs:swapsWith e none pos.line X.env=pure false:=by rfl):QS X (.Expr e pos) (zmm te):=⟨zo8 q.run hs⟩
def zbt (q:QE X e te):QS X (.Return (some e) pos) (ztN te):=⟨zr2 q.run⟩
def zl6(q:QT X c tc)(B:QSs X a t)(F:QSs X b u):QS X (.If c a b pos) (tIfS tc t u):=⟨zva q.run B.run F.run⟩
def xW {i:Nat}{x:Str}{pos':Pos}(q:X.N.Nodup)(hi:X.N[i]?=some x)(B:Loc X.env.scope x)(F:QE X e te)(hs:swapsWith e (some (.Name x pos')) pos.line X.env=pure false:=by rfl)(I:X.fn x=true\/X.env.scope.names.lookup x=some .local:=by walk_at "l") :
  QS X (.Assign [.Name x pos'] e pos) (zfC te (uT i)):=⟨zr3 q hi B F.run hs I⟩
def znb(q:QE X e te)(B:QG X tg g)(hs:swapsWithSole [tg] e pos.line X.env=pure false:=by rfl)(F:swappedStores [tg] e X.env=pure none:=by rfl)(h1:(assignEach [tg] X.env).map (·.2)=[assign tg X.env]:=by rfl):QS X (.Assign [tg] e pos) (zfC te g):=⟨zrZ q.run B.run hs F h1⟩
def zd8(q:X.A.units+1<cLine)(B:QE X o td)(hi:QE X i ty)(F:QE X e tv)(hs:swapsWith e (some (.Subscript o i pos')) pos.line X.env=pure false):QS X (.Assign [.Subscript o i pos'] e pos) (zsE td ty tv):=⟨zo7 q B.run hi.run F.run hs⟩
def zjX(q:PassesOwn (model X.prog X.w) X.A X.env X.xe)(B:X.calm=true)(hi:QI X tg iter wi)(F:QG X tg g)(I:QSs X body t)(hs:∀x,foldedSetIterable iter X.env x=pure x:=by intro _;rfl):QS X (.For tg iter body [] pos) (ztM wi g t):=⟨zr1 q B hi.run F.run I.run hs⟩
end
def Fun.okQ{P:Aa}{w:Ab}{K:AH}{mg:AI}{base:Heap}{x B:Str}{st:Stmt}{f:Addr}{fd:Ac}{N ps:AM}{sp:Sp}(F:Fun K x B st f fd)(S:FnScope N ps (ze st))(L:∀vs H Q E,sp vs H Q E->vs.length=ps.length)(J:∀ (I:Value) (A:Ae) (q:List Env) (s:AZ) (H:Hp) (vs:AT) (Q:VK) (E:XK),Room k (A.deeper (envOfC B (ze st) s.heap.objs.size f I))->sp vs H Q E->
   ∃t,QSs (zcL CX0 P w K mg base N B (ze st) f I A q s H E).nox (zJ st) t/\t { nx:=λ_ H'=>Q .non H',rt:=Q } (y4 N vs) H):FnOk P w K mg base CX0 (k+1) f fd ps sp:=
 F.ok S L λI A q s H vs Q E O h=>by obtain⟨t,h1,h2⟩:=J I A q s H vs Q E O h;exact⟨t,h1.run,h2⟩
def s_ca:¬ (("cells" : Str) = "at"):=by decide +kernel
def s_cl:¬ (("cells" : Str) = "left"):=by decide +kernel
def s_al:¬ (("at" : Str) = "left"):=by decide +kernel
def zuA:¬ (Sum.inr "cells" : Key)=(Sum.inr "at" : Key):=λz=>s_ca (Sum.inr.inj z)
def zuB:¬ (Sum.inr "cells" : Key)=(Sum.inr "left" : Key):=λz=>s_cl (Sum.inr.inj z)
def zty:¬ (Sum.inr "at" : Key)=(Sum.inr "left" : Key):=λz=>s_al (Sum.inr.inj z)
def za7 (c:Addr)(a l:Int):List (Key×V):=[(Sum.inr "cells",.ref c),(Sum.inr "at",.int a),(Sum.inr "left",.int l)]
def zu8 (c:Addr)(a l:Int):za6 (za7 c a l) (Sum.inr "cells" : Key)=some (.ref c):=xg rfl
def zoW (c:Addr)(a l:Int):za6 (za7 c a l) (Sum.inr "at" : Key)=some (.int a):=by unfold za7;rw[xz zuA,xg rfl]
def zu9 (c:Addr)(a l:Int):za6 (za7 c a l) (Sum.inr "left" : Key)=some (.int l):=by unfold za7;rw[xz zuB,xz zty,xg rfl]
def zrT (c:Addr)(a l b:Int):zap (za7 c a l) (Sum.inr "at" : Key) (.int b)=za7 c b l:=by unfold zap za7;have q:=zuA;have B:¬ (Sum.inr "left" : Key)=(Sum.inr "at" : Key):=λz=>zty z.symm;simp[q,B]
def zrU (c:Addr)(a l b:Int):zap (za7 c a l) (Sum.inr "left" : Key) (.int b)=za7 c a b:=by unfold zap za7;have q:=zuB;have B:=zty;simp[q,B]
def zrS (c:Addr)(a l:Int):zcf [] (za7 c a l)=za7 c a l:=by unfold zcf za7;have q:=zuA;have B:=zuB;have F:=zty;simp[zap,q,B,F]
structure Pen (H:Hp)(p c:Addr)(ns:AG)(n:Nat):Prop where
 ob:∃a l:Int,H p=some (.dK (za7 c a l))/\0<=a/\a<=n/\0<=l
 ls:H c=some (.lst (ns.map V.int))
 len:ns.length<=63
def Pen.same{ns:AG}(P:Pen H p c ns n)(h:y3 H H'):Pen H' p c ns n:=by obtain⟨⟨a,l,h1,h2,q,B⟩,F,I⟩:=P;exact⟨⟨a,l,h _ _ h1,h2,q,B⟩,h _ _ F,I⟩
def zeh{a l:Int}(h:H p=some (.dK (za7 c a l))):zu H (upd H p o):=λb u e n=>by
 by_cases q:b=p;subst q;rw[h] at e;cases e;have:=n _ rfl;rw[zoW] at this;cases this;rw[zd q];exact e
section
variable {H:Hp}{p c:Addr}{a l:Int}
def zg7 (h:H p=some (.dK (za7 c a l))):zcE H p (.str "cells") (some (.ref c)):=by have:=zcE.k (k:=(Sum.inr "cells" : Key)) h;rw[zu8] at this;exact this
def zrR (h:H p=some (.dK (za7 c a l))):zcE H p (.str "at") (some (.int a)):=by have:=zcE.k (k:=(Sum.inr "at" : Key)) h;rw[zoW] at this;exact this
def zjQ (h:H p=some (.dK (za7 c a l))):zcE H p (.str "left") (some (.int l)):=by have:=zcE.k (k:=(Sum.inr "left" : Key)) h;rw[zu9] at this;exact this
def zrV (h:H p=some (.dK (za7 c a l)))(b:Int):zcI H p (.str "at") (.int b) (upd H p (.dK (za7 c b l))):=by have:=zcI.k (k:=(Sum.inr "at" : Key)) (v:=.int b) h (by change 3<sizeLine;decide);rw[zrT] at this;exact this
def zna (h:H p=some (.dK (za7 c a l)))(b:Int):zcI H p (.str "left") (.int b) (upd H p (.dK (za7 c a b))):=by have:=zcI.k (k:=(Sum.inr "left" : Key)) (v:=.int b) h (by change 3<sizeLine;decide);rw[zrU] at this;exact this
end
def zqm (ns:AG)(a:Int)(h:0<((ns.map V.int).length:Int)):∃z,atI (ns.map V.int) (a % ((ns.map V.int).length:Int))=some (.int z):=by
 have q:=cI a (show ((ns.map V.int).length:Int)≠0 by lia);have h1:=b8 a h;generalize F:a % ((ns.map V.int).length:Int)=m at q h1;obtain⟨j,rfl⟩:∃j:Nat,m=j:=⟨m.toNat,by lia⟩;have B:j<ns.length:=by rw[ab] at h1;lia
 exact⟨ns[j],znC (by simp[B])⟩
def zml {a:Int}{n:Nat}(q:0<=a)(h1:a<=n)(h2:n<=1000000):0<=60013 * a * a/\60013 * a * a<=60013000000000000:=by have e:60013 * a * a=60013 * (a * a):=Int.mul_assoc _ _ _;have B:0<=a * a:=Int.mul_nonneg q q;have F:a * a<=1000000 * 1000000:=de (by lia) (by lia) q (by lia);rw[e];lia
def meet {α:Type}{G:Prop}(P:α->Prop)(h:(∀a,P a)->G)(r:∀a,P a):G:=h r
def zuS {G:Prop}(P:Prop)(h:P->G)(r:P):G:=h r
def zkg:Sp:=λvs H Q _=>∃ (p c:Addr) (ns:AG) (n:Nat) (yh:Int),vs=[.ref p,.int yh]/\Pen H p c ns n/\n<=1000000/\1<=yh/\yh<1073741824/\
 ∀ (r:Int) (H':Hp),0<=r->r<yh->Pen H' p c ns (n+1)->zu H H'->Q (.int r) H'
def zmk (K:AH):Sp:=λvs H Q _=>∃ (a:Addr) (ns:AG),vs=[.ref a]/\SqL K H a (ns.map V.int)/\ns.length<=63/\∀ (p c:Addr) (H':Hp),Pen H' p c ns 0->y3 H H'->Q (.ref p) H'
def yg (ns:AG):Int:=ns.foldl (· * ·) 1
def ul (ns:AG)(n:Int):yg (ns++[n])=yg ns * n:=by unfold yg;rw[List.foldl_append];rfl
def zh{α:Type}{l:List α}{x:α}(h:l[i]?=some x):l.take (i+1)=l.take i++[x]:=by rw[List.take_succ,h];rfl
def Dt.inBox:Dt->Bool
 | .int i=>decide (2<=i)&&decide (i<=4)
 | _=>false
def Dt.val:Dt->Int
 | .int i=>i
 | _=>0
def uF:∀ (ns:AG),(ns.map Dt.int).map Dt.val=ns
 | []=>rfl
 | n::ns=>by simp only[aB,uF ns];rfl
def zkh (K:AH):Sp:=λvs H Q _=>∃ (a:Addr) (ns:AG),vs=[.ref a]/\SqL K H a (ns.map V.int)/\ns.length<=63/\∀H',Q (.bl true) H'
def zm0 {g:TG}{x:V}{σ:St}{H:Hp}{A B:St->Hp->Prop}(h:g x σ H A):g x σ H λq H3=>zbk q H3 λF H4=>if F=true then A q H4 else B q H4:=by
 have e:(λq H3=>zbk q H3 λF H4=>if F=true then A q H4 else B q H4)=A:=by funext q H3;change (if true=true then A q H3 else B q H3)=A q H3;rw[if_pos rfl]
 rw[e];exact h
section
variable {prog:Aa}{w:Ab}{A:Ae}{E:AA}{s:AZ}
def uh{items}(q:s.heap.IsTupleIter B t i)(O:s.heap.IsTuple t items)(U:items[i]?=some x)(Y:∀h',h'.IsTupleIter B t (i+1)->Heap.SameBut B s.heap h'->Q x { s with heap:=h' }):Ag prog w A (Builtin.SmallTypes.nextOf (.ref B)) Q E s:=by
 obtain⟨o,I,Z,F⟩:=id q;obtain⟨ol,J,_,nl,L⟩:=O;unfold Builtin.SmallTypes.nextOf
 show aa (wpAny_callSpecial?_slot (name:=Str.ofString "__next__") q.typeIs cu
  (aS cu q.typeIs eC ?_ (el _)))
 change wpAny _ _ (field (.ref B) 0 >>= _) _ _ s;show aa (bO I F (x:=.ref t) rfl ?_);change wpAny _ _ (if (Value.ref t==Value.none)=true then _ else _) _ _ s;rw[if_neg (by grind)];change wpAny _ _ (field (.ref B) 1 >>= _) _ _ s;show aa (bO I F (x:=.int i 0) rfl ?_);change wpAny _ _ (seqItems? (.ref t) >>= _) _ _ s;show aa (ci J L ?_);simp only[aR,U];show aa (bD I F (by simp) (ae ⟨x,rfl,ae (Y _ ?_ (br ..))⟩))
 exact⟨_,bj _ I (cY (bT F _)),(dN ..).trans Z,by
  rw[bT F];simp[rawInt]⟩
def zbE{items}(O:A.handled=none)(q:s.heap.IsTupleIter B t i)(U:s.heap.IsTuple t items)(Y:items[i]?=none)(Z:∀h' e,Heap.ExtBut B s.heap h'->(∃o,h'.get? e=some o/\o.cls = .type "StopIteration")->E (.ref e) { s with heap:=h' }):Ag prog w A (Builtin.SmallTypes.nextOf (.ref B)) Q E s:=by
 obtain⟨o,F,hc,I⟩:=id q;obtain⟨ol,J,_,nl,L⟩:=U;unfold Builtin.SmallTypes.nextOf
 show aa (wpAny_callSpecial?_slot (name:=Str.ofString "__next__") q.typeIs cu
  (aS cu q.typeIs eC ?_ (el _)))
 change wpAny _ _ (field (.ref B) 0 >>= _) _ _ s;show aa (bO F I (x:=.ref t) rfl ?_);change wpAny _ _ (if (Value.ref t==Value.none)=true then _ else _) _ _ s;rw[if_neg (by grind)];change wpAny _ _ (field (.ref B) 1 >>= _) _ _ s;show aa (bO F I (x:=.int i 0) rfl ?_);change wpAny _ _ (seqItems? (.ref t) >>= _) _ _ s;show aa (ci J L ?_);simp only[aR,Y];show aa (dM (aa (bD F I (by simp) ?_)));change wpAny _ _ (newExc (.type "StopIteration") [] >>= _) _ _ _;show aa ?_;simp only[newExc,newTuple];show aa (bh ?_ (by size_fits));show aa (m:=firstArgMember _ _) (fg (a:=Value.none) (by first | rfl | (simp only[firstArgMember];rfl)) ?_);show bh ?_ (by size_fits);simp only[raiseNew];show aa (fj ?_)
 first | rw[show A.in1.handled=none from O] | rw[O]
 show aa (ae (wpAny_throw ?_));exact Z _ _ (((br ..).extBut.push _).push _) ⟨_,aq _ rfl,rfl⟩
end
mutual
def Dt.toW:Dt->PySem.W.Dat
 | .non=>.none
 | .bl b=>.bool b
 | .int i=>.int i
 | .str x=>.str x
 | .tup l=>.tuple (Dt.toWs l)
 | .lst l=>.list (Dt.toWs l)
 | .dct=>.bytes #[]
def Dt.toWs:AS->List PySem.W.Dat
 | []=>[]
 | d::ds=>d.toW::Dt.toWs ds
end
mutual
def zek:∀ {d e:Dt},d.toW=e.toW->d=e
 | .non,e,h=>by cases e <;> simp[Dt.toW] at h ⊢
 | .bl b,e,h=>by cases e <;> simp[Dt.toW] at h ⊢;exact h
 | .int b,e,h=>by cases e <;> simp[Dt.toW] at h ⊢;exact h
 | .str b,e,h=>by cases e <;> simp[Dt.toW] at h ⊢;exact h
 | .tup l,e,h=>by
  cases e with
  | tup m=>simp only[Dt.toW,PySem.W.Dat.tuple.injEq] at h;rw[zel h]
  | _=>simp[Dt.toW] at h
 | .lst l,e,h=>by
  cases e with
  | lst m=>simp only[Dt.toW,PySem.W.Dat.list.injEq] at h;rw[zel h]
  | _=>simp[Dt.toW] at h
 | .dct,e,h=>by cases e <;> simp[Dt.toW] at h ⊢
def zel:∀ {l m:AS},Dt.toWs l=Dt.toWs m->l=m
 | [],m,h=>by cases m <;> simp[Dt.toWs] at h ⊢
 | d::l,m,h=>by
  cases m with
  | nil=>simp[Dt.toWs] at h
  | cons e m=>
   simp only[Dt.toWs,List.cons.injEq] at h;rw[zek h.1,zel h.2]
end
def Dt.eqOk (d:Dt):Prop:=PySem.W.kqdOk 8 d.toW=true
section
variable {P:Aa}{w:Ab}{H:Hp}{h:Heap}
mutual
def yT (ok:HOk P w H h):∀ (n:Nat) {d:Dt} {v:V} {u:Value},Is H d v->yF v u->PySem.W.kqdOk n d.toW=true->∃as,Reads h u (PySem.W.kqdP d.toW) as
 | _,.non,_,_,h1,r,_=>by cases h1;cases r;exact⟨_,Reads.none⟩
 | n,.bl b,_,_,_,_,k=>by cases n <;> simp[Dt.toW,PySem.W.kqdOk] at k
 | _,.int i,_,_,h1,r,_=>by cases h1;obtain⟨t,rfl⟩:=r;exact⟨_,Reads.int i t⟩
 | _,.str x,_,_,h1,r,_=>by cases h1;obtain⟨t,rfl⟩:=r;exact⟨_,Reads.str x t⟩
 | 0,.tup l,_,_,_,_,k=>by simp[Dt.toW,PySem.W.kqdOk] at k
 | n+1,.tup l,_,_,h1,r,k=>by obtain⟨a,xs,rfl,ha,hl⟩:=h1;cases r;obtain⟨_,its,rv,o,ho,hc,⟨m,hd⟩,_⟩:=ok a _ ha;obtain⟨as,q⟩:=uw ok n hl rv (by simpa [Dt.toW,PySem.W.kqdOk] using k);exact⟨as,reads_tuple_at ho hc hd (by simpa using q)⟩
 | 0,.lst l,_,_,_,_,k=>by simp[Dt.toW,PySem.W.kqdOk] at k
 | n+1,.lst l,_,_,h1,r,k=>by obtain⟨a,xs,rfl,ha,hl⟩:=h1;cases r;obtain⟨_,its,m,rv,e⟩:=ok a _ ha;obtain⟨as,q⟩:=uw ok n hl rv (by simpa [Dt.toW,PySem.W.kqdOk] using k);exact⟨_,reads_list_at e rfl rfl (by simpa using q)⟩
 | n,.dct,_,_,_,_,k=>by cases n <;> simp[Dt.toW,PySem.W.kqdOk] at k
def uw (ok:HOk P w H h):∀ (n:Nat) {ds:AS} {xs:AT} {us:AN},IsL H ds xs->z0 xs us->(∀d∈Dt.toWs ds,PySem.W.kqdOk n d=true)->∃as,ReadsAll h us (PySem.W.kqdPs (Dt.toWs ds)) as
 | _,[],_,_,h1,r,_=>by cases h1;cases r;exact⟨_,ReadsAll.nil⟩
 | n,d::ds,_,_,h1,r,k=>by
  obtain⟨x,xr,rfl,hd,hr⟩:=h1
  cases r with
  | cons rx rr=>
   obtain⟨as,q⟩:=yT ok n hd rx (k _ (by simp[Dt.toWs]));obtain⟨bs,q2⟩:=uw ok n hr rr λe he=>k e (by simp[Dt.toWs,he]);exact⟨_,ReadsAll.cons q q2⟩
end
end
def ut {d:Dt}(h:d.eqOk):SeqAt.shaped (PySem.W.kqdP d.toW)=true:=by
 have l:=PySem.W.kqd_lay 8 _ h;unfold SeqAt.shaped;grind
def ztG:R2:=λx y H Q=>∃d e,Is H d x/\Is H e y/\d.eqOk/\e.eqOk/\∀b:Bool,(b=true↔d=e)->Q (.bl b) H
def ztJ:R2:=λx y H Q=>∃d e,Is H d x/\Is H e y/\d.eqOk/\e.eqOk/\∀b:Bool,(b=true↔d=e)->Q (.bl (!b)) H
section
variable {X:Cx}
def ziC {d e:Dt}(h1:d.eqOk)(h2:e.eqOk):PyData.eqv (PySem.W.kqdP d.toW) (PySem.W.kqdP e.toW)=true↔d=e:=
 (eD 8 d.toW e.toW 8 h1 h2).trans ⟨zek,λz=>by rw[z]⟩
def zru (F:X.A.units+64<cLine):OpR X (compareOp .Eq) ztG:=by intro pins s σ H x y v u Q I J L h;obtain⟨d,e,O,U,B,ke,q⟩:=h;obtain⟨as,Y⟩:=yT I.hok 8 O J B;obtain⟨bs,Z⟩:=yT I.hok 8 U L ke;exact eq_dataH Y Z (ut B) (ut ke) F ⟨.bl _,H,I,rfl,q _ (ziC B ke)⟩
def zrx (F:X.A.units+64<cLine):OpR X (compareOp .NotEq) ztJ:=by intro pins s σ H x y v u Q I J L h;obtain⟨d,e,O,U,B,ke,q⟩:=h;obtain⟨as,Y⟩:=yT I.hok 8 O J B;obtain⟨bs,Z⟩:=yT I.hok 8 U L ke;exact ne_dataH Y Z (ut B) (ut ke) F ⟨.bl _,H,I,rfl,q _ (ziC B ke)⟩
def zm6 (q:X.A.units+64<cLine):OpQ X (compareOp .Eq) ztG:=⟨zru q⟩
def zrF (q:X.A.units+64<cLine):OpQ X (compareOp .NotEq) ztJ:=⟨zrx q⟩
def zsb{to:TE}{t:TA}{apos cpos:Pos}(L:QE X o to)(O:QA X [e] t)(B:attributeBase o "append" X.env (eval o X.env)=eval o X.env:=by rfl)(J:((backTo cpos (starEach [e] X.env)).all (λx=>!x.1)&&(backToKw cpos (keywordEach [] X.env)).all (λx=>x.1.isSome)&&decide (([e]:AO).length+([]:List Keyword).length+(if ([]:List Keyword).isEmpty then 0 else 1)<30))=true:=by rfl)(I:(apos.endLine==cpos.line)=true:=by rfl)(hs:starEach [e] X.env=(false,eval e X.env)::starEach [] X.env:=by rfl)(q:(backTo cpos (starEach [] X.env)).any (·.1)=false:=by rfl) :
  QE X (.Call (.Attribute o "append" apos) [e] [] cpos) (tBM X.K "list" zgk to t):=⟨zrL bE PySem.F.slot_list_append PySem.F.type_list_append ze8 L.run O.run B J I hs q⟩
end
def uf {ns:AG}:(Dt.tup (ns.map .int)).eqOk:=by
 have e:∀ns:AG,(Dt.toWs (ns.map .int)).all (PySem.W.kqdOk 7)=true:=by
  intro ns
  induction ns with
  | nil=>rfl
  | cons n ns q=>simp only[aB,Dt.toWs,cP,q,cA];rfl
 exact e ns
def yh (rm:AG)(i:Int):Int:=rm.getD i.toNat 0
abbrev x4 (q:Int×Int):Dt:=.tup [.int q.1,.int q.2]
structure Giv (rm:AG)(g:List (Int×Int)):Prop where
 ok:∀q∈g,0<=q.1/\q.1<rm.length/\0<=q.2/\q.2<yh rm q.1
 up:g.Pairwise λa b=>a.1<b.1
def zh3 (H H':Hp):Prop:=∀b xs,H b=some (.tup xs)->H' b=some (.tup xs)
def zh3.app {H:Hp}{a:Addr}{xs ys:AT}(h:H a=some (.lst xs)):zh3 H (upd H a (.lst ys)):=λb zs e=>by
 by_cases q:b=a;grind;rw[zd q];exact e
mutual
def Dt.noL:Dt->Bool
 | .tup l=>Dt.noLs l
 | .lst _=>false
 | .dct=>false
 | _=>true
def Dt.noLs:AS->Bool
 | []=>true
 | d::ds=>d.noL&&Dt.noLs ds
end
mutual
def Is.stayT {H H1:Hp}(a:zh3 H H1):∀ {d:Dt} {v:V},d.noL=true->Is H d v->Is H1 d v
 | .non,_,_,h=>h
 | .bl _,_,_,h=>h
 | .int _,_,_,h=>h
 | .str _,_,_,h=>h
 | .tup l,_,n,h=>by obtain⟨p,xs,e,hp,hl⟩:=h;exact⟨p,xs,e,a _ _ hp,IsL.stayT a (by simpa [Dt.noL] using n) hl⟩
 | .lst l,_,n,_=>by simp[Dt.noL] at n
 | .dct,_,n,_=>by simp[Dt.noL] at n
def IsL.stayT {H H1:Hp}(a:zh3 H H1):∀ {ds:AS} {xs:AT},Dt.noLs ds=true->IsL H ds xs->IsL H1 ds xs
 | [],_,_,h=>h
 | d::ds,_,n,h=>by
  obtain⟨x,r,e,hd,hr⟩:=h;have n':d.noL=true/\Dt.noLs ds=true:=by simpa [Dt.noLs] using n
  exact⟨x,r,e,Is.stayT a n'.1 hd,IsL.stayT a n'.2 hr⟩
end
def ze9:∀g:List (Int×Int),Dt.noLs (g.map x4)=true
 | []=>rfl
 | q::g=>by change (Dt.noL (x4 q)&&Dt.noLs (g.map x4))=true;rw[ze9 g];rfl
def Giv.snoc {rm:AG}{g:List (Int×Int)}{i w:Int}(h:Giv rm g)(B:∀q∈g,q.1<i)(L:0<=i)(h1:i<rm.length)(h2:0<=w)(O:w<yh rm i):Giv rm (g++[(i,w)]):=by
 show⟨λq F=>?_,List.pairwise_append.mpr ⟨h.up,dB _ _,λa I b J=>?_⟩⟩;rcases aG.mp F with z | z;exact h.ok q z;right;rw[ax.mp J];exact B a I
def Pen.app{ns:AG}(P:Pen H p c ns n)(q:H fa=some (.lst xs))(B:c≠fa):Pen (upd H fa (.lst ys)) p c ns n:=by
 obtain⟨⟨a,l,h1,h2,F,I⟩,J,L⟩:=P;have O:p≠fa:=λe=>by subst e;rw[q] at h1;cases h1
 exact⟨⟨a,l,by rw[zd O];exact h1,h2,F,I⟩,by rw[zd B];exact J,L⟩
def New (H:Hp)(o:HO)(R:V->Hp->Prop):Prop:=∀ (p:Addr) (H':Hp),H p=none->H' p=some o->y3 H H'->R (.ref p) H'
def New.at(h:New H o R)(q:H p=none):R (.ref p) (upd H p o):=h p _ q zj (y3.upd q)
def zsS (t:TA):TE:=λσ H Q=>t σ H λxs H1=>xs.length<=sizeLine/\New H1 (.tup xs) Q
def zsN (t:TA):TE:=λσ H Q=>t σ H λxs H1=>xs.length<=sizeLine/\New H1 (.lst xs) Q
section
variable {X:Cx}{es:AO}{t:TA}{pos:Pos}
def zoV {x1}(h:PA X es t):PE X (.Tuple es x1 pos) (zsS t):=by intro pins s σ H Q I F;show wpAny_Tuple_spliced (thn (h pos pins s σ H _ I F) λJ B ⟨xs,H1,I1,r,z,q⟩=>⟨by rw[<- r.length];exact z,?_⟩);have L:H1 B.heap.objs.size=none:=I1.hok.fresh (ai _);show⟨.ref B.heap.objs.size,upd H1 B.heap.objs.size (.tup xs),I1.laid (t':=B.toks) (λb u e=>af _ e) (ai _) ?_,rfl,q.at L⟩;exact⟨z,J,r,⟨_,aq _ rfl,rfl,⟨_,rfl⟩,rfl⟩⟩
def zoT (h:PA X es t):PE X (.List es pos) (zsN t):=by intro pins s σ H Q I F;show wpAny_List_spliced (thn (h pos pins s σ H _ I F) λJ B ⟨xs,H1,I1,r,z,q⟩=>⟨by rw[<- r.length];exact z,?_⟩);have L:H1 B.heap.objs.size=none:=I1.hok.fresh (ai _);show⟨.ref B.heap.objs.size,upd H1 B.heap.objs.size (.lst xs),I1.laid (t':=B.toks) (λb u e=>af _ e) (ai _) ?_,rfl,q.at L⟩;exact⟨z,J,0,r,aq _ rfl⟩
def zgj {x1}(h:QA X es t):QE X (.Tuple es x1 pos) (zsS t):=⟨zoV h.run⟩
def zjU (h:QA X es t):QE X (.List es pos) (zsN t):=⟨zoT h.run⟩
def CallQ.weak(h:CallQ X f r)(k:∀xs H Q,q xs H Q->r xs H Q):CallQ X f q:=⟨λpins s σ H xs B Q I F z=>h.run pins s σ H xs B Q I F (k _ _ _ z)⟩
def OpQ.weak(h:OpQ X f r)(k:∀x y H Q,q x y H Q->r x y H Q):OpQ X f q:=⟨λpins s σ H x y v u Q I B F z=>h.run pins s σ H x y v u Q I B F (k _ _ _ _ z)⟩
def zj1 (K:AH):AT->Hp->VK->Prop:=λxs H Q=>∃p ys,xs=[.ref p]/\(SqL K H p ys\/SqT K H p ys)/\New H (.lst ys) Q
def zgl (K:AH):AT->Hp->VK->Prop:=λxs H Q=>∃p ys,xs=[.ref p]/\((SqL K H p ys/\New H (.tup ys) Q)\/(SqT K H p ys/\Q (.ref p) H))
def zbU:CallQ X (.type "list") (zj1 X.K):=zht.weak <| by rintro xs H Q ⟨p,ys,e,h,n⟩;exact⟨p,ys,e,h,λl q=>n.at q⟩
def xh:CallQ X (.type "tuple") (zgl X.K):=zfK.weak <| by rintro xs H Q ⟨p,ys,e,h⟩;exact⟨p,ys,e,h.elim (by rintro⟨a,n⟩;exact .inl ⟨a,λl q=>n.at q⟩) .inr⟩
def zpx:R2:=λx y H Q=>∃l b xs zs,x = .ref l/\y = .ref b/\H l=some (.lst xs)/\H b=some (.lst zs)/\xs.length+zs.length<=sizeLine/\New H (.lst (xs++zs)) Q
def zoN:OpQ X (binaryOp .Add) zpx:=zrB.weak <| by rintro x y H Q ⟨l,b,xs,zs,q,B,h1,h2,z,n⟩;exact⟨l,b,xs,zs,q,B,h1,h2,z,λp F=>n.at F⟩
end
def zqv (J:It)(g:TG)(ti:TT)(te:TE)(acc:Addr)(Q:VK)(σ:St)(H:Hp):Prop:=∃W:Nat->Nat->St->Hp->Prop,(∃m,W 0 m σ H)/\
 ∀i m q H',W i m q H'->(J.stop i H'/\Q (.ref acc) H')\/(J.go i H'/\∃N:St->Hp->Prop,(∀ B H2,N B H2->∃F,F<m/\W (i+1) F B H2)/\∀x H2,J.yld i H' x H2->zhs g ti te acc N x q H2)
def zkk (wi:TI)(g:TG)(ti:TT)(te:TE)(cix:List (Option Nat)):TE:=λσ H Q=>wi σ H λJ H1=>∀acc,H1 acc=none->zqv J g ti te acc Q (zaF σ cix) (upd H1 acc (.lst []))
def zha(q:X.calm=true)(c:CompOk X scope N cix)(hi:QI X tg iter wi)(B:∀C s H ex,QG (zt X scope N C s H ex) tg g)(F:∀C s H ex,QTs (zt X scope N C s H ex) ifs ti)(I:∀C s H ex,QE (zt X scope N C s H ex) elt te)(hs:∀x,foldedSetIterable iter X.env x=pure x:=by intro _;rfl):QE X (.ListComp elt [⟨tg,iter,ifs,0⟩] scope pos) (zkk wi g ti te cix):=zpi q c hi B F I hs
section
variable {K:AH}{a acc:Addr}{xs:AT}{g:TG}{ti:TT}{te:TE}{σ:St}{H:Hp}{Q:VK}
def zif (B:H acc=none)(Pv:Nat->St->Hp->Prop)(I:∀H',H' acc=some (.lst [])->y3 H H'->Pv 0 σ H')(J:∀i σ H,i<=xs.length->Pv i σ H->SqL K H a xs)
  (hs:∀i x σ H,xs[i]?=some x->Pv i σ H->zhs g ti te acc (Pv (i+1)) x σ H) (L:∀ σ H,Pv xs.length σ H->Q (.ref acc) H):zqv (Itl K a) g ti te acc Q σ (upd H acc (.lst [])):=by
 show⟨λi m σ H=>m=xs.length - i/\i<=xs.length/\Pv i σ H,⟨xs.length,by simp,aK _,I _ zj (y3.upd B)⟩,?_⟩;rintro i m σ H ⟨rfl,hi,p⟩;have q:=J i σ H hi p;by_cases F:i<xs.length;show .inr ⟨⟨xs,xs[i],q,by simp[F]⟩,Pv (i+1),λO H' U=>⟨xs.length - (i+1),by lia,rfl,F,U⟩,λx H' y=>?_⟩;obtain⟨e,y⟩:=y;subst e;exact hs i x σ _ (y xs q) p;have e:i=xs.length:=by lia
 subst e;exact .inl ⟨⟨xs,q,ai _⟩,L σ H p⟩
end
def zmG(h:g x σ H λq H3=>te q H3 λv H5=>∃xs,H5 acc=some (.lst xs)/\xs.length<sizeLine/\N q (upd H5 acc (.lst (xs++[v])))):zhs g zbk te acc N x σ H:=zm0 h
def zmf(h:H acc=none)(s:y3 H H1):y3 H (upd H1 acc o):=λb u e=>by rw[zd (zc e h)];exact s b u e
def zhh(h:H acc=none)(s:zu H H1):zu H (upd H1 acc o):=λb u e q=>by rw[zd (zc e h)];exact s b u e q
section
variable {X:Cx}(K:AH)(h:X.K=K)
include h
def znJ:CallQ X (.builtin "len") (λxs H Q=>∃x n,xs=[x]/\zqh K x H n/\Q (.int n) H):=h ▸ yQ
def zlJ:OpQ X (binaryOp .Add) (zjZ K):=h ▸ xK
end
def zpo {X:Cx}(K:AH)(B:X.K=K){es:AO}{pos:Pos}{k:Nat}{gs:TGs}{n:Nat}(F:X.calm=true)(h:QGs X es gs)(I:(assignEach es X.env).length=n:=by rfl)(q:(assignEach es X.env).findIdx? (·.1)=none:=by rfl):QG X (.Tuple es k pos) (zun K n gs):=B ▸ zsg F h I q
def zpr(K:AH)(q:X.K=K)(B:QE X e te):QI X tg e (zup K te):=q ▸ zsh B
def zhb(K:AH)(q:X.K=K)(B:QE X e te):QI X tg e (zoa K te):=q ▸ zd6 B
structure Wi where
 g:List (Int×Int)
 b:Int
 r:Int
 w:Int
abbrev AW:=List Wi
abbrev z8 (x:Wi):Dt:=.tup [.tup (x.g.map x4),.int x.b,.int x.r,.int x.w]
structure WishOk (rm:AG)(x:Wi):Prop where
 giv:Giv rm x.g
 b0:0<=x.b
 b1:x.b<rm.length
 apart:∀q∈x.g,q.1≠x.b
 r0:0<=x.r
 r1:x.r<yh rm x.b
 w0:0<=x.w
 w1:x.w<yh rm x.b
 ne:x.r≠x.w
section
variable {H H':Hp}{R:Dt->Prop}{xs ys:AT}
end
def zmz (rm:AG)(d:Dt):Prop:=∃x,d=z8 x/\WishOk rm x
def zg1 (x:Wi):(z8 x).noL=true:=by change Dt.noLs [.tup (x.g.map x4),.int x.b,.int x.r,.int x.w]=true;change (Dt.noLs (x.g.map x4)&&_)=true;rw[ze9];rfl
def zlt (x:Wi):PySem.W.kqdOk 7 (z8 x).toW=true:=by
 have e:∀g:List (Int×Int),(Dt.toWs (g.map x4)).all (PySem.W.kqdOk 5)=true:=by
  intro g
  induction g with
  | nil=>rfl
  | cons n ns q=>simp only[aB,Dt.toWs,cP,q,cA];rfl
 change ((Dt.toWs (x.g.map x4)).all (PySem.W.kqdOk 5)&&_)=true;rw[e];rfl
def zfN{rm:AG}(h:∀d∈ds,zmz rm d):(Dt.tup ds).eqOk/\(Dt.lst ds).eqOk:=by
 have e:∀ds:AS,(∀d∈ds,zmz rm d)->(Dt.toWs ds).all (PySem.W.kqdOk 7)=true:=by
  intro ds
  induction ds with
  | nil=>intro _;rfl
  | cons n ns q=>
   intro h;obtain⟨x,rfl,_⟩:=h n am;simp only[Dt.toWs,cP,q λd B=>h d (ar _ B),zlt x,cA]
 exact⟨e ds h,e ds h⟩
def zlb (b:Int)(ns:AG):inV (.int b) (ns.map V.int)=ns.contains b:=by
 unfold inV
 induction ns with
 | nil=>rfl
 | cons n ns q=>
  rw[aB,cO,q,List.contains_cons];show ((n==b) || _)=((b==n) || _);rw[show (n==b)=(b==n) from BEq.comm]
def ziI (ns:AG):(ns.map V.int).all zdG=true:=by rw[bn];intro x q;obtain⟨n,_,rfl⟩:=aC.mp q;rfl
def zfR {m:Int}:∀ {g:List (Int×Int)} {lo:Int},(∀q∈g,lo<=q.1/\q.1<m)->(g.Pairwise λa b=>a.1<b.1)->lo<=m->(g.length:Int)<=m - lo
 | [],lo,_,_,h=>by simp;lia
 | q::g,lo,h,I,J=>by
  have h1:=h q am;have B:=b9.mp I;have L:=zfR (g:=g) (lo:=q.1+1) (λx F=>⟨by have:=B.1 x F;lia,(h x (ar _ F)).2⟩) B.2 (by lia);grind
def ziL {rm:AG}{g:List (Int×Int)}(h:Giv rm g)(F:rm.length<=8):g.length<=100:=by have:=zfR (g:=g) (lo:=0) (m:=rm.length) (λq B=>⟨(h.ok q B).1,(h.ok q B).2.1⟩) h.up (by lia);lia
def zin (xs:AT)(k:Nat):zcK xs none (some (k:Int))=xs.take k:=by
 have e:HT.sIx xs.length xs.length (some (k:Int))=min k xs.length:=by simp[HT.sIx];try lia
 unfold zcK;rw[e,show HT.sIx xs.length 0 none=0 from rfl,List.drop_zero,Nat.sub_zero];grind
def zim (xs:AT)(k:Nat):zcK xs (some (k:Int)) none=xs.drop k:=by
 have e:HT.sIx xs.length 0 (some (k:Int))=min k xs.length:=by simp[HT.sIx];try lia
 unfold zcK;rw[e,show HT.sIx xs.length xs.length none=xs.length from rfl];by_cases h:k<=xs.length;rw[Nat.min_eq_left h,bX (by simp)];rw[Nat.min_eq_right (by lia),List.drop_eq_nil_of_le (as:=xs) (i:=xs.length) (by lia),List.drop_eq_nil_of_le (as:=xs) (i:=k) (by lia),List.take_nil]
section
variable {rm:AG}{g b r w:Dt}
end
end L2
namespace HT
open PyProof.Rows
section
variable {prog:Aa}{w:Ab}{A:Ae}{E:AA}{s:AZ}
def fm_congr {α q:Type}{f g:α->Option q}:∀ {l:List α},(∀m∈l,f m=g m)->l.filterMap f=l.filterMap g
 | [],_=>rfl
 | a::l,h=>by rw[List.filterMap_cons,List.filterMap_cons,h a List.mem_cons_self,fm_congr λm B=>h m (List.mem_cons_of_mem _ B)]
def pick_rev (xs:AK):((List.range xs.size).filterMap λ(m:Nat)=>xs[((xs.size:Int) - 1+(m:Int) * (-1)).toNat]?).toArray=xs.toList.reverse.toArray:=by
 congr 1
 have e:∀m∈List.range xs.size,xs[((xs.size:Int) - 1+(m:Int) * (-1)).toNat]?=some (xs.toList.reverse.getD m .none):=by
  intro m q;have B:=List.mem_range.mp q;have F:((xs.size:Int) - 1+(m:Int) * (-1)).toNat=xs.size - 1 - m:=by lia
  right
 rw[fm_congr e];rw[List.filterMap_eq_map' (f:=λm=>xs.toList.reverse.getD m .none)];show List.ext_getElem? λi=>?_;rw[List.getElem?_map];by_cases hi:i<xs.size
 all_goals right
end
end HT
namespace L2
open PyProof.Rows
section
variable {X:Cx}{e:Expr}{te:TE}{pos p2 p3 p4:Pos}{j:Nat}
def zfz(r:z0 xs q):z0 xs.reverse q.reverse:=by
 induction r with
 | nil=>exact .nil
 | cons h _ B=>rw[cJ,cJ];exact B.append (.cons h .nil)
def zef (xs:AK):slicePick xs none none (some (-1))=xs.toList.reverse.toArray:=by
 rw[<- HT.pick_rev];unfold slicePick;congr 1;have q:sliceBounds none none (some (-1)) xs.size=((xs.size:Int) - 1,-1,-1):=by simp[sliceBounds]
 rw[q];unfold sliceRange;have B:(if (-1:Int) > 0 then (if (xs.size:Int) - 1 < -1 then (-1 - ((xs.size:Int) - 1)+-1 - 1) / -1 else 0) else if (xs.size:Int) - 1 > -1 then ((xs.size:Int) - 1 - -1 - -1 - 1) / - -1 else 0).toNat=xs.size:=by grind
 change List.filterMap (λx=>xs[x]?) (List.map _ (List.range (if (-1:Int) > 0 then (if (xs.size:Int) - 1 < -1 then (-1 - ((xs.size:Int) - 1)+-1 - 1) / -1 else 0) else if (xs.size:Int) - 1 > -1 then ((xs.size:Int) - 1 - -1 - -1 - 1) / - -1 else 0).toNat))=_;rw[B,eL];show HT.fm_congr λm F=>?_;grind
def zsR (te:TE):TE:=λσ H Q=>te σ H λx H1=>∃a xs,x = .ref a/\H1 a=some (.lst xs)/\New H1 (.lst xs.reverse) Q
def zoU (L:PE X e te):PE X (.Subscript e (.Slice none none (some (.UnaryOp .USub (.Constant (.int 1) j p4) p3)) p2) pos) (zsR te):=by intro pins s σ H Q I h;show Subscript_ (thn (L pins s σ H _ I h)  ?_);rintro v O ⟨x,H1,I1,U,Y⟩;obtain⟨a,xs,rfl,Z,q⟩:=Y;cases U;show wpAny_Slice ?_;rw[evalPart_none];show ae (ae ?_);rw[evalPart_some];show thn (zu7 (zs5 (X:=X)) (zm9 (X:=X)) pins O σ H1 (λz H2=>z = .int (-1)/\H2=H1) I1 ⟨1,rfl,rfl,rfl⟩)  ?_;rintro u B ⟨z,H2,I2,r2,e1,e2⟩;subst e1 e2;obtain⟨tk,rfl⟩:=r2;have I3:Inv X pins σ H2 { B with heap:=B.heap.push { cls:=.type "slice",data:=.fields #[.none,.none,.int (-1) tk] } }:=I2.kept (t':=B.toks) λb ob q=>af _ q;obtain⟨its,r,F,hz⟩:=I3.list (.of Z);have J:=r.length;change Af X (subscriptTail e _ (.ref a) (.ref B.heap.objs.size)) (EP X pins σ Q) X.xe { B with heap:=B.heap.push { cls:=.type "slice",data:=.fields #[.none,.none,.int (-1) tk] } };show tail_any (ops:=[.ref a,.ref B.heap.objs.size]) F.isList.typeIs slot_list_getitem.lookup ?_ (by with_unfolding_all rfl);show wpAny_getItem_list_slice F.isList (Heap.IsSliceOf.new ..) .none .none (.int (-1) tk) (by simp) ?_ (by grind);rw[zef];show⟨.ref _,_,I3.laid (t':=B.toks) (o:=.lst xs.reverse) (λb ob q=>af _ q) (ai _) ?_,rfl,q.at (I3.hok.fresh (ai _))⟩;exact⟨by right,its.reverse,0,zfz r,aq _ rfl⟩
def zpm (q:QE X e te):QE X (.Subscript e (.Slice none none (some (.UnaryOp .USub (.Constant (.int 1) j p4) p3)) p2) pos) (zsR te):=⟨zoU q.run⟩
def zvh:V->V->V->Hp->(Hp->Prop)->Prop:=λo i v H Q=>∃p xs k,o = .ref p/\i = .int k/\H p=some (.lst xs)/\0<=k/\k<xs.length/\Q (upd H p (.lst (xs.set k.toNat v)))
def zpn(ho:QE X o to)(hi:QE X i ti)(ha:∀v,assign (.Subscript o i pos) X.env v=(do
   let ov <- holding [v] (eval o X.env)
   let iv <- holding [v,ov] (eval i X.env)
   standAt pos
   holding [v,ov,iv] (setItem ov iv v)
   release [v,ov,iv] []):=by intro _;rfl):QG X (.Subscript o i pos) (gSub to ti zvh):=
 ⟨zrW ho.run hi.run (by rintro pins s σ H o i v ov iv u Q I ro ri rv ⟨p,xs,k,e1,e2,hp,h0,h1,q⟩;exact zmi pins s σ H o i v ov iv u Q I ro ri rv ⟨p,xs,k,k.toNat,e1,e2,hp,by unfold ixN;rw[if_pos h0,if_pos h1],q⟩) ha⟩
end
def chg (st:AG)(b w:Int):AG:=st.take b.toNat++[w]++st.drop (b.toNat+1)
def znI (st:AG){b w:Int}(q:0<=b):zcK (st.map V.int) none (some b)++[.int w]++zcK (st.map V.int) (some (b+1)) none=(chg st b w).map V.int:=by
 obtain⟨j,rfl⟩:∃j:Nat,b=j:=⟨b.toNat,by lia⟩;rw[zin,show ((j:Int)+1)=((j+1:Nat):Int) by lia,zim];unfold chg;right
def zdt {st:AG}{b w:Int}(q:0<=b)(h1:b<st.length):(chg st b w).length=st.length:=by
 unfold chg;grind
def ur {st:AG}{b w c:Int}(B:0<=b)(h1:b<st.length)(F:0<=c):yh (chg st b w) c=if c=b then w else yh st c:=by
 obtain⟨j,rfl⟩:∃j:Nat,b=j:=⟨b.toNat,by lia⟩;obtain⟨k,rfl⟩:∃k:Nat,c=k:=⟨c.toNat,by lia⟩;have I:j<st.length:=by lia
 unfold yh chg;simp only[aR,ba];have q:(st.take j).length=j:=by rw[aN];lia
 rcases ck k j with h | h | h;rw[if_neg (by lia),b5,a6 (by rw[q];exact h),dr h];right;rw[if_neg (by lia),b5,bf (by rw[q];lia),q];obtain⟨m,rfl⟩:∃m,k=j+1+m:=⟨k - (j+1),by lia⟩;rw[show j+1+m - j=m+1 by lia];right
def xS (st:AG)(g:List (Int×Int)):Bool:=g.all λq=>decide (yh st q.1=q.2)
def uU (st:AG)(x:Wi):Bool:=decide (yh st x.b=x.w)&&xS st x.g
def zqW (B q:AG)(x:Wi):Bool:=uU B x&&decide (chg B x.b x.r=q)
def zsV (x:Wi):Wi:={ x with r:=x.w,w:=x.r }
def zc6:∀bk:AW,Dt.noLs (bk.map z8)=true
 | []=>rfl
 | x::bk=>by change ((z8 x).noL&&Dt.noLs (bk.map z8))=true;rw[zg1,zc6 bk];rfl
def zK (st:AG)(j:Nat):yh st (j:Int)=st.getD j 0:=by unfold yh;simp
def zbp {st:AG}{r b:Int}(B:0<=b)(h1:b<st.length):yh (st++[r]) b=yh st b:=by
 obtain⟨j,rfl⟩:∃j:Nat,b=j:=⟨b.toNat,by lia⟩;have q:j<st.length:=by lia
 rw[zK,zK,ba,ba,a6 q]
def zbo {st:AG}{r:Int}:yh (st++[r]) (st.length:Int)=r:=by rw[zK,ba,bf (ai _),Nat.sub_self];rfl
def zf9 {st:AG}{i:Nat}{m:Int}(h:st[i]?=some m):yh st (i:Int)=m:=by rw[zK,ba,h];rfl
def xM {rm:AG}(B:∀r∈rm,2<=r/\r<=4){b:Int}(F:0<=b)(h1:b<rm.length):2<=yh rm b/\yh rm b<=4:=by
 obtain⟨j,rfl⟩:∃j:Nat,b=j:=⟨b.toNat,by lia⟩;have q:j<rm.length:=by lia
 rw[zf9 (ah q)];right
def zfa:∀st:AG,Dt.noLs (st.map .int)=true
 | []=>rfl
 | _::st=>by change (true&&Dt.noLs (st.map .int))=true;rw[zfa st];rfl
def zlr (st:AG):PySem.W.kqdOk 7 (Dt.tup (st.map .int)).toW=true:=by
 have e:∀ns:AG,(Dt.toWs (ns.map .int)).all (PySem.W.kqdOk 6)=true:=by
  intro ns
  induction ns with
  | nil=>rfl
  | cons n ns q=>simp only[aB,Dt.toWs,cP,q,cA];rfl
 exact e st
def zpv{X:Cx}{ifs:AO}{scope:Scope}{pos spos:Pos}{wi:TI}{g:TG}{ti:TT}{te:TE}{N:AM}{nx:Str}(q:X.N.Nodup)(B:X.N[ix]?=some nx)(F:X.env.scope.names.lookup nx=some .local)(O:X.calm=true)(c:CompOk X scope N cix)(hi:QI X tg iter wi)(Y:∀C s H ex,QG (zt X scope N C s H ex) tg g)(Z:∀C s H ex,QTs (zt X scope N C s H ex) ifs ti)(he:∀C s H ex,QE (zt X scope N C s H ex) elt te)(J:swapsWithSole [.Name nx px] (.ListComp elt [⟨tg,iter,ifs,0⟩] scope pos) spos.line X.env=pure true:=by rfl)(hs:∀x,foldedSetIterable iter X.env x=pure x:=by intro _;rfl)(L:(assignEach [.Name nx px] X.env).map (·.2)=[assign (.Name nx px) X.env]:=by rfl):QS X (.Assign [.Name nx px] (.ListComp elt [⟨tg,iter,ifs,0⟩] scope pos) spos) (zfC (zkk wi g ti te cix) (uT ix)):=⟨λpins s σ H D I h=>zdo q B F J L (λ_=>rfl) λU Qp hf=>ze4 (Fin:=λacc H=>D.nx (σ.set ix (some (.ref acc))) H) (uj c) O hi.run (zbK λC s H ex=>(Y C s H ex).run) (zbK λC s H ex=>(Z C s H ex).run) (zbK λC s H ex=>(he C s H ex).run) hs I h hf⟩
section
variable {prog:Aa}{w:Ab}{A:Ae}{E:AA}{s:AZ}
variable {X:Cx}
variable {R:Result->AZ->Prop}
def zbB(I:Nat->AZ->Prop)(turn:∀n s,I n s->Ag prog w A (pyNext it) (λr s₁=>match r with
   | none=>R (.ok .next) s₁
   | some v=>Ag prog w A (letOwnedTupleGo target it v) (λ_ s₂=>Ag prog w A (assign target env v) (λ_ s₃=>
     Ag prog w A (forIn ifs true λc r=>if r=true then do let ok <- isTrue c env (eval c env);pure (ForInStep.yield ok) else pure (ForInStep.yield r)) (λok s₄=>
      if ok=true then Ag prog w A (eval elt env) (λx s₅=>
       Ag prog w A (call (.builtin "list.append") [acc,x]) (λ_ s₆=>∃m,m<n/\I m s₆) (λ_ _=>False) s₅) (λ_ _=>False) s₄
      else ∃m,m<n/\I m s₄) (λ_ _=>False) s₃) (λ_ _=>False) s₂) (λ_ _=>False) s₁) (λ_ _=>False) s)(n:Nat)(h:I n s) :
  codeAny (model prog w) A (.compLoop (.ListComp elt [c1,⟨target,iter,ifs,0⟩] scope pos) 1 it acc env) R s:=by
 show eM rfl I (λn s hI=>?_) n h;change wpAny _ A ((compTurn (.ListComp elt [c1,⟨target,iter,ifs,0⟩] scope pos) 1 it acc env).onRaise (λx=>do noteFrame x env;theTreesLotGoes x)) _ _ s;show ff ?_;unfold compTurn;show aa (bK (aa (aQ (turn n s hI) (λr s₁ h₁=>?_) λ_ _ h'=>h'.elim)))
 cases r with
 | none=>exact ae h₁
 | some v=>
  show aa (aQ h₁ (λ_ s₂ h₂=>?_) λ_ _ h'=>h'.elim);show aa (aQ h₂ (λ_ s₃ h₃=>aa (aQ h₃ (λok s₄ h₄=>?_) λ_ _ h'=>h'.elim)) λ_ _ h'=>h'.elim)
  cases ok with
  | false=>exact ae ⟨rfl,h₄⟩
  | true=>
   exact aa (aa (aQ h₄ (λx s₅ h₅=>aa (aQ h₅ (λ_ s₆ h₆=>ae (ae ⟨rfl,h₆⟩)) λ_ _ h'=>h'.elim)) λ_ _ h'=>h'.elim))
def zay(h1:codeAny (model prog w) A (.compLoop (.ListComp elt [c1,⟨target,iter,ifs,0⟩] scope pos) 1 it acc env) R s)(h2:Ag prog w A (pyIter it) (λit' s'=>codeAny (model prog w) A (.compLoop (.ListComp elt [c1,⟨target,iter,ifs,0⟩] scope pos) 1 it' acc env) R s') (λ_ _=>False) s) :
  codeAny (model prog w) A (.compStart (.ListComp elt [c1,⟨target,iter,ifs,0⟩] scope pos) 1 it acc env) R s:=by
 show dC ?_;change wpAny _ A ((compStart (.ListComp elt [c1,⟨target,iter,ifs,0⟩] scope pos) 1 it acc env).onRaise (λx=>do noteFrame x env;standAt theWindowsPlace)) _ _ s;show fm ?_;unfold compStart;rw[if_neg (by change ¬ ((0 != 0)=true);decide)];show aa (bp ?_);split;exact ae ⟨rfl,h1⟩;show aa (dM ?_);show aa (bK ?_);show aa (aQ h2 (λit' s' h'=>ae ⟨rfl,h'⟩) λ_ _ h'=>h'.elim)
def zbb(hf:∀x,foldedSetIterable it2 env x=pure x)(I:Nat->AZ->Prop)(turn:∀n s,I n s->Ag prog w A (pyNext it) (λr s₁=>match r with
   | none=>R (.ok .next) s₁
   | some v=>Ag prog w A (letOwnedTupleGo target it v) (λ_ s₂=>Ag prog w A (assign target env v) (λ_ s₃=>
     Ag prog w A (forIn ifs true λc r=>if r=true then do let ok <- isTrue c env (eval c env);pure (ForInStep.yield ok) else pure (ForInStep.yield r)) (λok s₄=>
      if ok=true then Ag prog w A (eval it2 env) (λx s₅=>Ag prog w A (pyIter x) (λiv s₆=>
       codeAny (model prog w) A (.compStart (.ListComp elt [⟨target,iter,ifs,0⟩,⟨t2,it2,ifs2,0⟩] scope pos) 1 iv acc env) (λr s₇=>match r with
        | .ok _=>∃m,m<n/\I m s₇
        | .error _=>False) s₆) (λ_ _=>False) s₅) (λ_ _=>False) s₄
      else ∃m,m<n/\I m s₄) (λ_ _=>False) s₃) (λ_ _=>False) s₂) (λ_ _=>False) s₁) (λ_ _=>False) s)(n:Nat)(h:I n s) :
  codeAny (model prog w) A (.compLoop (.ListComp elt [⟨target,iter,ifs,0⟩,⟨t2,it2,ifs2,0⟩] scope pos) 0 it acc env) R s:=by
 show eM rfl I (λn s hI=>?_) n h;change wpAny _ A ((compTurn (.ListComp elt [⟨target,iter,ifs,0⟩,⟨t2,it2,ifs2,0⟩] scope pos) 0 it acc env).onRaise (λx=>do noteFrame x env;theTreesLotGoes x)) _ _ s;show ff ?_;unfold compTurn;show aa (bK (aa (aQ (turn n s hI) (λr s₁ h₁=>?_) λ_ _ h'=>h'.elim)))
 cases r with
 | none=>exact ae h₁
 | some v=>
  show aa (aQ h₁ (λ_ s₂ h₂=>?_) λ_ _ h'=>h'.elim);show aa (aQ h₂ (λ_ s₃ h₃=>aa (aQ h₃ (λok s₄ h₄=>?_) λ_ _ h'=>h'.elim)) λ_ _ h'=>h'.elim)
  cases ok with
  | false=>exact ae ⟨rfl,h₄⟩
  | true=>
   show aa (aQ h₄ (λx s₅ h₅=>?_) λ_ _ h'=>h'.elim);show aa (bK ?_);show wpAny _ _ (foldedSetIterable it2 env x >>= _) _ _ _;rw[hf];show aa (ae ?_);show wpAny _ _ (holding [x] (pyIter x) >>= _) _ _ _;show aa (be (aQ h₅ (λiv s₆ h₆=>?_) λ_ _ h'=>h'.elim));show aa (wpAny_runOwn (h:=none) ?_);show dR (show codeAny (model prog w) (A.mark none) _ _ s₆ from h₆) λr s₇ h₇=>?_
   cases r with
   | ok f=>exact ae ⟨rfl,h₇⟩
   | error e=>exact h₇.elim
end
def ziS (J:It)(g:TG)(ti:TT)(te:TE)(acc:Addr)(N:St->Hp->Prop)(σ:St)(H:Hp):Prop:=∃W:Nat->Nat->St->Hp->Prop,(∃m,W 0 m σ H)/\
 ∀i m q H',W i m q H'->(J.stop i H'/\N q H')\/(J.go i H'/\∃N2:St->Hp->Prop,(∀ B H2,N2 B H2->∃F,F<m/\W (i+1) F B H2)/\∀x H2,J.yld i H' x H2->zhs g ti te acc N2 x q H2)
def zie (g:TG)(ti:TT)(wi2:TI)(g2:TG)(ti2:TT)(te:TE)(acc:Addr)(N:St->Hp->Prop)(x:V)(σ:St)(H:Hp):Prop:=
 g x σ H λq H3=>ti q H3 λB H4=>if B=true then wi2 q H4 λJ2 H5=>ziS J2 g2 ti2 te acc N q H5 else N q H4
def zmF (J:It)(g:TG)(ti:TT)(wi2:TI)(g2:TG)(ti2:TT)(te:TE)(acc:Addr)(Q:VK)(σ:St)(H:Hp):Prop:=∃W:Nat->Nat->St->Hp->Prop,(∃m,W 0 m σ H)/\
 ∀i m q H',W i m q H'->(J.stop i H'/\Q (.ref acc) H')\/(J.go i H'/\∃N:St->Hp->Prop,(∀ B H2,N B H2->∃F,F<m/\W (i+1) F B H2)/\∀x H2,J.yld i H' x H2->zie g ti wi2 g2 ti2 te acc N x q H2)
def znp (wi:TI)(g:TG)(ti:TT)(wi2:TI)(g2:TG)(ti2:TT)(te:TE)(cix:List (Option Nat)):TE:=λσ H Q=>wi σ H λJ H1=>∀acc,H1 acc=none->zmF J g ti wi2 g2 ti2 te acc Q (zaF σ cix) (upd H1 acc (.lst []))
section
variable {X:Cx}{Fam:Cx->Prop}{scope:Scope}{N:AM}{cix:List (Option Nat)}{z:Str}{use:Option (Value->Sem Unit)}{Qp:AA}{elt ke ve tg iter tg2 iter2:Expr}{ifs ifs2:AO}{pos ipos spos px:Pos}{wi wi2:TI}{g g2:TG}{ti ti2:TT}{te tk tv:TE}{pins:AB}{σ:St}{H:Hp}{s:AZ}{Q:VK}{o0:HO}
def zhq (O:Opn X scope cix Fam)(hc:X.calm=true)(hi:PI X tg iter wi)(hg:∀X',Fam X'->PG X' tg g)(ht:∀X',Fam X'->PTs X' ifs ti)(ad:∀X',Fam X'->PI X' tg2 iter2 wi2)(ag:∀X',Fam X'->PG X' tg2 g2)(al:∀X',Fam X'->PTs X' ifs2 ti2)(he:∀X',Fam X'->PE X' elt te)
  (hs:∀x,foldedSetIterable iter X.env x=pure x) (an:∀X',Fam X'->∀x,foldedSetIterable iter2 X'.env x=pure x) (I:Inv X pins σ H s) (h:znp wi g ti wi2 g2 ti2 te cix σ H Q) (Y:ztO X pins σ use Qp Q) :
  Af X (comprehension (.ListComp elt [⟨tg,iter,ifs,0⟩,⟨tg2,iter2,ifs2,0⟩] scope pos) scope X.env ipos (newList []) false (eval iter X.env) use) Qp X.xe s:=
 zaG (ob:={ cls:=.type "list",dict:=none,data:=.seq ([]:AN).toArray }) (o0:=λ_=>.lst []) (Fin:=λacc H=>Q (.ref acc) H)
  (B:=λX' acc P s=>wpAny (model X'.prog X'.w) X'.A (eval iter2 X'.env) (λx s5=>wpAny (model X'.prog X'.w) X'.A (pyIter x) (λiv s6=>codeAny (model X'.prog X'.w) X'.A (.compStart (.ListComp elt [⟨tg,iter,ifs,0⟩,⟨tg2,iter2,ifs2,0⟩] scope pos) 1 iv (.ref acc) X'.env) (λr s7=>match r with | .ok _=>P s7 | .error _=>False) s6) (λ_ _=>False) s5) (λ_ _=>False) s) (tb:=λacc Nx σ H=>wi2 σ H λJ2 H5=>ziS J2 g2 ti2 te acc Nx σ H5)
  O hc rfl hs (λ_ _ _ _ _ h0 h1=>codeAny_compStart_list h0 h1) (λX' U _ _ _ _ I F n h=>zbb (an X' U) I F n h) (λs Q h=>bh h) (λ_ _=>⟨aK _,[],0,.nil,aq _ rfl⟩) hi hg ht (λX' U pX wX AX cX xX acc pl s σ H Nx P I q k=>by
  have e9:=ad X' U pl s σ H _ I q;rw[xX] at e9;show thn e9 λxv s1 h1=>thn h1 λas s2 h2=>?_;obtain⟨it,fp,tn,J,H2,e,I2,T,Z,f2,W,⟨m0,w0⟩,F⟩:=h2;subst e
  have L:=ze6 (X:=X') (e:=.ListComp elt [⟨tg,iter,ifs,0⟩,⟨tg2,iter2,ifs2,0⟩] scope pos) (pl:=pl) (R:=λr s7=>match r with | .ok _=>P s7 | .error _=>False) (k:=1) (B:=λP s=>wpAny (model X'.prog X'.w) X'.A (eval elt X'.env) (λx s5=>wpAny (model X'.prog X'.w) X'.A (call (.builtin "list.append") [.ref acc,x]) (λ_ s6=>P s6) (λ_ _=>False) s5) (λ_ _=>False) s) (tb:=λNx σ H=>te σ H λv H'=>∃xs,H' acc=some (.lst xs)/\xs.length<sizeLine/\Nx σ (upd H' acc (.lst (xs++[v]))))
   (λ_ _ I F n h=>zbB I F n h) cX xX T (λhn b hb=>⟨hn b hb,(f2 b hb).2⟩) (ag X' U) (al X' U) (λ_ _ _ _ _ _ I q k=>zgw (he X' U) xX I q k) F (λap H' s' I' q'=>k ap H' s' I' q') I2 Z (λb hb=>(f2 b hb).1) w0
  exact zay L (T.self X'.A 0 _ _ _ Z L)) I h (λJ H1 acc q hn=>q acc hn) Y
end
def zl7{X:Cx}{ifs ifs2:AO}{scope:Scope}{pos spos:Pos}{wi wi2:TI}{g g2:TG}{ti ti2:TT}{te:TE}{N:AM}{nx:Str}(q:X.N.Nodup)(B:X.N[ix]?=some nx)(F:X.env.scope.names.lookup nx=some .local)(hc:X.calm=true)(c:CompOk X scope N cix)(hi:QI X tg iter wi)(hg:∀C s H ex,QG (zt X scope N C s H ex) tg g)(ht:∀C s H ex,QTs (zt X scope N C s H ex) ifs ti)(J:∀C s H ex,QI (zt X scope N C s H ex) tg2 iter2 wi2)(L:∀C s H ex,QG (zt X scope N C s H ex) tg2 g2)(O:∀C s H ex,QTs (zt X scope N C s H ex) ifs2 ti2)(he:∀C s H ex,QE (zt X scope N C s H ex) elt te)(Y:swapsWithSole [.Name nx px] (.ListComp elt [⟨tg,iter,ifs,0⟩,⟨tg2,iter2,ifs2,0⟩] scope pos) spos.line X.env=pure true:=by rfl)(hs:∀x,foldedSetIterable iter X.env x=pure x:=by intro _;rfl)(Z:∀C s H ex x,foldedSetIterable iter2 (zt X scope N C s H ex).env x=pure x:=by intro _ _ _ _ _;rfl)(ad:(assignEach [.Name nx px] X.env).map (·.2)=[assign (.Name nx px) X.env]:=by rfl):QS X (.Assign [.Name nx px] (.ListComp elt [⟨tg,iter,ifs,0⟩,⟨tg2,iter2,ifs2,0⟩] scope pos) spos) (zfC (znp wi g ti wi2 g2 ti2 te cix) (uT ix)):=⟨λpins s σ H D I h=>zdo q B F Y ad (λ_=>rfl) λU Qp hf=>zhq (Q:=λv H=>D.nx (σ.set ix (some v)) H) (uj c) hc hi.run (zbK λC s H ex=>(hg C s H ex).run) (zbK λC s H ex=>(ht C s H ex).run) (zbK λC s H ex=>(J C s H ex).run) (zbK λC s H ex=>(L C s H ex).run) (zbK λC s H ex=>(O C s H ex).run) (zbK λC s H ex=>(he C s H ex).run) hs (zbK λC s H ex=>Z C s H ex) I h hf⟩
section
variable {K:AH}{a acc:Addr}{xs:AT}{g:TG}{ti:TT}{wi2:TI}{g2:TG}{ti2:TT}{te:TE}{σ:St}{H:Hp}{Q:VK}{N:St->Hp->Prop}
def zhr (B:H acc=none)(Pv:Nat->St->Hp->Prop)(I:∀H',H' acc=some (.lst [])->y3 H H'->Pv 0 σ H')(J:∀i σ H,i<=xs.length->Pv i σ H->SqL K H a xs)
  (hs:∀i x σ H,xs[i]?=some x->Pv i σ H->zie g ti wi2 g2 ti2 te acc (Pv (i+1)) x σ H) (L:∀ σ H,Pv xs.length σ H->Q (.ref acc) H):zmF (Itl K a) g ti wi2 g2 ti2 te acc Q σ (upd H acc (.lst [])):=by
 show⟨λi m σ H=>m=xs.length - i/\i<=xs.length/\Pv i σ H,⟨xs.length,by simp,aK _,I _ zj (y3.upd B)⟩,?_⟩;rintro i m σ H ⟨rfl,hi,p⟩;have q:=J i σ H hi p;by_cases F:i<xs.length;show .inr ⟨⟨xs,xs[i],q,by simp[F]⟩,Pv (i+1),λO H' U=>⟨xs.length - (i+1),by lia,rfl,F,U⟩,λx H' y=>?_⟩;obtain⟨e,y⟩:=y;subst e;exact hs i x σ _ (y xs q) p;have e:i=xs.length:=by lia
 subst e;exact .inl ⟨⟨xs,q,ai _⟩,L σ H p⟩
def zhz (Pv:Nat->St->Hp->Prop)(F:Pv 0 σ H)(I:∀i σ H,i<=xs.length->Pv i σ H->SqL K H a xs)
  (hs:∀i x σ H,xs[i]?=some x->Pv i σ H->zhs g ti te acc (Pv (i+1)) x σ H) (J:∀ σ H,Pv xs.length σ H->N σ H):ziS (Itl K a) g ti te acc N σ H:=by
 show⟨λi m σ H=>m=xs.length - i/\i<=xs.length/\Pv i σ H,⟨xs.length,by simp,aK _,F⟩,?_⟩;rintro i m σ H ⟨rfl,hi,p⟩;have q:=I i σ H hi p;by_cases B:i<xs.length;show .inr ⟨⟨xs,xs[i],q,by simp[B]⟩,Pv (i+1),λL H' O=>⟨xs.length - (i+1),by lia,rfl,B,O⟩,λx H' y=>?_⟩;obtain⟨e,y⟩:=y;subst e;exact hs i x σ _ (y xs q) p;have e:i=xs.length:=by lia
 subst e;exact .inl ⟨⟨xs,q,ai _⟩,J σ H p⟩
end
section
variable {X:Cx}
def zkT:CallQ X (.type "range") (λxs H Q=>∃n,xs=[.int n]/\New H (.rng 0 n) Q):=⟨by
 intro pins s σ H xs F Q I r h;obtain⟨n,rfl,q⟩:=h;obtain⟨u,rfl,B⟩:=zaD r;obtain⟨t,rfl⟩:=B;show call_range_1 ?_;show⟨.ref s.heap.objs.size,_,I.laid (t':=s.toks+1+1) (o:=.rng 0 n) (λb ob q=>af _ q) (ai _) ?_,rfl,q.at (I.hok.fresh (ai _))⟩;exact⟨_,_,_,aq _ rfl⟩⟩
def zhd (n:Nat):Builtin.Range.rangeSize 0 (n:Int) 1=n:=by
 unfold Builtin.Range.rangeSize;grind
def zky:∀ {xs:AT} {q:AN},xs.length=q.length->(∀ (i:Nat) x u,xs[i]?=some x->q[i]?=some u->yF x u)->z0 xs q
 | [],[],_,_=>.nil
 | [],_::_,h,_=>by simp at h
 | _::_,[],h,_=>by simp at h
 | x::xs,u::q,h,k=>.cons (k 0 x u rfl rfl) (zky (by simpa using h) λi y v B F=>k (i+1) y v B F)
def zfJ (U:X.calm=true):CallQ X (.type "list") (λxs H Q=>∃ (p:Addr) (n:Nat),xs=[.ref p]/\H p=some (.rng 0 n)/\n<=1000/\New H (.lst ((List.range n).map λi:Nat=>V.int i)) Q):=⟨by
 intro pins s σ H xs us Q I r h;obtain⟨p,n,rfl,Y,L,q⟩:=h;obtain⟨u,rfl,Z⟩:=zaD r;cases Z;obtain⟨t,u,v,ho⟩:=I.hok p _ Y;have J:n<sizeLine:=zcz L;show call_list_range (a:=0) (b:=n) (c:=1) (n:=n) (I.ok.hd U) ho ?_ ?_ (aw L (by ext)) λh' tk B c' kp hg F=>?_;have e:=zhd n;unfold Builtin.Range.small;rw[e];simp[Builtin.Range.rangeFitsLong];lia;exact zhd n
 have hv:z0 ((List.range n).map λi:Nat=>V.int i) B.toList:=by
  show zky (by rw[ab,az,aZ,F.1]) λj x u O hu=>?_;rw[aj] at O;obtain⟨k,hk,rfl⟩:=aA.mp O;obtain⟨ad,e⟩:=ac.mp hk;have:k=j:=by simpa using e.symm
  subst this;obtain⟨t',rfl⟩:=F.2 k u (by simpa using hu);exact⟨t',by lia⟩
 show⟨.ref s.heap.objs.size,_,I.laid (t':=tk) (o:=.lst ((List.range n).map λi:Nat=>V.int i)) kp (ai _) ?_,rfl,q.at (I.hok.fresh (ai _))⟩;exact⟨by rw[ab,az];exact cg J,B.toList,c',hv,by simpa using hg⟩⟩
end
def zk (m:Int):AG:=(List.range m.toNat).map λi:Nat=>(i:Int)
def xC (q:AF)(B:AG):AF:=q.flatMap λr=>B.map λw=>r++[w]
def yj (cs:AF):AF:=cs.foldl xC [[]]
def yY (cs:AF)(c:AG):yj (cs++[c])=xC (yj cs) c:=by
 unfold yj;right
abbrev stD (st:AG):Dt:=.tup (st.map .int)
def xU:∀sts:AF,Dt.noLs (sts.map stD)=true
 | []=>rfl
 | st::sts=>by show ((stD st).noL&&Dt.noLs (sts.map stD))=true;rw[xU sts,show (stD st).noL=true from zfa st];rfl
def zb9 (sts:AF):(Dt.lst (sts.map stD)).eqOk:=by
 have e:∀sts:AF,(Dt.toWs (sts.map stD)).all (PySem.W.kqdOk 7)=true:=by
  intro sts
  induction sts with
  | nil=>rfl
  | cons m B q=>simp only[aB,Dt.toWs,cP,q,show PySem.W.kqdOk 7 (stD m).toW=true from zlr m,cA]
 exact e sts
def zqi (H:Hp)(xs:AT)(cs:AF):Prop:=xs.length=cs.length/\∀ (i:Nat) c,cs[i]?=some c->∃a,xs[i]?=some (.ref a)/\H a=some (.lst (c.map V.int))
def zdg (K:AH):Sp:=λvs H Q _=>∃ (q:Addr) (xs:AT) (cs:AF),vs=[.ref q]/\H q=some (.lst xs)/\zqi H xs cs/\cs.length<=8/\(∀c∈cs,c.length<=4)/\
 ∀ (a:Addr) (ys:AT) (H':Hp),H a=none->H' a=some (.lst ys)->IsL H' ((yj cs).map stD) ys->y3 H H'->Q (.ref a) H'
def zbV (q:AF)(r B:AG):xC (q++[r]) B=xC q B++B.map λw=>r++[w]:=by
 unfold xC;right
def ue (q:AF)(B:AG):(xC q B).length=q.length * B.length:=by
 unfold xC;rw[List.length_flatMap]
 induction q with
 | nil=>simp
 | cons r q F=>rw[aB,List.sum_cons,F,ab,aO,Nat.succ_mul,Nat.add_comm]
def zdl:∀ (cs:AF) (q:AG),q∈yj cs->q.length=cs.length:=by
 intro cs
 have:∀ (n:Nat) (cs:AF),cs.length=n->∀q,q∈yj cs->q.length=cs.length:=by
  intro n
  induction n with
  | zero=>
   intro cs h q B;have:cs=[]:=bi h;subst this;have:q=[]:=by simpa [yj] using B
   right
  | succ n I=>
   intro cs h q B;have F:cs≠[]:=by intro z;rw[z] at h;simp at h
   rw[<- bm F,yY] at B;unfold xC at B;grind
 exact this cs.length cs rfl
def zny:∀ (n:Nat) (cs:AF),cs.length=n->(∀c∈cs,c.length<=4)->(yj cs).length<=4 ^ n:=by
 intro n
 induction n with
 | zero=>
  intro cs h _;have:cs=[]:=bi h;subst this;exact ai _
 | succ n F=>
  intro cs h B;have q:cs≠[]:=by intro z;rw[z] at h;simp at h
  rw[<- bm q,yY,ue,Nat.pow_succ];exact Nat.mul_le_mul (F cs.dropLast (by grind) λc I=>B c ((List.dropLast_sublist cs).subset I)) (B _ (List.getLast_mem q))
def zgv {cs:AF}(F:cs.length<=8)(q:∀c∈cs,c.length<=4)(k:Nat):(yj (cs.take k)).length<=65536:=by
 show aw (zny _ (cs.take k) rfl λc B=>q c (bW B)) ?_;have:(cs.take k).length<=8:=by rw[aN];lia
 exact aw (cE (by ext) this) (by ext)
def yL (m:Int):(zk m).length=m.toNat:=by unfold zk;rw[ab,az]
section
variable {X:Cx}{o:Expr}{to:TE}{apos cpos:Pos}
end
open PySem.W
inductive Run (ans:Nat->Nat->Bool) (n:Nat):{α:Type}->KasT α->α->Prop
 | ret {α:Type} (a:α):Run ans n (.ret a) a
 | ask {α:Type} {i j:Nat} {k:Bool->KasT α} {a:α} (hi:i<n) (hj:j<n) (h:Run ans n (k (ans i j)) a):Run ans n (.ask i j k) a
def Run.bind{α B:Type}{t:KasT α}{f:α->KasT B}{a:α}{b:B}(h:Run q n t a)(k:Run q n (f a) b):Run q n (t.bind f) b:=by
 induction h with
 | ret a=>exact k
 | ask hi F _ I=>exact .ask hi F (I k)
def Run.wp{q:Nat->Nat->Bool}{α:Type}{t:KasT α}{a:α}(h:Run q n t a){B:Nat->Nat->(Bool->AZ->Prop)->AZ->Prop}{S:AZ->Prop}{Q:α->AZ->Prop}(I:∀i j C s,i<n->j<n->S s->(∀s',S s'->C (q i j) s')->B i j C s)(F:∀s,S s->Q a s):∀s,S s->KasT.kasWp B t Q s:=by
 induction h with
 | ret a=>intro s hs;rw[KasT.kasWp.eq_1];exact F s hs
 | ask hi J _ L=>
  intro s hs;rw[KasT.kasWp.eq_2];right
section
variable {n:Nat}{f:Nat->Int}
def zfA (f:Nat->Int)(i j:Nat):Bool:=decide (f i<f j)
def key (f:Nat->Int)(p:Array Nat)(k:Nat):Int:=f (p.getD k 0)
structure Up (n:Nat)(f:Nat->Int)(p:Array Nat)(m:Nat):Prop where
 perm:p.Perm (List.range n).toArray
 le:m<=n
 up:∀k,k+1<m->key f p k<key f p (k+1)
def uk {p:Array Nat}(h:p.Perm (List.range n).toArray):p.size=n:=by have:=h.size_eq;simpa using this
def yA{p:Array Nat}(h:p.Perm (List.range n).toArray)(B:k<n):p.getD k 0<n:=by
 have hs:=uk h;have q:p.getD k 0∈p:=by right
 have:=(h.mem_iff).mp q;simpa using this
def Up.lt_of(h:Up n f p m):∀ {i j:Nat},i<j->j<m->key f p i<key f p j:=by
 intro i j
 induction j with
 | zero=>intro F;lia
 | succ j I=>
  intro q B;have h1:=h.up j B;grind
def zfF (p:Array Nat)(q:p.Perm (List.range n).toArray):∀ (g x:Nat),1<=x->x+g<=n->∃m,Run (zfA f) n (kas_asc p g x) m/\x<=m/\m<=x+g/\(∀k,x<=k->k<m->¬ key f p k<key f p (k - 1))/\(m<x+g->key f p m<key f p (m - 1))
 | 0,x,_,_=>⟨x,by rw[kas_asc.eq_1];exact .ret _,ai _,ai _,by grind,λh=>by lia⟩
 | g+1,x,L,O=>by
  rw[kas_asc.eq_2];by_cases B:key f p x<key f p (x - 1);show⟨x,.ask (yA q (by lia)) (yA q (by lia)) ?_,ai _,by lia,by grind,λ_=>B⟩;rw[show zfA f (p.getD x 0) (p.getD (x - 1) 0)=true from a9 B,if_pos rfl];exact .ret _;obtain⟨m,h1,h2,U,F,I⟩:=zfF p q g (x+1) (by lia) (by lia);show⟨m,.ask (yA q (by lia)) (yA q (by lia)) ?_,by lia,by lia,λk Y J=>?_,λh=>I (by lia)⟩;rw[show zfA f (p.getD x 0) (p.getD (x - 1) 0)=false from bc B,if_neg aI];exact h1;by_cases e:k=x;subst e;exact B;exact F k (by lia) J
def zbS (n:Nat)(f:Nat->Int):Prop:=∀i j,i<n->j<n->f i=f j->i=j
def zgV (J:zbS n f){p:Array Nat}(q:p.Perm (List.range n).toArray){i j:Nat}(hi:i<n)(L:j<n)(B:i≠j):key f p i≠key f p j:=by
 intro e;have I:=J _ _ (yA q hi) (yA q L) e;have hs:=uk q
 have F:p.toList.Nodup:=by
  have:p.toList.Perm (List.range n):=by have:=q.toList;simpa using this
  exact this.nodup_iff.mpr dY
 rw[bU,bU,cC (by lia),cC (by lia)] at I;have O:p.toList[i]'(by right)=p.toList[j]'(by right):=by simpa using I
 exact B ((cb F).mp O)
def zgG (I:zbS n f)(p:Array Nat)(q:p.Perm (List.range n).toArray):∀ (g x:Nat),1<=x->x+g<=n->∃m,Run (zfA f) n (kas_desc g p x 0) (p,m,0)/\x<=m/\m<=x+g/\(∀k,x<=k->k<m->key f p k<key f p (k - 1))
 | 0,x,_,_=>⟨x,by rw[kas_desc.eq_1];exact .ret _,ai _,ai _,by grind⟩
 | g+1,x,U,Y=>by
  rw[kas_desc.eq_2];by_cases B:key f p x<key f p (x - 1);obtain⟨m,h1,h2,Z,J⟩:=zgG I p q g (x+1) (by lia) (by lia);show⟨m,.ask (yA q (by lia)) (yA q (by lia)) ?_,by lia,by lia,λk k1 L=>?_⟩;rw[show zfA f (p.getD x 0) (p.getD (x - 1) 0)=true from a9 B,if_pos rfl,if_neg (by lia)];exact h1;by_cases e:k=x;subst e;exact B;exact J k (by lia) L;have O:=zgV I q (i:=x) (j:=x - 1) (by lia) (by lia) (by lia);have F:key f p (x - 1)<key f p x:=by lia
  show⟨x,.ask (yA q (by lia)) (yA q (by lia)) ?_,ai _,by lia,by grind⟩;rw[show zfA f (p.getD x 0) (p.getD (x - 1) 0)=false from bc B,if_neg aI];show .ask (yA q (by lia)) (yA q (by lia)) ?_;rw[show zfA f (p.getD (x - 1) 0) (p.getD x 0)=true from a9 F,if_pos rfl];exact .ret _
def zjf(q:j<=p.size)(k:Nat):key f (kas_rev p 0 j) k=if k<j then key f p (j - 1 - k) else key f p k:=by
 unfold key kas_rev;rw[bU,getElem?_mirror_all q];by_cases h:k<j;right;rw[if_neg (λz=>h z.2),if_neg h,bU]
def zmd(q:p.Perm (List.range n).toArray)(j:Nat):(kas_rev p 0 j).Perm (List.range n).toArray:=(mirror_perm p 0 j _).trans q
def zih (L:zbS n f)(hn:2<=n)(p:Array Nat)(B:p.Perm (List.range n).toArray):∃ (m:Nat) (q:Array Nat),Run (zfA f) n (kas_count n p) (m,q)/\1<=m/\Up n f q m:=by
 have hs:=uk B;obtain⟨m,h1,h2,h3,h4,h5⟩:=zfF (f:=f) p B (n - 1) 1 (ai _) (by lia);have F:Up n f p m:=⟨B,by lia,λk O=>by have U:=h4 (k+1) (by lia) O;rw[eO] at U;have:=zgV L B (i:=k) (j:=k+1) (by lia) (by lia) (by lia);lia⟩;unfold kas_count;by_cases ag:m=n;show⟨m,p,h1.bind ?_,h2,F⟩;rw[if_pos (by right)];exact .ret _;by_cases J:m > 1;show⟨m,p,h1.bind ?_,h2,F⟩;rw[if_neg (by right),if_pos J];show .ask (yA B (by lia)) (yA B (by lia)) ?_;have Y:key f p 0<key f p (m - 1):=F.lt_of (by lia) (by lia);rw[show zfA f (p.getD 0 0) (p.getD (m - 1) 0)=true from a9 Y,if_pos rfl];exact .ret _;have em:m=1:=by lia
 subst em;have Z:=h5 (by lia);obtain⟨d,g1,g2,g3,g4⟩:=zgG L p B (n - 2) 2 (by lia) (by lia);have I:=zmd B d;obtain⟨m2,a1,a2,a3,a4,_⟩:=zfF (f:=f) (kas_rev p 0 d) I (n - d) d (by lia) (by lia);show⟨m2,kas_rev p 0 d,h1.bind ?_,by lia,⟨I,by lia,λk O=>?_⟩⟩;rw[if_neg (by right),if_neg J];unfold kas_descPart;show Run.bind (a:=(p,d,0)) g1 ?_;rw[if_neg (by simp)];unfold kas_tail3;exact Run.bind a1 (.ret _);by_cases ad:k+1<d;rw[zjf (by lia),zjf (by lia),if_pos (by lia),if_pos ad];have e:d - 1 - k=(d - 1 - (k+1))+1:=by lia
 rw[e];by_cases e0:d - 1 - (k+1)=0;rw[e0];exact Z;have:=g4 (d - 1 - (k+1)+1) (by lia) (by lia);right;have U:=a4 (k+1) (by lia) O;rw[eO] at U;have:=zgV L I (i:=k) (j:=k+1) (by lia) (by lia) (by lia);lia
def zcj (p:Array Nat)(B:p.Perm (List.range n).toArray)(k:Nat)(I:k<n):∀ (g l r:Nat),r<=k->l<=r->r - l<=g->(∀i,i<l->¬ key f p k<key f p i)->(∀i,r<=i->i<k->key f p k<key f p i)->
  (∀i j,i<j->j<k->key f p i<key f p j)->
  ∃m,Run (zfA f) n (kas_place p k g l r) m/\m<=k/\(∀i,i<m->¬ key f p k<key f p i)/\(∀i,m<=i->i<k->key f p k<key f p i)
 | 0,l,r,h1,h2,h3,J,L,_=>⟨l,by rw[kas_place.eq_1];exact .ret _,by lia,J,λi hi=>L i (by lia)⟩
 | g+1,l,r,h1,h2,h3,J,L,q=>by
  rw[kas_place.eq_2];by_cases F:l ≥ r;show⟨l,?_,by lia,J,λi hi=>L i (by lia)⟩;rw[if_pos F];exact .ret _;rw[if_neg F];by_cases O:key f p k<key f p ((l+r) / 2)
  obtain⟨m,U,g2,Y,Z⟩:=zcj p B k I g l ((l+r) / 2) (by lia) (by lia) (by lia) J (λi hi ad=>by
   by_cases e:i=(l+r) / 2;rw[e];exact O;have:=q ((l+r) / 2) i (by lia) ad;lia) q
  show⟨m,.ask (yA B I) (yA B (by lia)) ?_,g2,Y,Z⟩;rw[show zfA f (p.getD k 0) (p.getD ((l+r) / 2) 0)=true from a9 O,if_pos rfl];exact U
  obtain⟨m,U,g2,Y,Z⟩:=zcj p B k I g ((l+r) / 2+1) r h1 (by lia) (by lia) (λi hi=>by
   by_cases e:i=(l+r) / 2;rw[e];exact O;have:=q i ((l+r) / 2) (by lia) (by lia);lia) L q
  show⟨m,.ask (yA B I) (yA B (by lia)) ?_,g2,Y,Z⟩;rw[show zfA f (p.getD k 0) (p.getD ((l+r) / 2) 0)=false from bc O,if_neg aI];exact U
def zc2 {p:Array Nat}{q d:Nat}(h1:q<p.size)(h2:d<=q)(k:Nat):key f (bubble p q d) k=if k=q - d then key f p q else if q - d<k/\k<=q then key f p (k - 1) else key f p k:=by
 unfold key;simp only[bU];rw[getElem?_bubble h1 d h2];grind
def zh9 (J:zbS n f):∀ (g k:Nat) (p:Array Nat),k+g=n->Up n f p k->∃q,Run (zfA f) n (kas_bin g p k) q/\Up n f q n
 | 0,k,p,O,h=>by
  have e:k=n:=by lia
  rw[e] at h;exact⟨p,by rw[kas_bin.eq_1];exact .ret _,h⟩
 | g+1,k,p,O,h=>by
  have hs:=uk h.perm;obtain⟨l,U,r2,Y,r4⟩:=zcj (f:=f) p h.perm k (by lia) k 0 k (ai _) (aK _) (by lia) (λi hi=>by lia) (λi h1 h2=>by lia) (λi j B Z=>h.lt_of B Z)
  have F:Up n f (bubble p k (k - l)) (k+1):=by
   show⟨(bubble_perm p k (k - l)).trans h.perm,by lia,λi hi=>?_⟩;rw[zc2 (by lia) (by lia),zc2 (by lia) (by lia)];have I:k - (k - l)=l:=by lia
   rw[I];by_cases e1:i=l;grind;rw[if_neg e1];by_cases e2:l<i;rw[if_pos (by lia),if_neg (by lia),if_pos (by lia),eO];exact h.lt_of (by lia) (by lia);rw[if_neg (by lia)];by_cases L:i+1=l;rw[if_pos L];have h1:=Y i (by lia);have h2:=zgV J h.perm (i:=i) (j:=k) (by lia) (by lia) (by lia);lia;rw[if_neg L,if_neg (by lia)];exact h.lt_of (by lia) (by lia)
  obtain⟨q,q1,q2⟩:=zh9 J g (k+1) (bubble p k (k - l)) (by lia) F;show⟨q,?_,q2⟩;rw[kas_bin.eq_2];exact Run.bind U q1
def zhg (B:zbS n f)(I:2<=n):∃q,Run (zfA f) n (kas_sort n) q/\Up n f q n:=by
 obtain⟨m,p,h1,h2,F⟩:=zih B I (List.range n).toArray (Array.Perm.refl _);unfold kas_sort;by_cases J:m<n;obtain⟨q,O,L⟩:=zh9 B (n - m) m p (by lia) F;show⟨q,Run.bind h1 ?_,L⟩;grind;have e:m=n:=by have:=F.le;lia
 show⟨p,Run.bind h1 ?_,by lia⟩;rw[if_neg J];exact .ret _
end
def zdN {prog:Aa}{w:Ab}{A:Ae}{s:AZ}{b:Bool}{Q:Bool->AZ->Prop}:∀ {ns B:AG} {xs ys:AN} (i:Nat),z0 (ns.map V.int) xs->z0 (B.map V.int) ys->ns.length=B.length->Q (HT.lexLt ns B) s->W.KatLex prog w A b false Q (xs.zip ys) i s
 | [],[],_,_,i,I,J,_,q=>by cases I;cases J;exact W.kat_nil q
 | [],_::_,_,_,_,_,_,h,_=>by simp at h
 | _::_,[],_,_,_,_,_,h,_=>by simp at h
 | a::ns,c::B,_,_,i,I,J,U,q=>by
  cases I with
  | cons Y L=>
   cases J with
   | cons Z O=>
    obtain⟨t,rfl⟩:=Y;obtain⟨u,rfl⟩:=Z;rw[List.zip_cons_cons];have F:Q (if a=c then HT.lexLt ns B else decide (a<c)) s:=q;show W.kat_cons (wpAny_eqBool_int ?_);by_cases e:a=c;rw[show (a==c)=true from by lia];rw[if_pos e] at F;exact W.kat_yes (zdN (i+1) L O (by simpa using U) F);rw[show (a==c)=false from beq_false_of_ne e];rw[if_neg e] at F;show W.kat_no ?_
    cases (b&&i==0) with
    | true=>exact oneLt_int F
    | false=>exact W.kat_one _ _ (P.lt_int F)
def yV:∀s:AG,HT.lexLt s s=false
 | []=>rfl
 | a::s=>by change (if a=a then HT.lexLt s s else _)=false;rw[if_pos rfl];exact yV s
def zaR:∀ {a b c:AG},a.length=b.length->b.length=c.length->HT.lexLt a b=true->HT.lexLt b c=true->HT.lexLt a c=true
 | [],[],[],_,_,h,_=>h
 | x::a,y::b,z::c,h1,h2,J,L=>by
  have q:(if x=y then HT.lexLt a b else decide (x<y))=true:=J;have B:(if y=z then HT.lexLt b c else decide (y<z))=true:=L;change (if x=z then HT.lexLt a c else decide (x<z))=true;by_cases F:x=y;by_cases I:y=z;rw[if_pos F] at q;rw[if_pos I] at B;rw[if_pos (F.trans I)];exact zaR (by simpa using h1) (by simpa using h2) q B;grind;grind
 | [],_::_,_,h,_,_,_=>by simp at h
 | _::_,[],_,h,_,_,_=>by simp at h
 | [],[],_::_,_,h,_,_=>by simp at h
 | _::_,_::_,[],_,h,_,_=>by simp at h
def uX:∀ {a b:AG},a.length=b.length->a=b\/HT.lexLt a b=true\/HT.lexLt b a=true
 | [],[],_=>.inl rfl
 | [],_::_,h=>by simp at h
 | _::_,[],h=>by simp at h
 | x::a,y::b,h=>by
  change _\/(if x=y then HT.lexLt a b else decide (x<y))=true\/(if y=x then HT.lexLt b a else decide (y<x))=true;by_cases e:x=y
  ·subst e;rw[if_pos rfl,if_pos rfl];rcases uX (a:=a) (b:=b) (by simpa using h) with h1 | h1 | h1
   all_goals right
  ·rw[if_neg e,if_neg (Ne.symm e)];rcases Int.lt_or_gt_of_ne e with h1 | h1
   all_goals right
def zgC {α:Type}{p q:α->Bool}:∀ {l:List α},(∀x∈l,p x=true->q x=true)->(∃x∈l,p x=false/\q x=true)->l.countP p<l.countP q
 | [],_,h=>by right
 | y::l,h,k=>by
  have J:l.countP p<=l.countP q:=List.countP_mono_left λx B F=>h x (ar _ B) F;rw[List.countP_cons,List.countP_cons];obtain⟨x,B,F,I⟩:=k;rcases aE.mp B with rfl | B;rw[F,I];simp;lia;have O:=zgC (l:=l) (λz L=>h z (ar _ L)) ⟨x,B,F,I⟩;grind
def zcb (sts:AF)(i:Nat):Int:=(sts.countP λc=>HT.lexLt c (sts.getD i [])  : Nat)
def xk{sts:AF}(q:∀st∈sts,st.length=m)(hi:i<sts.length)(I:j<sts.length):decide (zcb sts i<zcb sts j)=HT.lexLt (sts.getD i []) (sts.getD j []):=by
 have J:sts.getD i []∈sts:=by rw[ba,ah hi];exact bL hi
 have L:sts.getD j []∈sts:=by rw[ba,ah I];exact bL I
 have O:∀ {a b:AG},a∈sts->b∈sts->HT.lexLt a b=true->(sts.countP λc=>HT.lexLt c a)<(sts.countP λc=>HT.lexLt c b):=λ{a b} F U B=>
  zgC (λx Y Z=>zaR ((q x Y).trans (q a F).symm) ((q a F).trans (q b U).symm) Z B) ⟨a,F,yV a,B⟩
 unfold zcb;generalize sts.getD i []=a at J;generalize sts.getD j []=b at L;rcases uX (a:=a) (b:=b) ((q a J).trans (q b L).symm) with h | h | h;subst h;rw[yV];right
 all_goals grind
def za2 (h:Heap)(L:Addr):AB:=(List.range h.objs.size).filterMap λb=>if b=L then none else (h.get? b).map λo=>(b,o)
def zT:(b,o)∈za2 h L↔b≠L/\h.get? b=some o:=by
 unfold za2;rw[cU];constructor;rintro⟨c,F,e⟩;by_cases q:c=L;right;rw[if_neg q] at e;obtain⟨o',B,I⟩:=aA.mp e;grind;rintro⟨q,B⟩;exact⟨b,aW.mpr (au B),by right⟩
def zrn {h:Heap}{L:Addr}{m q:AI}(a:h.Ns L m)(b:h.Ns L q):m=q:=by
 obtain⟨o,es,U,Y,Z,hk,hf⟩:=a;obtain⟨o',es',B,F,I,J,O⟩:=b;grind
section
variable {X:Cx}
def zaV(x:yi P w H h a o):∃u,h.get? a=some u:=by
 cases o with
 | lst xs=>obtain⟨_,_,_,_,e⟩:=x;exact⟨_,e⟩
 | tup xs=>obtain⟨_,_,_,p⟩:=x;obtain⟨o,e,_⟩:=p;exact⟨o,e⟩
 | dK kvs=>obtain⟨_,_,_,_,o,_,_,e,_⟩:=x;exact⟨_,e⟩
 | dT kvs=>obtain⟨_,_,_,_,o,_,_,e,_⟩:=x;exact⟨_,e⟩
 | set S n=>obtain⟨o,_,_,_,e,_⟩:=x;exact⟨_,e⟩
 | ins C dx fs=>obtain⟨_,_,_,e,_⟩:=x;exact⟨_,e⟩
 | own y=>exact x
 | xd fs=>obtain⟨_,⟨_,_,_,e,_⟩,_⟩:=x;exact⟨_,e⟩
 | met f y=>exact⟨_,x⟩
 | rng lo hi=>obtain⟨_,_,_,e⟩:=x;exact⟨_,e⟩
 | frz o u=>obtain⟨e,_⟩:=x;exact⟨_,e⟩
 | tbl ps=>exact⟨_,x⟩
 | ext q=>obtain⟨_,e,_⟩:=x;exact e
def zdJ{pins:AB}{σ:St}{H:Hp}{s:AZ}(I:Inv X pins σ H s)(hm:s.heap.Ns X.env.locals m){h':Heap}{D:Addr}{ys:AT}{its:AN}(U:∀b o,b≠X.env.locals->s.heap.get? b=some o->h'.get? b=some o)(J:h'.Ns X.env.locals m)(Y:s.heap.get? D=none)(L:H D=none)(ho:h'.get? D=some { cls:=.type "list",data:=.seq its.toArray c })(hv:z0 ys its)(hz:ys.length<=sizeLine)(tk:Nat):Inv X pins σ (upd H D (.lst ys)) { s with heap:=h',toks:=tk }:=by
 have nD:∀b o,s.heap.get? b=some o->b≠D:=λb o e z=>by rw[z,Y] at e;cases e
 have nL:∀b u,H b=some u->b≠X.env.locals:=λb u e=>zc e I.free;show Inv.step (ch:=[]) (g':=s.gens) (d':=s.drawn) (t':=tk) I (λb F=>by simp at F) (λb o h1 _ _ B _=>U b o h1 B) (λb o h1 _ _ B _=>⟨o.slots,U b o h1 B⟩) (λb o _ B h5=>by rw[zd (nD b o B)];exact h5) (λb o _ B=>?_) (λb ys q=>by rw[zd (zc q L)];exact q) (λb o u q=>by rw[zd (zc q L)];exact q) (λb ps q=>⟨#[],by rw[zd (zc q L),dD];exact q⟩) (λm' Z=>by rw[<- zrn hm Z];exact J) (λb u F=>?_) I.bare;by_cases hL:b=X.env.locals;obtain⟨o',_,_,h1,_⟩:=J;right;exact⟨o,U b o hL B⟩;by_cases O:b=D;subst O;rw[zj] at F;cases F;exact⟨hz,its,c,hv,ho⟩;rw[zd O] at F;show (I.hok b u F).stay (λc v ad q=>U c v ?_ q) (λc q=>by rw[zd (zc q L)];exact q) (λc ys q=>by rw[zd (zc q L)];exact q);grind
def zgm {pins:AB}{σ:St}{H:Hp}{s:AZ}(I:Inv X pins σ H s):∀ {sts:AF} {vs:AT} {its:AN},IsL H (sts.map stD) vs->z0 vs its->∀ {i:Nat},i<sts.length->∃ (a:Addr) (items:AN),vs.getD i .non = .ref a/\its.getD i .none = .ref a/\IsTup s.heap a items.toArray/\z0 ((sts.getD i []).map V.int) items/\a≠X.env.locals
 | [],_,_,_,_,i,hi=>by simp at hi
 | st::sts,_,_,h,F,i,hi=>by
  obtain⟨x,r,rfl,⟨a,xs,rfl,B,q⟩,J⟩:=h;obtain rfl:=q.of_ints
  cases F with
  | cons L O=>
   cases L
   cases i with
   | zero=>
    obtain⟨items,U,Y,_⟩:=I.tuple (.of B);exact⟨a,items,rfl,rfl,Y,U,zc B I.free⟩
   | succ i=>
    obtain⟨Z,items,e1,e2,e3,e4,e5⟩:=zgm I (sts:=sts) J O (i:=i) (by simpa using hi);exact⟨Z,items,by simpa using e1,by simpa using e2,e3,by simpa using e4,e5⟩
def zkn {pins:AB}{σ:St}{H:Hp}{s:AZ}(I:Inv X pins σ H s){h':Heap}(L:∀b o,b≠X.env.locals->s.heap.get? b=some o->h'.get? b=some o):∀ {sts:AF} {vs:AT} {its:AN},IsL H (sts.map stD) vs->z0 vs its->(∀st∈sts,1<=st.length)->∃fs,W.KatTups h' its fs/\fs.length=sts.length/\∀f∈fs,∃a t,f = .int a t
 | [],_,_,h,q,_=>by cases h;cases q;exact⟨[],trivial,rfl,λ_ h=>by simp at h⟩
 | st::sts,_,_,h,q,h1=>by
  obtain⟨x,r,rfl,⟨a,xs,rfl,O,B⟩,Y⟩:=h;obtain rfl:=B.of_ints
  cases q with
  | cons Z rr=>
   cases Z;obtain⟨items,F,pt,_⟩:=I.tuple (.of O);obtain⟨o,ho,hc,n,hd⟩:=pt;obtain⟨fs,f1,f2,f3⟩:=zkn I L (sts:=sts) Y rr λz hz=>h1 z (ar _ hz);have J:=h1 st am
   match st,F,J with
   | z::zs,F,_=>
    cases F with
    | cons q1 qq=>
     obtain⟨t,rfl⟩:=q1;show⟨_::fs,⟨⟨a,o,_,n,rfl,L a o (zc O I.free) ho,hc,hd,rfl⟩,f1⟩,by right,λf U=>?_⟩;rcases aE.mp U with rfl | U
     all_goals right
def zsn:AT->Hp->VK->Prop:=λxs H Q=>∃ (l:Addr) (vs:AT) (sts:AF) (m:Nat),xs=[.ref l]/\H l=some (.lst vs)/\IsL H (sts.map stD) vs/\2<=sts.length/\sts.length<64/\1<=m/\(∀st∈sts,st.length=m)/\sts.Nodup/\
 ∀ (ys:AT) (q:AF),IsL H (q.map stD) ys->q.Perm sts->(q.Pairwise λa b=>HT.lexLt a b=true)->New H (.lst ys) Q
def zgO {H:Hp}{sts:AF}{vs:AT}(h:IsL H (sts.map stD) vs):∀ {p:AR},(∀i∈p,i<sts.length)->IsL H ((p.map λi=>sts.getD i []).map stD) (p.map λi=>vs.getD i .non)
 | [],_=>rfl
 | i::p,q=>by
  have hi:=q i am;obtain⟨x,F,I⟩:=h.getD (i:=i) (d:=stD (sts.getD i [])) (by simp[hi]);show⟨vs.getD i .non,_,rfl,?_,zgO h λj B=>q j (ar _ B)⟩;right
def zfx(h:z0 vs its):∀ (p:AR),(∀i∈p,i<vs.length)->z0 (p.map λi=>vs.getD i .non) (p.map λi=>its.getD i .none)
 | [],_=>.nil
 | i::p,q=>by
  have hi:=q i am;obtain⟨u,F,I⟩:=h.get (i:=i) (x:=vs[i]) (ah hi);show .cons ?_ (zfx h p λj B=>q j (ar _ B));right
def zbi {α:Type}(d:α)(l:List α):(List.range l.length).map (λi=>l.getD i d)=l:=by show fD (by simp) λi h1 h2=>?_;simp[h2]
def zkW:CallQ X (.builtin "sorted") zsn:=⟨by
 intro pins s σ H xs us Q I r h;obtain⟨l,vs,sts,m,rfl,hl,B,h2,b4,as,hm,av,q⟩:=h;obtain⟨u,rfl,ru⟩:=zaD r;cases ru;obtain⟨its,rv,pl,hz⟩:=I.list (.of hl);have a0:=B.length;rw[ab] at a0;have ca:=rv.length;obtain⟨m0,ag,_⟩:=id I.loc;show W.kat_sorted (h₀:=(⟨#[],{}⟩:Heap)) (L:=X.env.locals) (m:=m0) (news:=za2 s.heap X.env.locals) ⟨ag,λb o e=>?_,aK _⟩ (λp hp=>?_) pl.isList (by lia) (by lia) λD e1 h' F N O=>?_;have:=au e;simp at this;obtain⟨b,o⟩:=p;have:=zT.mp hp;show⟨this.2,this.1,?_⟩
 cases e:(⟨#[],{}⟩:Heap).get? b with
 | none=>rfl
 | some o'=>
  have:=au e;simp at this
 ·have kp:∀b o,b≠X.env.locals->s.heap.get? b=some o->h'.get? b=some o:=λb o hb e=>(N (b,o) (ar _ (zT.mpr ⟨hb,e⟩))).1;obtain⟨fs,k1,k2,k3⟩:=zkn I kp B rv λst a3=>by rw[hm st a3];exact as
  show W.kat_kind (T:=.type "int") (s:={ s with heap:=h' }) k1 (by lia) (λf hf=>?_) (by ext) ?_;obtain⟨a,t,rfl⟩:=k3 f hf;intro A' Q' E' s' _ hq;exact cL (fJ s' a t) hq
  ·have hu:zbS sts.length (zcb sts):=λi j hi J e=>by
    have e1:=xk hm hi J;have e2:=xk hm J hi;rw[e,bc (dE _)] at e1;rw[e,bc (dE _)] at e2;have gi:sts.getD i []=sts[i]:=by simp[hi]
    have gj:sts.getD j []=sts[j]:=by simp[J]
    rcases uX (a:=sts.getD i []) (b:=sts.getD j []) (by right) with h | h | h;rw[gi,gj] at h;exact (cb av).mp h
    all_goals grind
   obtain⟨p,al,U⟩:=zhg hu h2;rw[show its.length=sts.length by lia];show al.wp (S:=λs'=>s'={ s with heap:=h' }) (λi j C s' hi J Y hC=>?_) (λs' Y=>?_) _ rfl;subst Y;obtain⟨a1,a4,_,b1,c1,d1,f1⟩:=zgm I B rv hi;obtain⟨a2,a5,_,b2,c2,d2,f2⟩:=zgm I B rv J;obtain⟨o1,a7,_,n1,bb⟩:=c1;obtain⟨o2,bd,_,n2,bk⟩:=c2;change wpAny _ _ (keyLt' _ (its.getD i .none) (its.getD j .none)) C _ _;rw[b1,b2];have gi:(sts.getD i []).length=m:=by right
   have gj:(sts.getD j []).length=m:=by right
   have l1:=d1.length;have l2:=d2.length;rw[ab] at l1 l2;show W.kat_lt (s:={ s with heap:=h' }) (kp _ _ f1 a7) bb (kp _ _ f2 bd) bk ?_;rw[show decide (a4.toArray.size<a5.toArray.size)=false from bc (by simp;lia)];show zdN 0 d1 d2 (by rw[gi,gj]) ?_;have:=hC { s with heap:=h' } rfl;rw[show zfA (zcb sts) i j=HT.lexLt (sts.getD i []) (sts.getD j []) from xk hm hi J] at this;exact this;subst Y;have Z:p.toList.Perm (List.range sts.length):=by have:=U.perm.toList;simpa using this
   have ad:∀i∈p.toList,i<sts.length:=λi hi=>aW.mp ((Z.mem_iff).mp hi);show W.KasFin.intro F N (W.UpdF.head λq' bl=>?_) λbo c F'' N''=>?_;exact aL (O q' bl);have bs:∀b o,b≠X.env.locals->s.heap.get? b=some o->bo.get? b=some o:=λb o hb e=>(N'' (b,o) (ar _ (zT.mpr ⟨hb,e⟩))).1;have bx:D≠X.env.locals:=(N'' (D,_) am).2.1
   have b0:s.heap.get? D=none:=by
    cases e:s.heap.get? D with
    | none=>rfl
    | some o=>exact absurd (O (D,o) (zT.mpr ⟨bx,e⟩)) (cy _)
   have an:H D=none:=by
    cases e:H D with
    | none=>rfl
    | some o=>
     obtain⟨o',cc⟩:=zaV (I.hok D o e);grind
   have ap:=(N'' (D,_) am).1;have I':=zdJ I ag (ys:=p.toList.map λi=>vs.getD i .non) bs F''.ns b0 an ap (zfx rv p.toList λi hi=>by right) (by rw[ab,Z.length_eq,az];exact cg (zcz (by lia))) s.toks;show⟨.ref D,_,I',rfl,(q _ (p.toList.map λi=>sts.getD i []) (zgO B ad) ?_ ?_).at an⟩;have:=Z.map λi=>sts.getD i [];rwa[zbi] at this;have cd:p.size=sts.length:=uk U.perm;rw[b7];intro i j hi J b3;rw[ab,aZ] at hi J;have hk:=U.lt_of b3 (by lia);rw[dj,dj,db,db];have e1:p.getD i 0=p[i]:=by simp[hi]
   have e2:p.getD j 0=p[j]:=by simp[J]
   unfold key at hk;rw[e1,e2] at hk;rw[<- xk hm (ad _ (by simp)) (ad _ (by simp))];exact a9 hk⟩
end
open PySem.Calls
def zaf {prog:Aa}{w:Ab}{A:Ae}{E:AA}{s:AZ}{a:Addr}{vs:AN}{n:Nat}{P:PySem.Fin->AZ->Prop}(ho:s.heap.get? a=some (seqObj "list" vs.toArray n))(h2:vs.length<2)
  (h:∀h' c,(∀b o,b≠a->s.heap.get? b=some o->h'.get? b=some o)->h'.get? a=some (seqObj "list" vs.toArray c)->P (.done (.ret .none)) { s with heap:=h' }) :
  Ag prog w A (Builtin.«list.sort» ⟨[.ref a],[]⟩) P E s:=by
 obtain⟨e1,ho1⟩:∃e1,(s.heap.update a (Obj.mapSeq λ_=>(#[]:AK))).get? a=some (seqObj "list" #[] e1):=⟨_,get?_update_seq ho λ_=>#[]⟩;rw[list_sort_plain];show aa (listItems_at ho rfl ?_);show aa (listUpdate_at ho rfl ?_ (by rw[aV,bN];lia) (aK _));show aa (seqEpoch_at ho1 rfl ?_);show aa (wpAny_newTuple ?_ (by change vs.length<=_;rw[bN];lia));show aa (wpAny_newList ?_ (aK _));show be ?_;change Ag prog w A _ P E { s with heap:=((s.heap.update a (Obj.mapSeq λ_=>(#[]:AK))).push (seqObj "tuple" vs.toArray 0)).push (seqObj "list" #[] 0) };dsimp only;have hn2:vs.toArray.size<2:=by rw[aV];lia
 rw[if_pos hn2,if_pos hn2];show aa (ae ?_);show aa (m:=(pure ():StateT SortSt _ _).run _) (ae ?_);have hsnd:(arrOf (SortSt.mk' general' (vs.toArray.zip vs.toArray) #[] 7 none)).map (λx=>x.snd)=vs.toArray:=by change (vs.toArray.zip vs.toArray).map (λx=>x.snd)=vs.toArray;apply Array.toList_inj.mp;rw[Array.toList_map,Array.toList_zip];exact List.map_snd_zip (ai _)
 have ha:a<s.heap.objs.size:=au ho;have g3:(((s.heap.update a (Obj.mapSeq λ_=>(#[]:AK))).push (seqObj "tuple" vs.toArray 0)).push (seqObj "list" #[] 0)).get? a=some (seqObj "list" #[] e1):=af _ (af _ ho1);show aa (seqEpoch_at g3 rfl ?_);show aa (listUpdate_at g3 rfl ?_ (aK _) ?_);change wpAny _ _ _ _ _ _;dsimp only;rw[hsnd];simp only[bne_self_eq_false,aP,if_false];show ae (h _ _ (λb o hb e=>?_) (get?_update_seq g3 λ_=>vs.toArray));rw[eE _ _ _ _ hb];show af _ (af _ ?_);rw[eE _ _ _ _ hb];exact e;dsimp only;rw[hsnd,aV,bN];lia
def zfr {prog:Aa}{w:Ab}{A:Ae}{E:AA}{s:AZ}{l:Addr}{vs:AN}{Q:AA}(J:s.heap.IsList l vs.toArray)(h2:vs.length<2)
  (h:∀D h' c,(∀b o,s.heap.get? b=some o->h'.get? b=some o)->s.heap.get? D=none->h'.get? D=some (seqObj "list" vs.toArray c)->Q (.ref D) { s with heap:=h' }) :
  Ag prog w A (call (.builtin "sorted") [.ref l]) Q E s:=by
 show Calls.call_function_entry kind_sorted plain_sorted entry_sorted (args_sorted1 _) ?_;unfold Builtin.«sorted»;show aa (m:=checkCount "sorted" 1 1 _) (ae ?_);show aa (collect_list J ?_ (by rw[bN];lia));show aa (wpAny_newList ?_ (by rw[bN];lia));have hsz:((s.heap.push (seqObj "list" #[] 0)).update s.heap.objs.size (Obj.mapSeq (·++vs.toArray))).objs.size=s.heap.objs.size+1:=by right
 have F:(((s.heap.push (seqObj "list" #[] 0)).update s.heap.objs.size (Obj.mapSeq (·++vs.toArray))).push (seqObj "list" vs.toArray 0)).get? (s.heap.objs.size+1)=some (seqObj "list" vs.toArray 0):=by rw[<- hsz];exact aq _ rfl
 have I:∀b o,s.heap.get? b=some o->(((s.heap.push (seqObj "list" #[] 0)).update s.heap.objs.size (Obj.mapSeq (·++vs.toArray))).push (seqObj "list" vs.toArray 0)).get? b=some o:=λb o q=>by have B:b<s.heap.objs.size:=au q;rw[Heap.get?_push_ne _ _ _ (by rw[hsz];exact aL (da B)),eE _ _ _ _ (aL B),Heap.get?_push_ne _ _ _ (aL B)];exact q
 change wpAny _ _ _ _ _ { s with heap:=((s.heap.push (seqObj "list" #[] 0)).update s.heap.objs.size (Obj.mapSeq (·++vs.toArray))).push (seqObj "list" vs.toArray 0) };rw[hsz];show aa (be (aS slot_list_sort ⟨_,F,rfl⟩ entry_list_sort ?body (args_list_sort _)))
 case body=>
  show zaf (s:={ s with heap:=((s.heap.push (seqObj "list" #[] 0)).update s.heap.objs.size (Obj.mapSeq (·++vs.toArray))).push (seqObj "list" vs.toArray 0) }) F h2 λh' c L O=>?_;show⟨_,rfl,ae ⟨_,rfl,h _ _ _ (λb o e=>L b o (aL (da (au e))) (I b o e)) ?_ O⟩⟩;exact Heap.get?_none_of_le (eu _)
section
variable {X:Cx}
def zpB:AT->Hp->VK->Prop:=λxs H Q=>∃ (l:Addr) (vs:AT) (sts:AF) (m:Nat),xs=[.ref l]/\H l=some (.lst vs)/\IsL H (sts.map stD) vs/\sts.length<64/\1<=m/\(∀st∈sts,st.length=m)/\sts.Nodup/\
 ∀ (ys:AT) (q:AF),IsL H (q.map stD) ys->q.Perm sts->(q.Pairwise λa b=>HT.lexLt a b=true)->New H (.lst ys) Q
def znL:CallQ X (.builtin "sorted") zpB:=⟨by
 intro pins s σ H xs us Q I r h;obtain⟨l,vs,sts,m,rfl,hl,B,L,O,hm,U,q⟩:=h;by_cases h2:2<=sts.length;exact zkW.run _ _ _ _ _ _ _ I r ⟨l,vs,sts,m,rfl,hl,B,h2,L,O,hm,U,q⟩;obtain⟨u,rfl,ru⟩:=zaD r;cases ru;obtain⟨its,rv,pl,hz⟩:=I.list (.of hl);have Y:=B.length;rw[ab] at Y;have ad:=rv.length;obtain⟨m0,F,_⟩:=id I.loc;show zfr pl.isList (by lia) λD h' c kp Z hD=>?_
 have J:H D=none:=by
  cases e:H D with
  | none=>rfl
  | some o=>
   obtain⟨o',ag⟩:=zaV (I.hok D o e);grind
 have I':=zdJ I F (ys:=vs) (λb o _ e=>kp b o e) (by obtain⟨o,es,ep,g,k⟩:=F;exact⟨o,es,ep,kp _ _ g,k⟩) Z J hD rv (by grind) s.toks;show⟨.ref D,_,I',rfl,(q _ sts B (List.Perm.refl _) ?_).at J⟩
 match sts,h2 with
 | [],_=>exact .nil
 | [_],_=>exact dB _ _
 | _::_::_,h2=>exact absurd (by simp) h2⟩
end
def Ris (xs:Array Nat):Prop:=∀i j:Nat,i<j->j<xs.size->xs.getD i 0<xs.getD j 0
def zdp {xs:Array Nat}(F:Ris xs){j:Nat}:∀ (B lo hi:Nat),lo<=hi->hi<=xs.size->hi - lo<=B->(∀i,i<lo->xs.getD i 0<j)->(∀i,hi<=i->i<xs.size->j<=xs.getD i 0)->
  ∃p,SetTable.below.go xs j B lo hi=p/\p<=xs.size/\(∀i,i<p->xs.getD i 0<j)/\(∀i,p<=i->i<xs.size->j<=xs.getD i 0)
 | 0,lo,hi,h1,h2,Z,I,J=>by
  have:lo=hi:=by lia
  subst this;exact⟨lo,rfl,h2,I,J⟩
 | B+1,lo,hi,h1,h2,Z,I,J=>by
  change ∃p,(if lo<hi then if xs.getD ((lo+hi) / 2) j<j then SetTable.below.go xs j B ((lo+hi) / 2+1) hi else SetTable.below.go xs j B lo ((lo+hi) / 2) else lo)=p/\_;by_cases U:lo<hi;rw[if_pos U];have Y:(lo+hi) / 2<xs.size:=by lia
  have e:xs.getD ((lo+hi) / 2) j=xs.getD ((lo+hi) / 2) 0:=by simp[Y]
  rw[e];by_cases L:xs.getD ((lo+hi) / 2) 0<j;rw[if_pos L];show zdp F B _ hi (by lia) h2 (by lia) (λi O=>?_) J;by_cases q:i=(lo+hi) / 2;rw[q];exact L;have:=F i ((lo+hi) / 2) (by lia) Y;lia;rw[if_neg L];show zdp F B lo _ (by lia) (by lia) (by lia) I (λi O hs=>?_);by_cases q:i=(lo+hi) / 2;rw[q];lia;have:=F ((lo+hi) / 2) i (by lia) hs;lia;rw[if_neg U];have:lo=hi:=by lia
  subst this;exact⟨lo,rfl,h2,I,J⟩
def ud(q:Ris xs)(j:Nat):SetTable.below xs j<=xs.size/\(∀i,i<SetTable.below xs j->xs.getD i 0<j)/\(∀i,SetTable.below xs j<=i->i<xs.size->j<=xs.getD i 0):=by obtain⟨p,e,h⟩:=zdp q (j:=j) xs.size 0 xs.size (aK _) (ai _) (ai _) (λi h=>absurd h (cq _)) (λi h1 h2=>by lia);have B:SetTable.below xs j=p:=e;rw[B];exact h
def xZ{xs:Array Nat}(h:xs[i]?=some j):i<xs.size/\xs.getD i 0=j:=by
 obtain⟨h1,h2⟩:=cv.mp h;right
def zfQ{xs:Array Nat}(h:i<xs.size):xs[i]?=some (xs.getD i 0):=by simp[h]
def zkN(B:Ris xs)(h:xs[i]?=some j):SetTable.below xs j=i:=by
 obtain⟨h1,h2⟩:=xZ h;obtain⟨J,F,I⟩:=ud B j;rcases ck (SetTable.below xs j) i with q | q | q;have:=I _ (ai _) (by lia);have:=B _ i q h1;lia;exact q;have:=F i q;lia
def za5{t:SetTable}(q:Ris t.place)(h:t.place[i]?=some j):t.slot j = .live i:=by unfold SetTable.slot;rw[zkN q h];simp[h]
def zke {t:SetTable}(q:t.dummies = #[]){j:Nat}(h:∀i:Nat,t.place[i]?≠some j):t.slot j = .empty:=by
 unfold SetTable.slot;have e:(t.place[SetTable.below t.place j]?==some j)=false:=by grind
 have B:SetTable.has t.dummies j=false:=by rw[q];rfl
 right
def zpR {t:SetTable}(q:Ris t.place)(B:t.dummies = #[])(j:Nat):(t.slot j = .empty/\∀i:Nat,t.place[i]?≠some j)\/∃i,t.slot j = .live i/\t.place[i]?=some j:=by
 by_cases h:∃i:Nat,t.place[i]?=some j;obtain⟨i,hi⟩:=h;exact .inr ⟨i,za5 q hi,hi⟩;have h':∀i:Nat,t.place[i]?≠some j:=λi e=>h ⟨i,e⟩;exact .inl ⟨zke B h',h'⟩
def tm (q:Nat):SetTable:=⟨q,#[],#[],0,true,0,true⟩
def stp (q:Nat)(h:Int):Nat->SetTable.Probe
 | 0=>(tm q).probeStart h
 | n+1=>(tm q).advance (stp q h n)
def wk (q:Nat)(h:Int)(n:Nat):Nat:=(stp q h n).j
def zh5 (q:Nat)(p:SetTable.Probe):((tm q).advance p).dummy=p.dummy:=by unfold SetTable.advance;split <;> rfl
def zfu (q:Nat)(h:Int):∀n,(stp q h n).dummy=none
 | 0=>rfl
 | n+1=>by change ((tm q).advance _).dummy=none;rw[zh5,zfu q h n]
def zgu (q:Nat)(p:SetTable.Probe)(h:0<p.more):(tm q).advance p={ p with j:=p.j+1,more:=p.more - 1 }:=by unfold SetTable.advance;rw[if_pos h]
def zdk (q:Nat)(p:SetTable.Probe)(h:p.more=0):(tm q).advance p={ p with j:=(p.i * 5+1+p.perturb / 32) % (q+1),more:=SetTable.runEnd q ((p.i * 5+1+p.perturb / 32) % (q+1)) - (p.i * 5+1+p.perturb / 32) % (q+1),i:=(p.i * 5+1+p.perturb / 32) % (q+1),perturb:=p.perturb / 32 }:=by unfold SetTable.advance;rw[if_neg (by lia)];rfl
def lp (q:Nat)(h:Int):Nat->Nat×Nat
 | 0=>(SetTable.bits h % (q+1),SetTable.bits h)
 | n+1=>SetTable.leap q (lp q h n).1 (lp q h n).2
def znk (q i:Nat):SetTable.runEnd q i - i<=9:=by unfold SetTable.runEnd;split <;> lia
def zej (B:Nat)(h:Int){T i q:Nat}(e:stp B h T=⟨i,SetTable.runEnd B i - i,i,q,none⟩):∀k,k<=SetTable.runEnd B i - i->stp B h (T+k)=⟨i+k,SetTable.runEnd B i - i - k,i,q,none⟩
 | 0,_=>e
 | k+1,F=>by
  change (tm B).advance (stp B h (T+k))=_;rw[zej B h e k (by lia),zgu B _ (by lia)];grind
def zji (q:Nat)(h:Int):∀k,∃T,T<=10 * k/\stp q h T=⟨(lp q h k).1,SetTable.runEnd q (lp q h k).1 - (lp q h k).1,(lp q h k).1,(lp q h k).2,none⟩
 | 0=>⟨0,ai _,rfl⟩
 | k+1=>by obtain⟨T,B,e⟩:=zji q h k;have F:=znk q (lp q h k).1;show⟨T+(SetTable.runEnd q (lp q h k).1 - (lp q h k).1)+1,by lia,?_⟩;change (tm q).advance (stp q h (T+_))=_;rw[zej q h e _ (ai _),zdk q _ (Nat.sub_self _)];rfl
def zc5 (q:Nat)(h:Int):∀k,(lp q h k).2=SetTable.bits h / 32 ^ k
 | 0=>by change SetTable.bits h=_;simp
 | k+1=>by change (lp q h k).2 / 32=_;rw[zc5 q h k,Nat.div_div_eq_div_mul,Nat.pow_succ]
def znG (h:Int):SetTable.bits h<2 ^ 64:=by
 unfold SetTable.bits;grind
def lcg (m i:Nat):Nat:=(i * 5+1) % m
def orb (m:Nat):Nat->Nat->Nat
 | 0,i=>i
 | k+1,i=>lcg m (orb m k i)
def zjp (q:Nat)(h:Int):∀k,(lp q h (13+k)).1=orb (q+1) k (lp q h 13).1
 | 0=>rfl
 | k+1=>by
  change ((lp q h (13+k)).1 * 5+1+(lp q h (13+k)).2 / 32) % (q+1)=lcg (q+1) (orb (q+1) k _);rw[<- zjp q h k,zc5];have B:=znG h
  have e:SetTable.bits h / 32 ^ (13+k)=0:=by
   show Nat.div_eq_of_lt (aY B ?_)
   calc 2 ^ 64<=32 ^ 13:=by ext
    _<=32 ^ (13+k):=cE (by ext) (by lia)
  rw[e];rfl
def zci (m:Nat)(a:Nat):∀ (b i:Nat),orb m (a+b) i=orb m b (orb m a i)
 | 0,i=>rfl
 | b+1,i=>by change lcg m (orb m (a+b) i)=lcg m (orb m b _);rw[zci m a b i]
def zqd (m:Nat):Nat->Nat->AR
 | 0,_=>[]
 | n+1,i=>i::zqd m n (lcg m i)
def zlL (m:Nat)(k i:Nat):orb m (k+1) i=orb m k (lcg m i):=by rw[Nat.add_comm,zci];rfl
def zd2 (m:Nat):∀ (n i k:Nat),k<n->(zqd m n i)[k]?=some (orb m k i)
 | n+1,i,0,_=>rfl
 | n+1,i,k+1,h=>by rw[zlL];exact zd2 m n (lcg m i) k (by lia)
def zg6 (m:Nat):∀ (n i:Nat),(zqd m n i).length=n
 | 0,_=>rfl
 | n+1,i=>by change (zqd m n _).length+1=n+1;rw[zg6 m n]
structure Ring (m:Nat):Prop where
 pos:0<m
 all:∀v,v<m->v∈zqd m m 0
 back:orb m m 0=0
def Ring.reach(r:Ring m)(hi:i<m)(J:j<m):∃k,k<m/\orb m k i=j:=by
 obtain⟨a,F,O⟩:=bB.mp (r.all i hi);obtain⟨b,I,U⟩:=bB.mp (r.all j J);rw[zg6] at F I
 have q:orb m a 0=i:=by
  have:=zd2 m m 0 a F;right
 have B:orb m b 0=j:=by
  have:=zd2 m m 0 b I;right
 by_cases L:a<=b;show⟨b - a,by lia,?_⟩;rw[<- q,<- zci,show a+(b - a)=b by lia];exact B;show⟨b+m - a,by lia,?_⟩;rw[<- q,<- zci,show a+(b+m - a)=m+b by lia,zci,r.back];exact B
def zsv (m:Nat):Bool:=((List.range m).all λv=>(zqd m m 0).contains v)&&orb m m 0==0
def zec(q:0<m)(h:zsv m=true):Ring m:=by
 unfold zsv at h;rw[bw] at h;show⟨q,λv B=>?_,eq_of_beq h.2⟩;right
def zvk:Ring 8:=zec (by ext) (by decide +kernel)
def zsu:Ring 32:=zec (by ext) (by decide +kernel)
def zpF:Ring 128:=zec (by ext) (by decide +kernel)
def zpG:Ring 512:=zec (by ext) (by decide +kernel)
def zmw(r:Ring (q+1))(h:Int)(B:j<=q):∃n,n<10 * SetTable.turns q/\wk q h n=j:=by have F:(lp q h 13).1<q+1:=eY _ (eQ _);obtain⟨k,J,e⟩:=r.reach F (dO B);obtain⟨T,L,I⟩:=zji q h (13+k);show⟨T,by unfold SetTable.turns;lia,?_⟩;change (stp q h T).j=j;rw[I];change (lp q h (13+k)).1=j;rw[zjp,e]
def zpI {xs:Array Nat}(B:Ris xs){i j a b:Nat}(hi:xs[i]?=some a)(F:xs[j]?=some b)(h:a<b):i<j:=by
 obtain⟨h1,h2⟩:=xZ hi;obtain⟨I,J⟩:=xZ F;rcases ck i j with q | q | q;exact q;subst q;lia;have:=B j i q h1;lia
def zhc(q:Ris xs):∀ (M:Nat),(∀j,j<M->∃i:Nat,xs[i]?=some j)->∀ (j i:Nat),j<M->xs[i]?=some j->j<=i
 | _,_,0,_,_,_=>aK _
 | M,h,j+1,i,I,e=>by obtain⟨F,B⟩:=h j (by lia);have h1:=zpI q B e (fE j);have h2:=zhc q M h j F (by lia) B;lia
def zpH(q:Ris xs)(h:xs.size<M):∃j,j<M/\∀i:Nat,xs[i]?≠some j:=by show bJ λB=>?_;have all:∀j,j<M->∃i:Nat,xs[i]?=some j:=λj F=>bJ λI=>B ⟨j,F,λi e=>I ⟨i,e⟩⟩;obtain⟨i,e⟩:=all (M - 1) (by lia);have h1:=zhc q M all (M - 1) i (by lia) e;have h2:=(xZ e).1;lia
section
variable {t:SetTable}{hashAt:Nat->Int}{h:Int}
def zg9 (F:Ris t.place)(I:t.dummies = #[]):∀ (q n:Nat),(∃N,n<=N/\N<n+q/\∀i:Nat,t.place[i]?≠some (wk t.mask h N))->
  ∃N,n<=N/\(∀m,n<=m->m<N->∃i,t.place[i]?=some (wk t.mask h m)/\hashAt i≠h)/\
   (((∀i:Nat,t.place[i]?≠some (wk t.mask h N))/\SetTable.probe.go t hashAt h q (stp t.mask h n)=some (.empty (wk t.mask h N) none))\/
    ∃i,t.place[i]?=some (wk t.mask h N)/\hashAt i=h/\SetTable.probe.go t hashAt h q (stp t.mask h n)=some (.candidate (wk t.mask h N) i (stp t.mask h (N+1))))
 | 0,n,⟨N,h1,h2,_⟩=>by lia
 | q+1,n,⟨N,h1,h2,J⟩=>by
  rcases zpR F I (wk t.mask h n) with ⟨e,hn⟩ | ⟨i,e,hi⟩;show⟨n,ai _,λm a b=>by lia,.inl ⟨hn,?_⟩⟩;change (match t.slot (wk t.mask h n) with | .empty=>some (SetTable.Met.empty (wk t.mask h n) (stp t.mask h n).dummy) | .dummy=>_ | .live i=>_)=_;rw[e,zfu];by_cases B:hashAt i=h;show⟨n,ai _,λm a b=>by lia,.inr ⟨i,hi,B,?_⟩⟩;change (match t.slot (wk t.mask h n) with | .empty=>_ | .dummy=>_ | .live i=>if hashAt i==h then some (SetTable.Met.candidate (wk t.mask h n) i (t.advance (stp t.mask h n))) else _)=_;rw[e];change (if (hashAt i==h)=true then _ else _)=_;rw[if_pos (beq_iff_eq.mpr B)];rfl;have Y:n≠N:=λz=>by subst z;exact J i hi
  obtain⟨N',Z,L,a3⟩:=zg9 F I q (n+1) ⟨N,by lia,by lia,J⟩;have e2:SetTable.probe.go t hashAt h (q+1) (stp t.mask h n)=SetTable.probe.go t hashAt h q (stp t.mask h (n+1)):=by change (match t.slot (wk t.mask h n) with | .empty=>_ | .dummy=>_ | .live i=>if hashAt i==h then _ else SetTable.probe.go t hashAt h q (t.advance (stp t.mask h n)))=_;rw[e];change (if (hashAt i==h)=true then _ else _)=_;rw[if_neg (λz=>B (beq_iff_eq.mp z))];rfl
  show⟨N',by lia,λm b1 O=>?_,?_⟩;by_cases U:m=n;subst U;exact⟨i,hi,B⟩;exact L m (by lia) O;right
variable {prog:Aa}{w:Ab}
abbrev tk (prog:Aa)(w:Ab):HeapKind prog w (List Key):=tupleKind (zX prog w)
def ztU (t:SetTable)(h:Int)(i:Nat):Prop:=∃n,n<10 * SetTable.turns t.mask/\t.place[i]?=some (wk t.mask h n)/\∀m,m<n->∃q:Nat,t.place[q]?=some (wk t.mask h m)
def zar (m:Nat):Prop:=m=7\/m=31\/m=127\/m=511
def zar.ring(h:zar m):Ring (m+1):=by
 rcases h with rfl | rfl | rfl | rfl;exact zvk;exact zsu;exact zpF;exact zpG
def zar.le(h:zar m):7<=m/\m<=511:=by rcases h with rfl | rfl | rfl | rfl <;> lia
def zar.odd(h:zar m):(m % 2==0)=false:=by rcases h with rfl | rfl | rfl | rfl <;> rfl
structure Tb (prog:Aa)(w:Ab)(t:SetTable)(es:Array (Int×Value))(xs:List (List Key×Addr)):Prop where
 eq:es.toList=xs.map λq=>((tk prog w).hash q.1,Value.ref q.2)
 nd:(xs.map (·.1)).Nodup
 dm:t.dummies = #[]
 ris:Ris t.place
 le:∀ (i j:Nat),t.place[i]?=some j->j<=t.mask
 sz:t.place.size=xs.length
 msk:zar t.mask
 few:xs.length<=t.mask
 plain:t.plain=true
 led:t.led = !w.params.followText "set-order"
 reach:∀ (i:Nat) (q:List Key×Addr),xs[i]?=some q->ztU t ((tk prog w).hash q.1) i
variable {es:Array (Int×Value)}{xs:List (List Key×Addr)}
def Tb.size (T:Tb prog w t es xs):es.size=xs.length:=by rw[<- aZ,T.eq,ab]
def Tb.get (T:Tb prog w t es xs){i:Nat}{q:List Key×Addr}(h:xs[i]?=some q):es[i]?=some ((tk prog w).hash q.1,Value.ref q.2):=by rw[<- Array.getElem?_toList,T.eq,aj,h];rfl
def Tb.at' (T:Tb prog w t es xs){i j:Nat}(h:t.place[i]?=some j):∃q,xs[i]?=some q:=by
 have:=(xZ h).1;rw[T.sz] at this;right
def Tb.fits (T:Tb prog w t es xs):t.fits es.size=true:=by unfold SetTable.fits SetTable.fill;rw[T.size,T.sz,T.dm];have:=T.few;simp;lia
def Tb.empty (T:Tb prog w t es xs)(h:Int):∃N,N<10 * SetTable.turns t.mask/\∀i:Nat,t.place[i]?≠some (wk t.mask h N):=by have:=T.few;obtain⟨j,q,B⟩:=zpH T.ris (M:=t.mask+1) (by rw[T.sz];lia);obtain⟨N,h1,h2⟩:=zmw T.msk.ring h (cK q);exact⟨N,h1,by rw[h2];exact B⟩
variable {A:Ae}{E:AA}{s:AZ}
def zfG(h:(zX prog w).is k v=true):(∃i t,v = .int i t)\/∃x t,v = .str x t:=by
 rcases zW h with ⟨i,t,_,e⟩ | ⟨x,t,_,e⟩;exact .inl ⟨i,t,e⟩;exact .inr ⟨x,t,e⟩
def zb5:∀ {ks:List Key} {vs:AN},ItemsAre (zX prog w) ks vs->∀v∈vs,(∃i t,v = .int i t)\/∃x t,v = .str x t
 | _,_,.nil,v,h=>by simp at h
 | _,_,.cons h1 h2,v,h=>by
  rcases aE.mp h with rfl | h;exact zfG h1;exact zb5 h2 v h
def zc7(J:(tk prog w).is s.heap k b)(h:Q false s):Ag prog w A (ofAClassStatement 8 (.ref b)) Q E s:=by
 have B:IsTupleKey (zX prog w) s.heap k b:=J;have L:=B.typeIs;obtain⟨o,items,n,O,_,U,hi⟩:=B;unfold ofAClassStatement;show aa (cL L ?_);dsimp only;rw[if_pos (by ext)];show aa (ae ?_);simp only[fq,aP,if_false];show aa (ci O U ?_);show aa ?_;change wpAny _ _ (forIn items _ _) _ _ s;rw[<- Array.forIn_toList];show fF _ (λzQ r s'=>r.1=none/\s'=s/\∀v∈zQ,(∃i t,v=Value.int i t)\/∃x t,v=Value.str x t) _ ?_ ?_ _ _ ⟨rfl,rfl,zb5 hi⟩
 ·rintro v zQ r s' ⟨F,rfl,q⟩;have e:ofAClassStatement 7 v=pure false:=by rcases q v am with ⟨i,t,rfl⟩ | ⟨x,t,rfl⟩ <;> rfl
  rw[e];show aa (ae ?_);simp only[aP,if_false];exact ae ⟨rfl,rfl,λu I=>q u (ar _ I)⟩
 rintro⟨Y,Z⟩ s' ⟨F,rfl,_⟩;simp only at F;subst F;exact ae h
def zs7(O:(tk prog w).is s.heap k b):∀ (l:AN),(∀v∈l,∃F q,v = .ref q/\(tk prog w).is s.heap F q)->Q false s->Ag prog w A (searchCouldBeSeen (.ref b) l) Q E s:=by
 intro l U h;unfold searchCouldBeSeen;show aa ?_;show fF _ (λzQ r s'=>r.1=none/\s'=s/\∀v∈zQ,∃F q,v=Value.ref q/\(tk prog w).is s.heap F q) _ ?_ ?_ _ _ ⟨rfl,rfl,U⟩
 ·rintro v zQ r s' ⟨J,rfl,B⟩;obtain⟨F,q,rfl,I⟩:=B v am;have next:∀u∈zQ,∃F q,u=Value.ref q/\(tk prog w).is s'.heap F q:=λu L=>B u (ar _ L);dsimp only;split
  ·exact ae ⟨rfl,rfl,next⟩
  ·show aa ((tk prog w).quiet O ?_);simp only[fq,aP,if_false];show aa ((tk prog w).quiet I ?_);simp only[fq,aP,if_false];show aa (zc7 O ?_);simp only[aP,if_false];show aa (zc7 I ?_);simp only[aP,if_false];exact ae ⟨rfl,rfl,next⟩
 rintro⟨Y,Z⟩ s' ⟨J,rfl,_⟩;simp only at J;subst J;exact ae h
def zez (t:SetTable)(xs:List (List Key×Addr))(h:Int)(k:List Key)(n:Nat):Prop:=∀m,m<n->∃ (i:Nat) (q:List Key×Addr),t.place[i]?=some (wk t.mask h m)/\xs[i]?=some q/\q.1≠k
def zcy {a b:Addr}{o:Obj}{ep:Nat}{k:List Key}{adding:Bool}{Q:SetFound->AZ->Prop}(hu:A.units<cLine)(T:Tb prog w t es xs)(hk:(tk prog w).is s.heap k b)(hel:∀q∈xs,(tk prog w).is s.heap q.1 q.2)
  (ho:s.heap.get? a=some o) (hd:o.data = .set es ep t)
  (found:∀r i q,xs[i]?=some q->q.1=k->(r=none/\adding=true\/r=some i)->Q (.there r) s)
  (free:∀N,N<10 * SetTable.turns t.mask->(∀i:Nat,t.place[i]?≠some (wk t.mask ((tk prog w).hash k) N))->zez t xs ((tk prog w).hash k) k N->Q (.free (wk t.mask ((tk prog w).hash k) N) false) s) :
  ∀ (fuel n:Nat) (stand:Option SetTable.Probe),stand.getD (t.probeStart ((tk prog w).hash k))=stp t.mask ((tk prog w).hash k) n->10 * SetTable.turns t.mask<n+fuel->n<=10 * SetTable.turns t.mask->zez t xs ((tk prog w).hash k) k n->
   Ag prog w A (setSearchFrom a (.ref b) ((tk prog w).hash k) adding fuel stand) Q E s
 | 0,n,stand,_,h2,h3,_=>by lia
 | fuel+1,n,stand,h1,h2,h3,h4=>by
  unfold setSearchFrom;show aa (bq ho hd T.fits ?_);dsimp only;rw[show t.gaveWay=false from T.msk.odd];simp only[aP,if_false];rw[h1];obtain⟨N0,hN0,eN0⟩:=T.empty ((tk prog w).hash k)
  have hn0:n<=N0:=by
   rcases Nat.lt_or_ge N0 n with q | q;obtain⟨i,_,e,_⟩:=h4 N0 q;exact absurd e (eN0 i);exact q
  have pass:∀N,n<=N->(∀m,n<=m->m<N->∃i:Nat,t.place[i]?=some (wk t.mask ((tk prog w).hash k) m)/\(es[i]?.map (·.1)).getD 0≠(tk prog w).hash k)->zez t xs ((tk prog w).hash k) k N:=λN hN hh m hm=>by
   rcases Nat.lt_or_ge m n with q | q;exact h4 m q;obtain⟨i,e1,e2⟩:=hh m q hm;obtain⟨q,hq⟩:=T.at' e1;show⟨i,q,e1,hq,λz=>e2 ?_⟩;rw[T.get hq,<- z];rfl
  obtain⟨N,hN,hp,hc⟩:=zg9 (t:=t) (hashAt:=λi=>(es[i]?.map (·.1)).getD 0) (h:=(tk prog w).hash k) T.ris T.dm (10 * SetTable.turns t.mask) n ⟨N0,hn0,by lia,eN0⟩
  have hNle:N<=N0:=by
   rcases Nat.lt_or_ge N0 N with q | q;obtain⟨i,e,_⟩:=hp N0 hn0 q;exact absurd e (eN0 i);exact q
  rcases hc with ⟨he,hg⟩ | ⟨i,hi,hh,hg⟩;have hg':t.probe (λi=>(es[i]?.map (·.1)).getD 0) ((tk prog w).hash k) (stp t.mask ((tk prog w).hash k) n)=some (.empty (wk t.mask ((tk prog w).hash k) N) none):=hg;have fin:=free N (by lia) he (pass N hN hp);generalize hm:SetTable.probe t _ _ _=met;have:met=some (.empty (wk t.mask ((tk prog w).hash k) N) none):=hm.symm.trans hg';rw[this];dsimp only;exact ae fin;have hg':t.probe (λi=>(es[i]?.map (·.1)).getD 0) ((tk prog w).hash k) (stp t.mask ((tk prog w).hash k) n)=some (.candidate (wk t.mask ((tk prog w).hash k) N) i (stp t.mask ((tk prog w).hash k) (N+1))):=hg;generalize hm:SetTable.probe t _ _ _=met;have:met=some (.candidate (wk t.mask ((tk prog w).hash k) N) i (stp t.mask ((tk prog w).hash k) (N+1))):=hm.symm.trans hg';rw[this];dsimp only;obtain⟨q,hq⟩:=T.at' hi;have hqe:=T.get hq;have hqk:=hel q (ak hq);have stl:t.slot (wk t.mask ((tk prog w).hash k) N) = .live i:=za5 T.ris hi
  have core:Ag prog w A (do
    let some (_,y):=es[i]? | unsupported "internal:set-entry"
    let equal <- holding [y] (eqBool y (.ref b))
    let (es',_,t') <- setState a
    if adding&&equal then return .there none
    let some smem:=t'.sameMemory t.moves t.mask | unsupported "set.changed-during-lookup:is-the-new-block-at-the-old-address"
    let still <- match (if smem then t'.slot (wk t.mask ((tk prog w).hash k) N) else .empty) with
     | .live i'=>match es'[i']? with
      | some (_,y')=>do pure (if <- isSame y' y then some i' else none)
      | none=>pure none
     | _=>pure none
    match still with
    | none=>rule "set.search.anew";setSearchFrom a (.ref b) ((tk prog w).hash k) adding fuel none
    | some i'=>if equal then return .there (some i') else setSearchFrom a (.ref b) ((tk prog w).hash k) adding fuel (some (stp t.mask ((tk prog w).hash k) (N+1)))) Q E s:=by
   rw[hqe];dsimp only;show aa (be ((tk prog w).eqBool hu hqk hk ?_));show aa (bq ho hd T.fits ?_);dsimp only;by_cases hkk:q.1=k;rw[a9 hkk]
   cases adding with
   | true=>
    simp only[Bool.and_self,if_true];exact ae (found none i q hq hkk (.inl ⟨rfl,rfl⟩))
   | false=>
    simp only[Bool.false_and,aP,if_false];have e1:t.sameMemory t.moves t.mask=some true:=by unfold SetTable.sameMemory;simp
    rw[e1];dsimp only;simp only[if_true];rw[stl];dsimp only;rw[hqe];dsimp only;show aa (wpAny_isSame_ref_self (aa (ae ?_)));simp only[if_true];exact ae (found (some i) i q hq hkk (.inr rfl))
   rw[bc hkk];simp only[Bool.and_false,aP,if_false];have e1:t.sameMemory t.moves t.mask=some true:=by unfold SetTable.sameMemory;simp
   rw[e1];dsimp only;simp only[if_true];rw[stl];dsimp only;rw[hqe];dsimp only;show aa (wpAny_isSame_ref_self (aa (ae ?_)));simp only[if_true];show zcy hu T hk hel ho hd found free fuel (N+1) _ rfl (by lia) (by lia) λm hm=>?_;rcases Nat.lt_succ_iff_lt_or_eq.mp hm with z | z;exact pass N hN hp m z;subst z;exact⟨i,q,hi,hq,hkk⟩
  split;show aa (zs7 hk _ (λv hv=>?_) ?_);obtain⟨e,he,rfl⟩:=aC.mp hv;have he':e∈es.toList:=by have:=eh.mp he;exact eh.mpr (Array.mem_filter.mp this).1
  rw[T.eq] at he';obtain⟨q',hq',rfl⟩:=aC.mp he';exact⟨_,_,rfl,hel q' hq'⟩;simp only[aP,if_false];exact core;exact core
end
def zeT {α:Type}(l:List α)(p:Nat)(x:α):List α:=l.take p++x::l.drop p
def zfV {α:Type}{l:List α}{p i:Nat}{x:α}(q:p<=l.length)(h:i<p):(zeT l p x)[i]?=l[i]?:=by unfold zeT;rw[a6 (by grind),dr h]
def zfT{α:Type}{l:List α}{x:α}(q:p<=l.length):(zeT l p x)[p]?=some x:=by
 unfold zeT;right
def zfU {α:Type}{l:List α}{p i:Nat}{x:α}(q:p<=l.length)(h:p<=i):(zeT l p x)[i+1]?=l[i]?:=by unfold zeT;rw[bf (by grind),aN,show i+1 - min p l.length=(i - p)+1 by lia,bt,List.getElem?_drop,show p+(i - p)=i by lia]
def zdH {α:Type}{l:List α}{p:Nat}{x:α}(q:p<=l.length):(zeT l p x).length=l.length+1:=by
 unfold zeT;grind
def zlc {α q:Type}(f:α->q)(l:List α)(p:Nat)(x:α):(zeT l p x).map f=zeT (l.map f) p (f x):=by
 unfold zeT;right
def ziT {α:Type}(l:List α)(p:Nat)(x:α):(zeT l p x).Perm (x::l):=by
 unfold zeT;show List.perm_middle.trans ?_;right
def yH{α:Type}(xs:Array α)(x:α):(SetTable.insertAt xs p x).toList=zeT xs.toList p x:=by
 unfold SetTable.insertAt zeT;rw[Array.toList_append,Array.toList_push,Array.toList_extract,Array.toList_extract,List.extract_eq_take_drop,List.extract_eq_take_drop];rw[Nat.sub_zero,List.drop_zero,b5];congr 1;change x::_=_;congr 1;change []++List.take _ (List.drop p xs.toList)=_;rw[List.nil_append];show bX ?_;right
def zbA {α:Type}(xs:Array α)(i:Nat):xs[i]?=xs.toList[i]?:=by right
def zfW{xs:Array Nat}(B:p<=xs.size)(h:xs[i]?=some v):(SetTable.insertAt xs p j)[if i<p then i else i+1]?=some v:=by
 rw[zbA,yH];rw[zbA] at h;have q:p<=xs.toList.length:=by rw[aZ];exact B
 split
 ·rename_i hi;rw[zfV q hi,h]
 ·rename_i hi;rw[zfU q (by lia),h]
def zaK{xs:Array Nat}(I:p<=xs.size)(h:(SetTable.insertAt xs p j)[i]?=some v):(i=p/\v=j)\/(i<p/\xs[i]?=some v)\/∃B,i=B+1/\p<=B/\xs[B]?=some v:=by
 rw[zbA,yH] at h;have F:p<=xs.toList.length:=by rw[aZ];exact I
 rcases ck i p with q | q | q;rw[zfV F q,<- zbA] at h;right;subst q;rw[zfT F] at h;right;obtain⟨B,rfl⟩:∃B,i=B+1:=⟨i - 1,by lia⟩;rw[zfU F (by lia),<- zbA] at h;exact .inr (.inr ⟨B,rfl,by lia,h⟩)
def zhN(Z:Ris xs)(hn:∀i:Nat,xs[i]?≠some j):Ris (SetTable.insertAt xs (SetTable.below xs j) j):=by
 obtain⟨L,b2,b3⟩:=ud Z j;intro i I U h2;have e1:=zfQ (xs:=SetTable.insertAt xs (SetTable.below xs j) j) (i:=i) (by lia);have J:=zfQ h2;generalize (SetTable.insertAt xs (SetTable.below xs j) j).getD i 0=v at e1;generalize (SetTable.insertAt xs (SetTable.below xs j) j).getD I 0=O at J
 have Y:∀i v,SetTable.below xs j<=i->xs[i]?=some v->j<v:=λi v h e=>by
  obtain⟨a1,a2⟩:=xZ e;grind
 have F:∀i v,i<SetTable.below xs j->xs[i]?=some v->v<j:=λi v h e=>by obtain⟨a1,a2⟩:=xZ e;have:=b2 i h;lia
 have B:∀i I v O,i<I->xs[i]?=some v->xs[I]?=some O->v<O:=λi I v O h e J=>by
  obtain⟨a1,a2⟩:=xZ e;obtain⟨a3,a4⟩:=xZ J;have:=Z i I h a3
  omega
 rcases zaK L e1 with ⟨rfl,rfl⟩ | ⟨q,e⟩ | ⟨i',rfl,q,e⟩;rcases zaK L J with ⟨rfl,rfl⟩ | ⟨q',e'⟩ | ⟨i'',rfl,q',e'⟩;lia;lia;exact Y _ _ q' e';rcases zaK L J with ⟨rfl,rfl⟩ | ⟨q',e'⟩ | ⟨i'',rfl,q',e'⟩;exact F _ _ q e;exact B _ _ _ _ U e e';exact B _ _ _ _ (by lia) e e';rcases zaK L J with ⟨rfl,rfl⟩ | ⟨q',e'⟩ | ⟨i'',rfl,q',e'⟩;lia;lia;exact B _ _ _ _ (by lia) e e'
section
variable {prog:Aa}{w:Ab}{t:SetTable}{es:Array (Int×Value)}{xs:List (List Key×Addr)}
def zn9:SetTable.has #[] j=false:=rfl
def Tb.put(T:Tb prog w t es xs)(hN:N<10 * SetTable.turns t.mask)(he:∀i:Nat,t.place[i]?≠some (wk t.mask ((tk prog w).hash k) N))(hp:zez t xs ((tk prog w).hash k) k N)(hk:k∉xs.map (·.1))(hf:xs.length+1<=t.mask)(Z:wk t.mask ((tk prog w).hash k) N<=t.mask) :
  ∃L,Tb prog w (t.put (wk t.mask ((tk prog w).hash k) N)).1 (SetTable.insertAt es (t.put (wk t.mask ((tk prog w).hash k) N)).2 ((tk prog w).hash k,.ref b)) L/\L.Perm ((k,b)::xs):=by
 generalize hj:wk t.mask ((tk prog w).hash k) N=j at *;obtain⟨O,b2,b3⟩:=ud T.ris j;have ad:(t.put j).2=SetTable.below t.place j:=rfl
 have ht:(t.put j).1={ t with place:=SetTable.insertAt t.place (SetTable.below t.place j) j }:=by
  unfold SetTable.put;dsimp only;rw[T.dm,zn9];grind
 generalize ag:SetTable.below t.place j=p at *;have F:p<=xs.length:=by rw[<- T.sz];exact O
 have B:∀ {i v:Nat},t.place[i]?=some v->∃I:Nat,(SetTable.insertAt t.place p j)[I]?=some v:=λ{i v} h=>⟨_,zfW O h⟩;have U:=ziT xs p (k,b);show⟨zeT xs p (k,b),?_,U⟩;rw[ad,ht];show⟨?_,?_,T.dm,?_,?_,?_,T.msk,?_,T.plain,T.led,?_⟩;rw[yH,T.eq,zlc];rw[(U.map (·.1)).nodup_iff,aB,bH];exact⟨hk,T.nd⟩;have:=zhN T.ris he;right;intro i v e;rcases zaK O e with ⟨_,rfl⟩ | ⟨_,e'⟩ | ⟨_,_,_,e'⟩;exact Z;exact T.le _ _ e';exact T.le _ _ e';change (SetTable.insertAt t.place p j).size=_;rw[<- aZ,yH,zdH (by right),zdH F,aZ,T.sz];change (zeT xs p (k,b)).length<=t.mask;rw[zdH F];exact hf;intro i q J;rcases ck i p with z | z | z;rw[zfV F z] at J;obtain⟨n,h1,h2,h3⟩:=T.reach i q J;show⟨n,h1,?_,λm Y=>?_⟩;have:=zfW (j:=j) O h2;right;obtain⟨I,e⟩:=h3 m Y;exact B e;subst z;rw[zfT F] at J;cases J;show⟨N,hN,?_,λm Y=>?_⟩;change (SetTable.insertAt t.place i j)[i]?=_;rw[zbA,yH,zfT (by right)];right;obtain⟨I,q',e,_⟩:=hp m Y;exact B e;obtain⟨I,rfl⟩:∃I,i=I+1:=⟨i - 1,by lia⟩;rw[zfU F (by lia)] at J;obtain⟨n,h1,h2,h3⟩:=T.reach I q J;show⟨n,h1,?_,λm Y=>?_⟩;have:=zfW (j:=j) O h2;rw[if_neg (by lia)] at this;exact this;obtain⟨I,e⟩:=h3 m Y;exact B e
end
def zal:∀ (n:Nat) {l:AR},l.Nodup->(∀x∈l,x<n)->l.length<=n
 | 0,l,_,h=>by
  cases l with
  | nil=>exact ai _
  | cons a _=>exact absurd (h a am) (cq _)
 | n+1,l,q,h=>by
  by_cases F:n∈l
  have h1:=zal n (q.erase n) λx B=>by
   grind
  grind
  have:=zal n q λx B=>by
   grind
  lia
def zd4 {α:Type}[BEq α][LawfulBEq α]:∀ {l l':List α},l.Nodup->l'.Nodup->(∀x,x∈l↔x∈l')->l.Perm l'
 | [],l',_,_,h=>by
  cases l' with
  | nil=>exact .nil
  | cons a _=>exact absurd ((h a).mpr am) (by simp)
 | a::l,l',B,q,h=>by grind
def St0 (q:Nat)(h:Int)(K:Nat):SetTable.Probe:=⟨(lp q h K).1,SetTable.runEnd q (lp q h K).1 - (lp q h K).1,(lp q h K).1,(lp q h K).2,none⟩
def zjj {q:Nat}{h:Int}{T K:Nat}(e:stp q h T=St0 q h K):stp q h (T+(SetTable.runEnd q (lp q h K).1 - (lp q h K).1)+1)=St0 q h (K+1):=by change (tm q).advance (stp q h (T+_))=_;rw[zej q h e _ (ai _),zdk q _ (Nat.sub_self _)];rfl
def zre (q:Nat)(h:Int):∀K,(lp q h K).1<=q
 | 0=>cK (eY _ (eQ _))
 | K+1=>cK (eY _ (eQ _))
def zco {q i:Nat}(h:i<=q):SetTable.runEnd q i<=q/\i<=SetTable.runEnd q i:=by unfold SetTable.runEnd;split <;> lia
def zeS{h:Int}{owner:Array (Option Nat)}(hs:owner.size=q+1):∀ (B K T:Nat),T<=10 * K->stp q h T=St0 q h K->(∀m,m<T->∃F,owner[wk q h m]?=some (some F))->
  (∃K',K<=K'/\K'<K+B/\owner[(lp q h K').1]?=some none)->
  ∃N,SetTable.layClean.free q owner B (lp q h K).1 (lp q h K).2=some (wk q h N)/\N<10 * (K+B)/\wk q h N<=q/\owner[wk q h N]?=some none/\∀m,m<N->∃F,owner[wk q h m]?=some (some F)
 | 0,K,T,_,_,_,⟨K',h1,h2,_⟩=>by lia
 | B+1,K,T,hT,eT,ad,⟨K',h1,h2,h3⟩=>by
  have as:=zre q h K;obtain⟨r1,r2⟩:=zco as;have r9:=znk q (lp q h K).1;have I:∀k,k<=SetTable.runEnd q (lp q h K).1 - (lp q h K).1->wk q h (T+k)=(lp q h K).1+k:=λk U=>by change (stp q h (T+k)).j=_;rw[zej q h eT k U]
  have inR:∀k,k<=SetTable.runEnd q (lp q h K).1 - (lp q h K).1->∃u,owner[(lp q h K).1+k]?=some u/\owner.getD ((lp q h K).1+k) (some 0)=u:=λk U=>by
   have a0:(lp q h K).1+k<owner.size:=by lia
   right
  change ∃N,(match (List.range (SetTable.runEnd q (lp q h K).1+1 - (lp q h K).1)).find? λk=>(owner.getD ((lp q h K).1+k) (some 0)).isNone with
   | some k=>some ((lp q h K).1+k)
   | none=>SetTable.layClean.free q owner B (lp q h (K+1)).1 (lp q h (K+1)).2)=some (wk q h N)/\_
  cases hf:(List.range (SetTable.runEnd q (lp q h K).1+1 - (lp q h K).1)).find? λk=>(owner.getD ((lp q h K).1+k) (some 0)).isNone with
  | some k=>
   obtain⟨hp,i,hi,ag,al⟩:=List.find?_eq_some_iff_getElem.mp hf;rw[bF] at ag;subst ag;rw[az] at hi;have U:i<=SetTable.runEnd q (lp q h K).1 - (lp q h K).1:=by lia
   obtain⟨u,J,L⟩:=inR i U;rw[L] at hp
   have av:u=none:=by
    cases u with
    | none=>rfl
    | some z=>exact absurd hp (by simp)
   subst av;show⟨T+i,by rw[I i U],by lia,by rw[I i U];lia,by rw[I i U];exact J,λm hm=>?_⟩;by_cases Z:m<T;exact ad m Z;obtain⟨O,rfl⟩:∃O,m=T+O:=⟨m - T,by lia⟩;obtain⟨u,J,L⟩:=inR O (by lia);have:=al O (by lia);rw[bF,L] at this;rw[I O (by lia),J]
   cases u with
   | none=>simp at this
   | some F=>exact⟨F,rfl⟩
  | none=>
   have an:=eR.mp hf
   have Y:∀k,k<=SetTable.runEnd q (lp q h K).1 - (lp q h K).1->∃F,owner[(lp q h K).1+k]?=some (some F):=λk U=>by
    obtain⟨u,J,L⟩:=inR k U;have:=an k (aW.mpr (by lia));rw[L] at this
    cases u with
    | none=>simp at this
    | some F=>exact⟨F,J⟩
   have a4:K≠K':=λz=>by
    subst z;obtain⟨F,e⟩:=Y 0 (aK _);grind
   have ap:∀m,m<T+(SetTable.runEnd q (lp q h K).1 - (lp q h K).1)+1->∃F,owner[wk q h m]?=some (some F):=λm hm=>by
    by_cases Z:m<T;exact ad m Z;obtain⟨O,rfl⟩:∃O,m=T+O:=⟨m - T,by lia⟩;rw[I O (by lia)];exact Y O (by lia)
   obtain⟨N,a1,a2,a3⟩:=zeS hs B (K+1) _ (by lia) (zjj eT) ap ⟨K',by lia,by lia,h3⟩;exact⟨N,a1,by lia,a3⟩
structure Own (mask:Nat)(hs:AG)(n:Nat)(owner:Array (Option Nat)):Prop where
 size:owner.size=mask+1
 lt:∀ (j i:Nat),owner[j]?=some (some i)->i<n
 inj:∀ (j j' i:Nat),owner[j]?=some (some i)->owner[j']?=some (some i)->j=j'
 reach:∀ (i:Nat) (h:Int),i<n->hs[i]?=some h->∃N,N<10 * SetTable.turns mask/\owner[wk mask h N]?=some (some i)/\∀m,m<N->∃i',owner[wk mask h m]?=some (some i')
def Own.gap{hs:AG}(o:Own q hs n owner)(hn:n<=q):∃j,j<=q/\owner[j]?=some none:=by
 show bJ λJ=>?_
 have all:∀j,j<q+1->∃i,owner[j]?=some (some i):=λj F=>by
  have L:j<owner.size:=by rw[o.size];exact F
  cases e:owner[j] with
  | none=>exact absurd ⟨j,cK F,by right⟩ J
  | some i=>exact⟨i,by right⟩
 have O:=zal n (l:=(List.range (q+1)).map λj=>((owner[j]?).join).getD 0) ?_ ?_;rw[ab,az] at O;lia;show bP.mpr (List.Pairwise.imp_of_mem ?_ dY);intro a b U Y I e;show I ?_;obtain⟨i,hi⟩:=all a (aW.mp U);obtain⟨Z,B⟩:=all b (aW.mp Y);rw[hi,B] at e;have:i=Z:=e;subst this;exact o.inj _ _ _ hi B;intro x hx;obtain⟨j,F,rfl⟩:=aC.mp hx;obtain⟨i,hi⟩:=all j (aW.mp F);rw[hi];exact o.lt _ _ hi
def Own.step{hs:AG}{h:Int}(o:Own B hs n owner)(hr:Ring (B+1))(hn:n<=B)(hh:hs[n]?=some h) :
  ∃j,SetTable.layClean.free B owner (SetTable.turns B) (SetTable.bits h % (B+1)) (SetTable.bits h)=some j/\Own B hs (n+1) (owner.setIfInBounds j (some n)):=by
 obtain⟨g,hg,eg⟩:=o.gap hn;have hb:(lp B h 13).1<B+1:=dO (zre B h 13);obtain⟨k,hk,e⟩:=hr.reach hb (dO hg);obtain⟨N,h1,h2,h3,h4,h5⟩:=zeS o.size (SetTable.turns B) 0 0 (ai _) (h:=h) rfl (λm U=>absurd U (cq _)) ⟨13+k,aK _,by unfold SetTable.turns;lia,by rw[zjp,e];exact eg⟩;have hj:wk B h N<owner.size:=by rw[o.size];lia
 have I:(owner.setIfInBounds (wk B h N) (some n))[wk B h N]?=some (some n):=by right
 have F:∀j,j≠wk B h N->(owner.setIfInBounds (wk B h N) (some n))[j]?=owner[j]?:=λj ad=>by rw[Array.getElem?_setIfInBounds];rw[if_neg (λz=>ad z.symm)]
 have J:∀j i,owner[j]?=some (some i)->(owner.setIfInBounds (wk B h N) (some n))[j]?=some (some i):=λj i e=>by
  by_cases q:j=wk B h N;rw[q,h4] at e;cases e;rw[F j q];exact e
 show⟨wk B h N,h1,by simp[o.size],λj i e=>?_,λj Z i e O=>?_,λi h' hi L=>?_⟩;by_cases q:j=wk B h N;right;rw[F j q] at e;have:=o.lt _ _ e;lia;by_cases q:j=wk B h N;subst q;rw[I] at e;cases e;by_cases Y:Z=wk B h N;exact Y.symm;rw[F Z Y] at O;have:=o.lt _ _ O;lia;rw[F j q] at e;by_cases Y:Z=wk B h N;subst Y;rw[I] at O;cases O;have:=o.lt _ _ e;lia;rw[F Z Y] at O;exact o.inj _ _ _ e O;by_cases q:i=n;subst q;rw[hh] at L;cases L;show⟨N,by lia,I,λm U=>?_⟩;obtain⟨i',e⟩:=h5 m U;exact⟨i',J _ _ e⟩;obtain⟨M,m1,m2,m3⟩:=o.reach i h' (by lia) L;show⟨M,m1,J _ _ m2,λm U=>?_⟩;obtain⟨i',e⟩:=m3 m U;exact⟨i',J _ _ e⟩
def zlN (q:Nat)(hs:AG):Own q hs 0 (Array.replicate (q+1) none):=by
 have B:∀j i,(Array.replicate (q+1) (none:Option Nat))[j]?≠some (some i):=λj i e=>by
  rw[Array.getElem?_replicate] at e;grind
 exact⟨by simp,λj i e=>absurd e (B j i),λj F i e=>absurd e (B j i),λi h hi=>absurd hi (cq _)⟩
def zgJ(J:Ring (B+1)):∀ (zQ q:AG) (owner:Array (Option Nat)),(q++zQ).length<=B->Own B (q++zQ) q.length owner->
  ∃F,zQ.foldl (λ(acc:Option (Array (Option Nat)×Nat)) h=>acc.bind λx=>(SetTable.layClean.free B x.1 (SetTable.turns B) (SetTable.bits h % (B+1)) (SetTable.bits h)).bind λj=>some (x.1.setIfInBounds j (some x.2),x.2+1)) (some (owner,q.length))=some (F,(q++zQ).length)/\Own B (q++zQ) (q++zQ).length F
 | [],q,owner,_,o=>by right
 | h::zQ,q,owner,I,o=>by
  have O:q.length+(zQ.length+1)<=B:=by rw[aD,aO] at I;exact I
  obtain⟨j,e,o'⟩:=o.step J (by lia) (h:=h) (by simp);have L:q++h::zQ=(q++[h])++zQ:=by rw[b5];rfl
  have U:q.length+1=(q++[h]).length:=by rw[aD];rfl
  rw[L,U] at o';obtain⟨F,Y,Z⟩:=zgJ J zQ (q++[h]) _ (by rw[<- L];exact I) o';grind
def ze1(B:Ring (q+1))(hs:Array Int)(F:hs.size<=q):∃owner,SetTable.layClean q hs=some owner/\Own q hs.toList hs.size owner:=by
 obtain⟨owner,h1,h2⟩:=zgJ B hs.toList [] (Array.replicate (q+1) none) (by right) (zlN q _);rw[List.nil_append,aZ] at h2;show⟨owner,?_,h2⟩;unfold SetTable.layClean;right
def xl (q:Nat)(owner:Array (Option Nat)):List (Nat×Nat):=(List.range (q+1)).filterMap λj=>(owner.getD j none).map (j,·)
def xT{hs:AG}(o:Own q hs n owner):(j,i)∈xl q owner↔owner[j]?=some (some i):=by
 unfold xl;rw[cU];constructor;rintro⟨L,F,e⟩;obtain⟨O,I,J⟩:=aA.mp e;cases J;have B:j<owner.size:=by rw[o.size];exact aW.mp F
 right;intro e;obtain⟨B,I⟩:=cv.mp e;show⟨j,aW.mpr (by rw[<- o.size];exact B),?_⟩;right
def zjn (q:Nat)(owner:Array (Option Nat)):(xl q owner).Pairwise λa b=>a.1<b.1:=by
 unfold xl;show List.pairwise_filterMap.mpr ((List.pairwise_lt_range).imp ?_);right
def zjm{hs:AG}(o:Own q hs hs.length owner):((xl q owner).map (·.2)).Perm (List.range hs.length):=by
 show zd4 ?_ dY λi=>?_;show bP.mpr (List.Pairwise.imp_of_mem ?_ (zjn q owner));intro a b B F I e;have h1:=(xT o).mp B;have h2:=(xT o).mp F;rw[e] at h1;have:=o.inj _ _ _ h1 h2;lia;rw[aW];constructor;intro h;obtain⟨⟨j,J⟩,h1,rfl⟩:=aC.mp h;exact o.lt _ _ ((xT o).mp h1);intro h;obtain⟨N,_,e,_⟩:=o.reach i hs[i] h (ah h);exact aC.mpr ⟨(_,i),(xT o).mpr e,rfl⟩
def zcn {α:Type}(l:List α):(List.range l.length).filterMap (λi=>l[i]?)=l:=by
 have:∀ (n:Nat) (l:List α),n=l.length->(List.range n).filterMap (λi=>l[i]?)=l:=by
  intro n
  induction n with
  | zero=>intro l h;cases l with | nil=>rfl | cons _ _=>simp at h
  | succ n q=>
   intro l h
   cases l with
   | nil=>simp at h
   | cons a l=>
    rw[List.range_succ_eq_map,bY];change a::_=_;rw[eL];congr 1;exact q l (by simpa using h)
 exact this _ l rfl
section
variable {prog:Aa}{w:Ab}{t:SetTable}{es:Array (Int×Value)}{xs:List (List Key×Addr)}
def Tb.laid(T:Tb prog w t es xs)(hm:zar B)(hl:xs.length<=B)(L U:Nat) :
  ∃t' F Z,SetTable.laid B L U t.led true (es.map (·.1))=some (t',F)/\(F.filterMap (es[·]?)).size=es.size/\Tb prog w t' (F.filterMap (es[·]?)) Z/\Z.Perm xs/\t'.mask=B:=by
 obtain⟨owner,e,o⟩:=ze1 hm.ring (es.map (·.1)) (by rw[Array.size_map,T.size];exact hl);have hh:(es.map (·.1)).toList=xs.map λq=>(tk prog w).hash q.1:=by rw[Array.toList_map,T.eq,ay];rfl
 have hsz:(es.map (·.1)).size=xs.length:=by rw[Array.size_map,T.size]
 rw[hh,hsz] at o;have o':Own B (xs.map λq=>(tk prog w).hash q.1) (xs.map λq=>(tk prog w).hash q.1).length owner:=by rw[ab];exact o
 have hp:=zjm o';rw[ab] at hp;have ad:((((xl B owner).map (·.2)).toArray).filterMap (es[·]?)).toList=((xl B owner).map (·.2)).filterMap (es.toList[·]?):=by right
 have J:(((xl B owner).map (·.2)).filterMap (xs[·]?)).Perm xs:=by have:=hp.filterMap (xs[·]?);rw[zcn] at this;exact this
 have ag:((xl B owner).map (·.2)).filterMap (es.toList[·]?)=(((xl B owner).map (·.2)).filterMap (xs[·]?)).map λq=>((tk prog w).hash q.1,Value.ref q.2):=by rw[List.map_filterMap];congr 1;funext i;rw[T.eq,aj]
 have Y:∀ {c:Nat} {q:List Key×Addr},(((xl B owner).map (·.2)).filterMap (xs[·]?))[c]?=some q->∃j i,(xl B owner)[c]?=some (j,i)/\xs[i]?=some q:=by
  have as:∀ (l:List (Nat×Nat)),(∀p∈l,p.2<xs.length)->∀ {c:Nat} {q:List Key×Addr},((l.map (·.2)).filterMap (xs[·]?))[c]?=some q->∃j i,l[c]?=some (j,i)/\xs[i]?=some q:=by
   intro l
   induction l with
   | nil=>intro _ c q h;simp at h
   | cons p l ih=>
    intro al c q h;have av:=al p am;rw[aB,bY,ah av] at h
    cases c with
    | zero=>
     show⟨p.1,p.2,rfl,?_⟩;right
    | succ c=>exact ih (λp' a0=>al p' (ar _ a0)) (by simpa using h)
  intro c q h;show as _ (λp hp=>?_) h;obtain⟨j,i⟩:=p;exact o.lt _ _ ((xT o).mp hp)
 have I:∀ {c j i:Nat},(xl B owner)[c]?=some (j,i)->(((xl B owner).map (·.1)).toArray)[c]?=some j:=λ{c j i} h=>by right
 show⟨_,_,((xl B owner).map (·.2)).filterMap (xs[·]?),by unfold SetTable.laid;rw[e];rfl,?_,⟨?_,?_,rfl,?_,?_,?_,hm,?_,rfl,by exact T.led,?_⟩,J,rfl⟩;change ((((xl B owner).map (·.2)).toArray).filterMap (es[·]?)).size=es.size;rw[<- aZ,ad,ag,ab,J.length_eq,T.size];exact ad.trans ag;rw[(J.map (·.1)).nodup_iff];exact T.nd;intro i j an hj
 have ap:j<(xl B owner).length:=by
  have:(((xl B owner).map (·.1)).toArray).size=(xl B owner).length:=by simp
  rw[<- this];exact hj
 have a1:i<(xl B owner).length:=Nat.lt_trans an ap;have:=b7.mp (zjn B owner) i j a1 ap an;change (((xl B owner).map (·.1)).toArray).getD i 0<(((xl B owner).map (·.1)).toArray).getD j 0;right;intro c j hc;have O:((xl B owner).map (·.1))[c]?=some j:=by rw[zbA] at hc;exact hc
 rw[aj] at O;obtain⟨⟨j',i'⟩,h1,rfl⟩:=aA.mp O;have h2:=(xT o).mp (ak h1);have:=(cv.mp h2).1;rw[o.size] at this;change j'<=B;lia;change (((xl B owner).map (·.1)).toArray).size=_;have h1:(((xl B owner).map (·.1)).toArray).size=(xl B owner).length:=by simp
 rw[h1,J.length_eq];have:=hp.length_eq;grind;rw[J.length_eq];exact hl;intro c q hq;obtain⟨j,i,h1,h2⟩:=Y hq;have hi:=(ac.mp h2).1;obtain⟨N,n1,n2,n3⟩:=o.reach i ((tk prog w).hash q.1) hi (by right);have hj:=o.inj _ _ _ ((xT o).mp (ak h1)) n2;subst hj;show⟨N,n1,I h1,λm a2=>?_⟩;obtain⟨i',e'⟩:=n3 m a2;obtain⟨c',O,a3⟩:=bB.mp ((xT o).mpr e');exact⟨c',I (by rw[ah O,a3])⟩
variable {A:Ae}{E:AA}{s:AZ}
def xA (prog:Aa)(w:Ab)(h:Heap)(a:Addr)(xs:List (List Key×Addr)):Prop:=∃o es q t,h.get? a=some o/\o.ExactSet/\o.data = .set es q t/\Tb prog w t es xs/\xs.length * 5<t.mask * 3
def zbD{ns:AG}(Y:(tk prog w).is s.heap (ns.map Sum.inl) b)(h:Q true s):Ag prog w A (hashByValue 8 (.ref b)) Q E s:=by
 have I:IsTupleKey (zX prog w) s.heap (ns.map Sum.inl) b:=Y;have Z:=I.typeIs;obtain⟨o,items,n,ho,_,hd,hi⟩:=I
 have B:∀ {ns:AG} {vs:AN},ItemsAre (zX prog w) (ns.map Sum.inl) vs->∀v∈vs,∃i t,v=Value.int i t:=by
  intro ns
  induction ns with
  | nil=>intro vs h v J;cases h;simp at J
  | cons n ns ih=>
   intro vs h v J
   cases h with
   | cons h1 h2=>
    rcases aE.mp J with rfl | J
    ·have L:zf5 (Sum.inl n) v=true:=h1;rcases zW L with ⟨i,t,_,e⟩ | ⟨x,t,z,_⟩
     all_goals right
    exact ih h2 v J
 unfold hashByValue;show aa (er Z F.slot_tuple_hash.lookup ?_);dsimp only;show aa (ci ho hd ?_);show aa ?_;change wpAny _ _ (forIn items _ _) _ _ s;rw[<- Array.forIn_toList];show fF _ (λzQ r s'=>r.1=none/\s'=s/\∀v∈zQ,∃i t,v=Value.int i t) _ ?_ ?_ _ _ ⟨rfl,rfl,B hi⟩;rintro v zQ r s' ⟨O,rfl,q⟩;obtain⟨i,t,rfl⟩:=q v am;have e:hashByValue 7 (Value.int i t)=pure true:=rfl;rw[e];show aa (ae ?_);simp only[fq,aP,if_false];exact ae ⟨rfl,rfl,λu U=>q u (ar _ U)⟩;rintro⟨r1,r2⟩ s' ⟨O,rfl,_⟩;simp only at O;subst O;exact ae h
def zdb{h:Heap}{a:Addr}{o:Obj}{es:Array (Int×Value)}{es':Array (Int×Value)}(F:h.get? a=some o)(B:o.data = .set es q t) :
  (h.update a (Obj.putSet es' t')).get? a=some { o with data:=.set es' (q+1) t' }:=by
 have:=bj (Obj.putSet es' t') F (by rw[putSet_of es' t' B];rfl);rw[putSet_of es' t' B] at this;exact this
def zmc(T:Tb prog w t es xs)(ho:s.heap.get? a=some o)(hx:o.ExactSet)(hd:o.data = .set es ep t)(hw:SetTable.sizeAbove wanted=mask+1)(hm:zar mask)(hl:xs.length * 5<mask * 3)(h:∀h' xs',Heap.SameBut a s.heap h'->xA prog w h' a xs'->xs'.Perm xs->Q () { s with heap:=h' }):Ag prog w A (setRelay a wanted) Q E s:=by
 unfold setRelay;show aa (bq ho hd T.fits ?_);dsimp only;have:=hm.le;rw[if_neg (by rw[hw,bN];lia)];obtain⟨t',order,xs',e,hsz,T',hp,hmk⟩:=T.laid hm (by lia) t.finger (t.movedTo mask);have e':t.relaid (es.map (·.1)) wanted=some (t',order):=by unfold SetTable.relaid;rw[hw,T.plain];exact e
 have core:∀ {R:Array (Int×Value)×SetTable->AZ->Prop},R (order.filterMap (es[·]?),t') s->Ag prog w A (do
   let some (t,order):=t.relaid (es.map (·.1)) wanted | unsupported "internal:set-table-without-room"
   let es':=order.filterMap (es[·]?)
   if es'.size != es.size then unsupported "internal:set-table-lost-an-element"
   pure (es',t)) R E s:=λ{R} hR=>by
  rw[e'];dsimp only;rw[hsz];simp only[bne_self_eq_false,aP,if_false]
  first | exact ae hR | exact aa (by grind)
 show aa (core ?_);show wpAny_storeSet_of ho hd ?_ (by rw[hsz,T.size,bN];lia);show h _ xs' (br _ a _) ⟨_,_,_,t',zdb ho hd,hx,rfl,T',?_⟩ hp;rw[hp.length_eq,hmk];exact hl
def Tb.out(T:Tb prog w t es xs)(Y:N<10 * SetTable.turns t.mask)(J:∀i:Nat,t.place[i]?≠some (wk t.mask ((tk prog w).hash k) N))(L:zez t xs ((tk prog w).hash k) k N):k∉xs.map (·.1):=λz=>by
 obtain⟨q,O,B⟩:=aC.mp z;obtain⟨i,hi⟩:=dU.mp O;obtain⟨n,h1,h2,I⟩:=T.reach i q hi;rw[B] at h2 I;rcases ck N n with z | z | z;obtain⟨F,e⟩:=I N z;exact J F e;right;obtain⟨F,Z,U,e2,e3⟩:=L n z
 have:F=i:=by
  have a1:=za5 T.ris U;have a2:=za5 T.ris h2;right
 grind
def zmB{ns:AG}(hu:A.units<cLine)(S:xA prog w s.heap a xs)(hk:(tk prog w).is s.heap (ns.map Sum.inl) b)(av:∀q∈xs,(tk prog w).is s.heap q.1 q.2)(hn:xs.length<300)(h:∀r h' n U,Heap.SameBut a s.heap h'->xA prog w h' a U->((ns.map Sum.inl)∈xs.map (·.1)->U=xs)->((ns.map Sum.inl)∉xs.map (·.1)->U.Perm ((ns.map Sum.inl,b)::xs))->Q r { s with heap:=h',toks:=n }) :
  Ag prog w A (setAdd a (.ref b)) Q E s:=by
 obtain⟨o,es,ep,t,ho,hx,hd,T,B⟩:=S;unfold setAdd;show be (aa ((tk prog w).pyHash hu hk ?_));unfold setAddHashed;show be ?_;rw[show (100000:Nat)=99999+1 from rfl];unfold setAddHashedIn;show aa (bq (s:={ s with toks:=s.toks+(tk prog w).draws (ns.map Sum.inl) }) ho hd T.fits ?_);dsimp only;rw[show byScan (.ref b) es=false from rfl];simp only[aP,if_false];unfold setSearch;have hm:=T.msk.le;have a7:t.fill=xs.length:=by unfold SetTable.fill;rw[T.sz,T.dm];rfl
 show aa (zcy (s:={ s with toks:=s.toks+(tk prog w).draws (ns.map Sum.inl) }) hu T hk av ho hd ?found ?free 100000 0 none rfl (by unfold SetTable.turns;lia) (aK _) (λm hm=>absurd hm (cq _)))
 case found=>
  intro r i q hq a0 _;dsimp only;have ag:(ns.map Sum.inl)∈xs.map (·.1):=aC.mpr ⟨q,ak hq,a0⟩;exact ae (h false s.heap _ xs (Heap.SameBut.refl a s.heap) ⟨o,es,ep,t,ho,hx,hd,T,B⟩ (λ_=>rfl) (λz=>absurd ag z))
 case free=>
  intro N hN he hp;have Y:=T.out hN he hp;dsimp only;show aa (bq (s:={ s with toks:=s.toks+(tk prog w).draws (ns.map Sum.inl) }) ho hd T.fits ?_);dsimp only
  have al:wk t.mask ((tk prog w).hash (ns.map Sum.inl)) N<=t.mask:=by
   have:∀ (h:Int) (n:Nat),wk t.mask h n<=t.mask/\(stp t.mask h n).j+(stp t.mask h n).more<=t.mask:=by
    intro h n
    induction n with
    | zero=>
     have h0:SetTable.bits h % (t.mask+1)<=t.mask:=cK (eY _ (eQ _));obtain⟨r1,r2⟩:=zco h0;show⟨h0,?_⟩;change SetTable.bits h % (t.mask+1)+(SetTable.runEnd t.mask (SetTable.bits h % (t.mask+1)) - SetTable.bits h % (t.mask+1))<=t.mask;lia
    | succ n ih=>
     change ((tm t.mask).advance (stp t.mask h n)).j<=t.mask/\((tm t.mask).advance (stp t.mask h n)).j+((tm t.mask).advance (stp t.mask h n)).more<=t.mask;by_cases a1:0<(stp t.mask h n).more;rw[zgu _ _ a1];grind;rw[zdk _ _ (by lia)];have h0:((stp t.mask h n).i * 5+1+(stp t.mask h n).perturb / 32) % (t.mask+1)<=t.mask:=cK (eY _ (eQ _));obtain⟨r1,r2⟩:=zco h0;grind
   exact (this _ _).1
  obtain⟨a2,T1,Z⟩:=T.put (b:=b) hN he hp Y (by lia) al;generalize an:t.put (wk t.mask ((tk prog w).hash (ns.map Sum.inl)) N)=tp at T1;obtain⟨J,p⟩:=tp;dsimp only at T1 ⊢
  have ap:J.mask=t.mask:=by
   have:J=(t.put (wk t.mask ((tk prog w).hash (ns.map Sum.inl)) N)).1:=by rw[an]
   rw[this];rfl
  rw[T1.plain];simp only[if_true];show aa (zbD (s:={ s with toks:=s.toks+(tk prog w).draws (ns.map Sum.inl) }) hk ?_);simp only[if_true];have ad:=Z.length_eq;rw[aO] at ad;show aa (wpAny_storeSet_of (s:={ s with toks:=s.toks+(tk prog w).draws (ns.map Sum.inl) }) ho hd ?_ (by rw[T1.size,bN];lia));have g1:=zdb (es':=SetTable.insertAt es p ((tk prog w).hash (ns.map Sum.inl),.ref b)) (t':=J) ho hd;have as:=br s.heap a (Obj.putSet (SetTable.insertAt es p ((tk prog w).hash (ns.map Sum.inl),.ref b)) J);simp only[Bool.not_false,Bool.true_and];have L:J.fill=xs.length+1:=by unfold SetTable.fill;rw[T1.sz,T1.dm,ad];rfl
  by_cases O:J.tooFull=true
  ·rw[if_pos O];unfold SetTable.tooFull at O;rw[L,ap] at O;have I:=bz O;rw[T.size]
   have next:∃F,SetTable.sizeAbove (SetTable.grown (xs.length+1))=F+1/\zar F/\(xs.length+1) * 5<F * 3:=by
    rcases T.msk with e | e | e | e;rw[e] at I B;have:xs.length=4:=by lia
    rw[this];exact⟨31,by ext,.inr (.inl rfl),by lia⟩;rw[e] at I B;have:xs.length=18:=by lia
    rw[this];exact⟨127,by ext,.inr (.inr (.inl rfl)),by lia⟩;rw[e] at I B;have:xs.length=76:=by lia
    rw[this];exact⟨511,by ext,.inr (.inr (.inr rfl)),by lia⟩;rw[e] at I B;lia
   obtain⟨F,m1,m2,m3⟩:=next;show aa (zmc (s:={ s with heap:=s.heap.update a (Obj.putSet (SetTable.insertAt es p ((tk prog w).hash (ns.map Sum.inl),.ref b)) J),toks:=s.toks+(tk prog w).draws (ns.map Sum.inl) }) T1 g1 hx rfl m1 m2 (by rw[ad];exact m3) λh' a3 a4 S2 a5=>?_);exact ae (h true h' _ a3 (as.trans a4) S2 (λz=>absurd z Y) λ_=>a5.trans Z)
  rw[if_neg O];unfold SetTable.tooFull at O;rw[L,ap] at O;have I:¬ ((xs.length+1) * 5 ≥ t.mask * 3):=λz=>O (a9 z);show ae (h true _ _ a2 as ⟨_,_,_,J,g1,hx,rfl,T1,?_⟩ (λz=>absurd z Y) λ_=>Z);right
end
def zV:Slot "set_iterator" "__next__" "set_iterator.__next__" :=
 .of (owner := "set_iterator") (n := "__next__") (by rw[typeLookup_type,dW];kernel_rfl) (by decide +kernel) (by decide +kernel) (by decide +kernel)
  (by first | exact .inl (by decide +kernel) | exact .inr (by decide +kernel)) (by rw[isSubtype_type];kernel_rfl)
def uo:Slot "set_iterator" "__iter__" "set_iterator.__iter__" :=
 .of (owner := "set_iterator") (n := "__iter__") (by rw[typeLookup_type,dW];kernel_rfl) (by decide +kernel) (by decide +kernel) (by decide +kernel)
  (by first | exact .inl (by decide +kernel) | exact .inr (by decide +kernel)) (by rw[isSubtype_type];kernel_rfl)
def xQ:entryFor table "set_iterator.__next__" = some Builtin.«set_iterator.__next__»:=entryFor_of_tree (by kernel_rfl)
def zaH:entryFor table "set_iterator.__iter__" = some Builtin.«dict_keyiterator.__iter__»:=entryFor_alias (id' := "dict_keyiterator.__iter__") (by kernel_rfl) rfl (by decide +kernel) (by kernel_rfl)
def zcM:entryFor table "set.__iter__" = some Builtin.«frozenset.__iter__»:=entryFor_alias (id' := "frozenset.__iter__") (by kernel_rfl) rfl (by decide +kernel) (by kernel_rfl)
def uc (a:Value):argsOk "set_iterator.__next__" ⟨[a],[]⟩:=by unfold argsOk;kernel_rfl
def za8 (a:Value):argsOk "set_iterator.__iter__" ⟨[a],[]⟩:=by unfold argsOk;kernel_rfl
def ziM {α:Type}(next:Nat->Nat):∀ (n k:Nat) (left:List α) (q:Array α),left.length=n->(pickOrder.go next n k left q).toList.Perm (q.toList++left)
 | 0,k,left,q,h=>by
  have:left=[]:=bi h;subst this;change q.toList.Perm (q.toList++[]);right
 | n+1,k,left,q,h=>by
  have B:next k % left.length<left.length:=eY _ (by lia)
  change (match left[next k % left.length]? with
   | some x=>pickOrder.go next n (k+1) (left.eraseIdx (next k % left.length)) (q.push x)
   | none=>q).toList.Perm _
  rw[ah B];show (ziM next n (k+1) _ _ (by grind)).trans ?_;rw[Array.toList_push,b5];show List.Perm.append_left _ ?_;have e:left=left.take (next k % left.length)++left[next k % left.length]::left.drop (next k % left.length+1):=by right
  rw[List.eraseIdx_eq_take_drop_succ];show List.Perm.trans ?_ (List.Perm.of_eq e.symm);rw[List.singleton_append];exact List.perm_middle.symm
def zfh {α:Type}(next:Nat->Nat)(xs:Array α):(pickOrder next xs).toList.Perm xs.toList:=by
 change (pickOrder.go next xs.size 0 xs.toList #[]).toList.Perm _;have:=ziM next xs.size 0 xs.toList #[] (aZ);grind
section
variable {prog:Aa}{w:Ab}{t:SetTable}{es:Array (Int×Value)}{xs:List (List Key×Addr)}{A:Ae}{E:AA}{s:AZ}
def zlM (w:Ab)(a:Addr)(q:Nat)(es:Array (Int×Value)):Array (Int×Value):=if w.params.followText "set-order" then pickOrder (w.params.setOrder a q) es else es
def zfg (a:Addr)(q:Nat):(zlM w a q es).toList.Perm es.toList:=by
 unfold zlM;split;exact zfh _ _;right
def yE (h:Heap)(B a:Addr)(q i n F:Nat):Prop:=∃o,h.get? B=some o/\o.cls = .type "set_iterator" /\ o.data = .fields #[.int q 0,.int i 0,.ref a,.int n 0,.int F 0]
def yE.typeIs(x:yE s.heap B a q i n F):s.TypeIs (.ref B) "set_iterator" := let ⟨o,ho,hc,_⟩:=x;⟨o,ho,hc⟩
structure SetIs (prog:Aa)(w:Ab)(h:Heap)(a:Addr)(es:Array (Int×Value))(ep:Nat)(t:SetTable)(xs:List (List Key×Addr)):Prop where
 ob:∃o,h.get? a=some o/\o.ExactSet/\o.data = .set es ep t
 tb:Tb prog w t es xs
def zjF{e:Int×Value}(hit:yE s.heap it a slot i es.size ep)(S:SetIs prog w s.heap a es ep t xs)(hs:w.params.followText "set-order" = true\/SetTable.below t.place slot=i)(hx:(zlM w a ep es)[i]?=some e)(hQ:∀h' slot',yE h' it a slot' (i+1) es.size ep->(w.params.followText "set-order" = true\/SetTable.below t.place slot'=i+1)->Heap.SameBut it s.heap h'->Q (some e.2) { s with heap:=h' }):Ag prog w A (pyNext (.ref it)) Q E s:=by
 obtain⟨o,ho,hc,hd⟩:=id hit;obtain⟨⟨os,hos,_,hds⟩,T⟩:=S;have hf:=T.fits;unfold pyNext
 show aa (cB (wpAny_callSpecial?_slot (name:=Str.ofString "__next__") hit.typeIs zV
  (aS zV hit.typeIs xQ ?_ (uc _))))
 show aa (ae ?_);show aa (eW ho hd ?_);dsimp only;show aa (eF hos hds hf ?_);rw[if_neg (by simp)]
 have upd2:∀slot':Nat,∃h',yE h' it a slot' (i+1) es.size ep/\Heap.SameBut it s.heap h'/\∀ {A':Ae} {E':AA} {α:Type} {f:Sem α} {R:α->AZ->Prop},Ag prog w A' f R E' { s with heap:=h' }->Ag prog w A' (do setField (.ref it) 0 (rawInt slot');setField (.ref it) 1 (rawInt ((i:Int)+1));f) R E' s:=by
  intro slot';have h1:(s.heap.update it (Obj.mapFields (·.setIfInBounds 0 (rawInt slot')))).get? it=some (Obj.mapFields (·.setIfInBounds 0 (rawInt slot')) o):=bj _ ho (cY (bT hd _));have hd1:(Obj.mapFields (·.setIfInBounds 0 (rawInt slot')) o).data = .fields #[.int slot' 0,.int i 0,.ref a,.int es.size 0,.int ep 0]:=by rw[bT hd];simp[rawInt]
  show⟨(s.heap.update it (Obj.mapFields (·.setIfInBounds 0 (rawInt slot')))).update it (Obj.mapFields (·.setIfInBounds 1 (rawInt ((i:Int)+1)))),⟨_,bj _ h1 (cY (bT hd1 _)),?_,?_⟩,(br ..).trans (br ..),λ{A' E' α f R} hR=>?_⟩;rw[dN,dN];exact hc;rw[bT hd1];simp[rawInt];exact aa (bD ho hd (by simp) (aa (bD (s:={ s with heap:=s.heap.update it (Obj.mapFields (·.setIfInBounds 0 (rawInt slot'))) }) h1 hd1 (by simp) hR)))
 unfold setNext
 cases hb:w.params.followText "set-order" with
 | true=>
  have hx':(pickOrder (w.params.setOrder a ep) es)[i]?=some e:=by
   unfold zlM at hx;right
  obtain⟨h',hi',sb',step⟩:=upd2 slot;show aa ?_;show aa (bq hos hds hf ?_);dsimp only;unfold setsByText;show aa (aa (bp (ae ?_)));rw[show (model prog w).w=w from rfl,hb];simp only[if_true];rw[if_neg (by simp)];unfold setWalk;show aa ?_;show aa (bq hos hds hf ?_);dsimp only;unfold setsByText;show aa (aa (bp (ae ?_)));rw[show (model prog w).w=w from rfl,hb];simp only[if_true];show aa (bp (ae ?_));show ae ?_;rw[show (model prog w).w=w from rfl];simp only[aR];rw[hx'];dsimp only[Option.map];exact step (ae ⟨_,rfl,ae (hQ h' slot hi' (.inl hb) sb')⟩)
 | false=>
  have hx':es[i]?=some e:=by
   unfold zlM at hx;grind
  have hsl:SetTable.below t.place slot=i:=by grind
  have hi:i<es.size:=(cv.mp hx').1;have hpl:t.place[i]?=some (t.place.getD i 0):=zfQ (by rw[T.sz,<- T.size];exact hi);obtain⟨h',hi',sb',step⟩:=upd2 (t.place.getD i 0+1);show aa ?_;show aa (bq hos hds hf ?_);dsimp only;unfold setsByText;show aa (aa (bp (ae ?_)));rw[show (model prog w).w=w from rfl,hb];simp only[aP,if_false];rw[if_neg (by change ¬ ((!t.plain&&decide (es.size > 1))=true);rw[T.plain];simp)];show aa ?_;change wpAny _ _ (if (!t.led&&!es.isEmpty)=true then unsupported "set:maker-not-led" else pure ()) _ _ s;rw[if_neg (by rw[T.led,hb];simp)];show ae ?_;simp only[aR];rw[hsl,hx',hpl];show ae ?_;dsimp only;show step (ae ⟨_,rfl,ae (hQ h' _ hi' (.inr ?_) sb')⟩);obtain⟨b1,b2,b3⟩:=ud T.ris (t.place.getD i 0+1);have hi2:=(xZ hpl).1;rcases ck (SetTable.below t.place (t.place.getD i 0+1)) (i+1) with z | z | z;have:=b3 i (by lia) hi2;lia;exact z;have h1:=b2 (i+1) z;have h2:=T.ris i (i+1) (fE i) (by lia);lia
def zlF(hh:A.handled=none)(B:yE s.heap J a q es.size es.size L)(S:SetIs prog w s.heap a es L t xs)(hs:w.params.followText "set-order" = true\/SetTable.below t.place q=es.size)(hQ:∀h',Heap.ExtBut J s.heap h'->Q none { s with heap:=h' }):Ag prog w A (pyNext (.ref J)) Q E s:=by
 obtain⟨o,O,hc,U⟩:=id B;obtain⟨⟨os,F,_,I⟩,T⟩:=S;have Y:=T.fits;unfold pyNext
 show aa (cB (wpAny_callSpecial?_slot (name:=Str.ofString "__next__") B.typeIs zV
  (aS zV B.typeIs xQ ?_ (uc _))))
 show aa (ae ?_);show aa (eW O U ?_);dsimp only;show aa (eF F I Y ?_);rw[if_neg (by simp)];unfold setNext;show aa ?_;show aa (bq F I Y ?_);dsimp only;unfold setsByText;show aa (aa (bp (ae ?_)))
 cases hb:w.params.followText "set-order" with
 | true=>
  rw[show (model prog w).w=w from rfl,hb];simp only[if_true];rw[if_neg (by simp)];unfold setWalk;show aa ?_;show aa (bq F I Y ?_);dsimp only;unfold setsByText;show aa (aa (bp (ae ?_)));rw[show (model prog w).w=w from rfl,hb];simp only[if_true];show aa (bp (ae ?_));show ae ?_;rw[show (model prog w).w=w from rfl];simp only[aR];have hn:(pickOrder (w.params.setOrder a L) es)[es.size]?=none:=by rw[zbA];show cZ ?_;rw[(zfh _ es).length_eq,aZ];exact ai _
  rw[hn];dsimp only[Option.map];show aa (bD O U (by simp) ?_);show wpAny _ _ (newExc (.type "StopIteration") [] >>= _) _ _ _;show aa ?_;simp only[newExc,newTuple];show aa (bh ?_ (by size_fits));show aa (m:=firstArgMember _ _) (fg (a:=Value.none) (by first | rfl | (simp only[firstArgMember];rfl)) ?_);show bh ?_ (by size_fits);simp only[raiseNew];show aa (fj ?_);rw[show A.in1.handled=none from hh];show aa (ae (wpAny_throw ?_));show aa (cx (T := "StopIteration") (b:=true) ⟨_,aq _ rfl,rfl⟩ dg ?_);exact ae (hQ _ (((br ..).extBut.push _).push _))
 | false=>
  have Z:SetTable.below t.place q=es.size:=by grind
  rw[show (model prog w).w=w from rfl,hb];simp only[aP,if_false];rw[if_neg (by change ¬ ((!t.plain&&decide (es.size > 1))=true);rw[T.plain];simp)];show aa ?_;change wpAny _ _ (if (!t.led&&!es.isEmpty)=true then unsupported "set:maker-not-led" else pure ()) _ _ s;rw[if_neg (by rw[T.led,hb];simp)];show ae ?_;simp only[aR];rw[Z,Array.getElem?_eq_none (ai _)];show ae ?_;dsimp only;show aa (bD O U (by simp) ?_);show wpAny _ _ (newExc (.type "StopIteration") [] >>= _) _ _ _;show aa ?_;simp only[newExc,newTuple];show aa (bh ?_ (by size_fits));show aa (m:=firstArgMember _ _) (fg (a:=Value.none) (by first | rfl | (simp only[firstArgMember];rfl)) ?_);show bh ?_ (by size_fits);simp only[raiseNew];show aa (fj ?_);rw[show A.in1.handled=none from hh];show aa (ae (wpAny_throw ?_));show aa (cx (T := "StopIteration") (b:=true) ⟨_,aq _ rfl,rfl⟩ dg ?_);exact ae (hQ _ (((br ..).extBut.push _).push _))
def zi3(q:yE s.heap F a B i n I)(h:Q (.ref F) s):Ag prog w A (pyIter (.ref F)) Q E s:=by show eZ q.typeIs uo (aS uo q.typeIs zaH ?_ (za8 _));change wpAny _ _ (ret (.ref F)) _ _ s;exact ae ⟨_,rfl,"set_iterator",_,q.typeIs,zV.lookup,h⟩
def SetIs.typeIs(S:SetIs prog w s.heap a es q t xs):s.TypeIs (.ref a) "set" := let ⟨o,ho,hc,_⟩:=S.ob;⟨o,ho,hc.1⟩
def zlf(S:SetIs prog w s.heap a es J t xs)(h:Q (.ref s.heap.objs.size) { s with heap:=s.heap.push { cls:=.type "set_iterator",data:=.fields #[.int 0 0,.int 0 0,.ref a,.int es.size 0,.int J 0] } }):Ag prog w A (pyIter (.ref a)) Q E s:=by
 have L:=S.typeIs;obtain⟨⟨O,q,U,B⟩,T⟩:=S;have I:=T.fits;show eZ L F.slot_set_iter (aS F.slot_set_iter L zcM ?_ (F.args_set_iter_1 _));unfold Builtin.«frozenset.__iter__»;show aa (m:=Builtin.Frozenset.slot0 "__iter__" ⟨[.ref a],[]⟩) (ae ?_);show aa ?_;unfold Builtin.Frozenset.sizeOf;show aa (eF q B I (ae ?_));show aa ?_;unfold setDrawn;show aa (bq q B I ?_);dsimp only;unfold setsByText;show aa (aa (bp (ae ?_)));show ae ?_;rw[if_neg (by change ¬ ((!_&&(!t.plain&&decide (es.size > 1)))=true);rw[T.plain];simp)];show aa (ae ?_);show aa (wpAny_setEpoch_of q B I ?_);show aa (bh (ae ⟨_,rfl,"set_iterator",_,⟨_,aq _ rfl,rfl⟩,zV.lookup,?_⟩));simpa [rawInt] using h
def zmh(I:s.TypeIs (.ref r) "set")(h:Q false s):Ag prog w A (Builtin.List.listLengthHint (.ref r)) Q E s:=by
 unfold Builtin.List.listLengthHint;show aa (er I PySem.F.slot_set_len.lookup ?_);generalize B:("set.__len__" : String)=id0
 wp_delta
 rw[show splitId id0=some ("set","__len__") from by subst B;decide +kernel];subst B;show aa (cx (T := "set") (b:=true) I (by rw[isSubtype_type];kernel_rfl) ?_);show wpAny_ite_split (λq=>absurd q (by ext)) (λ_=>?_);show wpAny_ite_split (λ_=>?_) (λq=>absurd (by decide +kernel) q);show aa (cL I ?_);exact ae h
def SetIs.keep(S:SetIs prog w h a es q t xs)(k:∀o,h.get? a=some o->h'.get? a=some o):SetIs prog w h' a es q t xs:=let ⟨⟨o,ho,r⟩,T⟩:=S;⟨⟨o,k o ho,r⟩,T⟩
def yE.keep(S:yE h B a q i n F)(k:∀o,h.get? B=some o->h'.get? B=some o):yE h' B a q i n F:=let ⟨o,ho,r⟩:=S;⟨o,k o ho,r⟩
def SetIs.lt(S:SetIs prog w h a es q t xs):a<h.objs.size:=let ⟨⟨o,ho,_⟩,_⟩:=S;au ho
def zkd (hh:A.handled=none)(I a:Addr)(ad:a≠I)(J:Nat) :
  Walks prog w A I [I,a] [I] es.size (λi v=>∃e,(zlM w a J es)[i]?=some e/\v=e.2) (λi h=>(∃q,yE h I a q i es.size J/\(w.params.followText "set-order" = true\/SetTable.below t.place q=i))/\SetIs prog w h a es J t xs) where
 sub:=λb L=>by simp at L;simp[L]
 frame:=λ_ _ _ st hk=>⟨let ⟨Z,x,y⟩:=st.1;⟨Z,x.keep λo e=>hk I (by simp) o e,y⟩,st.2.keep λo e=>hk a (by simp) o e⟩
 item:=λi s Q E hi st O=>by
  obtain⟨⟨Z,B,hs⟩,S⟩:=st
  have U:i<(zlM w a J es).size:=by
   have:=(zfg (w:=w) (es:=es) a J).length_eq;grind
  show zjF B S hs (e:=(zlM w a J es)[i]) (cC U) λh' F Y ag sb=>?_;exact O _ h' s.toks ⟨_,cC U,rfl⟩ ⟨⟨F,Y,ag⟩,S.keep λo e=>(sb.2 a ad).trans e⟩ λb o L e=>sb.extBut b o (λh=>L (by simp[h])) e
 done:=λs Q E st O=>by obtain⟨⟨Z,B,hs⟩,S⟩:=st;exact zlF hh B S hs λh' al=>O h' s.toks λb o L e=>al b o (λh=>L (by simp[h])) e
 self:=λ_ _ _ _ st O=>let ⟨Z,x,_⟩:=st.1;zi3 x O
def zpN (a:Addr)(q:Nat):KdlSrc prog w "set" a a es.size (λi v=>∃e,(zlM w a q es)[i]?=some e/\v=e.2) (λh=>SetIs prog w h a es q t xs) where
 type:=λs S=>S.typeIs
 there:=λ_ S=>⟨S.lt,S.lt⟩
 keep:=λ_ _ S F=>S.keep λo e=>F a (.inl rfl) o e
 notList:=by ext
 notTuple:=by ext
 hint:=λ_ _ _ _ S B=>zmh S.typeIs B
 iter:=λA s I S=>⟨_,_,(λ_ _ B=>zlf S B),zkd I _ a (aL S.lt) q,⟨⟨0,⟨_,aq _ rfl,rfl,rfl⟩,.inr ?_⟩,S.keep λo e=>af _ e⟩⟩
where finally
 have b:=ud S.tb.ris 0;rcases Nat.eq_zero_or_pos (SetTable.below t.place 0) with z | z;exact z;exact absurd (b.2.1 0 z) (cq _)
end
def zeA (h:Heap)(L D:Addr)(v:Value)(st:AG):Prop:=∃ (a:Addr) (items:AN),v = .ref a/\IsTup h a items.toArray/\z0 (st.map V.int) items/\a≠L/\a≠D
def zeA.keep{st:AG}(r:zeA h L D v st)(q:∀b o,b≠L->b≠D->h.get? b=some o->h'.get? b=some o):zeA h' L D v st:=by obtain⟨a,items,e,⟨o,B,F⟩,I,h1,h2⟩:=r;exact⟨a,items,e,⟨o,q a o h1 h2 B,F⟩,I,h1,h2⟩
def zc1:∀ {vs:AN} {sts:AF},Paired (zeA h L D) vs sts->(∀st∈sts,1<=st.length)->∃fs,W.KatTups h vs fs/\fs.length=sts.length/\∀f∈fs,∃a t,f=Value.int a t
 | _,_,.nil,_=>⟨[],trivial,rfl,λ_ h=>by simp at h⟩
 | _,_,.cons (b:=st) r I,h1=>by
  obtain⟨a,items,rfl,⟨o,J,O,n,U⟩,q,_⟩:=r;obtain⟨fs,Y,f2,f3⟩:=zc1 I λz Z=>h1 z (ar _ Z);have B:=h1 st am
  match st,q,B with
  | z::zs,q,_=>
   cases q with
   | cons q1 qq=>
    obtain⟨t,rfl⟩:=q1;show⟨_::fs,⟨⟨a,o,_,n,rfl,J,O,U,rfl⟩,Y⟩,by right,λf F=>?_⟩;rcases aE.mp F with rfl | F
    all_goals right
def zbh {α q:Type}{R:α->q->Prop}:∀ {l:List α} {l':List q},Paired R l l'->∀ {i:Nat} (d:α) (d':q),i<l'.length->R (l.getD i d) (l'.getD i d')
 | _,_,.nil,i,_,_,h=>by simp at h
 | _,_,.cons r _,0,_,_,_=>r
 | _,_,.cons _ t,i+1,d,d',h=>by have:=zbh t (i:=i) d d' (by simpa using h);simpa using this
def zc9 {α q:Type}{R:α->q->Prop}:∀ {l:List α} {l':List q},Paired R l l'->l.length=l'.length
 | _,_,.nil=>rfl
 | _,_,.cons _ t=>by rw[aO,aO,zc9 t]
section
variable {prog:Aa}{w:Ab}{A:Ae}{E:AA}{s:AZ}
def zlw{sts:AF}(ad:s.heap.Ns L m0)(ap:D≠L)(ho:s.heap.get? D=some (seqObj "list" vs.toArray n))(hv:Paired (zeA s.heap L D) vs sts)(bx:sts.length<64)(as:1<=m)(hm:∀st∈sts,st.length=m)(av:sts.Nodup)(h:∀h' c p,List.Perm p (List.range sts.length)->((p.map λi=>sts.getD i []).Pairwise λa b=>HT.lexLt a b=true)->(∀b o,b≠L->b≠D->s.heap.get? b=some o->h'.get? b=some o)->h'.Ns L m0->
   h'.get? D=some (seqObj "list" (p.map λi=>vs.getD i .none).toArray c)->Q .none { s with heap:=h' }) :
  Ag prog w A (call (.builtin "list.sort") [.ref D]) Q E s:=by
 have a0:=zc9 hv;by_cases h2:2<=sts.length
 ·have B:∀p∈(za2 s.heap L).filter (λq=>decide (q.1≠D)),s.heap.get? p.1=some p.2/\p.1≠L/\p.1≠D:=λp Z=>by
   have h1:=bu.mp Z;have h2:=zT.mp (show (p.1,p.2)∈za2 s.heap L from h1.1);right
  have J:∀b,(⟨#[],{}⟩:Heap).get? b=none:=λb=>by
   cases e:(⟨#[],{}⟩:Heap).get? b with
   | none=>rfl
   | some o'=>
    have:=au e;simp at this
  show W.kat_lsort (h₀:=(⟨#[],{}⟩:Heap)) (L:=L) (m:=m0) (D:=D) (its:=vs.toArray) (n:=n) (news:=(D,seqObj "list" vs.toArray n)::(za2 s.heap L).filter (λq=>decide (q.1≠D))) (g:=λo=>(D,o)::(za2 s.heap L).filter (λq=>decide (q.1≠D))) ⟨ad,λb o e=>?_,aK _⟩ (λp Z=>?_) (W.UpdF.head λq hq=>(B q hq).2.2) (vs:=vs) rfl (by lia) (by lia) λe1 h' F N=>?_;right;rcases aE.mp Z with rfl | Z;right;exact⟨(B p Z).1,(B p Z).2.1,J _⟩
  ·have kp:∀b o,b≠L->b≠D->s.heap.get? b=some o->h'.get? b=some o:=λb o hb hD e=>(N (b,o) (ar _ (bu.mpr ⟨zT.mpr ⟨hb,e⟩,a9 hD⟩))).1;have O:Paired (zeA h' L D) vs sts:=Paired.mapP hv λv st r=>r.keep kp;obtain⟨fs,k1,k2,k3⟩:=zc1 O λst a3=>by rw[hm st a3];exact as
   show W.kat_kind (T:=.type "int") (s:={ s with heap:=h' }) k1 (by lia) (λf hf=>?_) (by ext) ?_;obtain⟨a,t,rfl⟩:=k3 f hf;intro A' Q' E' s' _ hq;exact cL (fJ s' a t) hq
   ·have hu:zbS sts.length (zcb sts):=λi j hi I e=>by
     have e1:=xk hm hi I;have e2:=xk hm I hi;rw[e,bc (dE _)] at e1;rw[e,bc (dE _)] at e2;have gi:sts.getD i []=sts[i]:=by simp[hi]
     have gj:sts.getD j []=sts[j]:=by simp[I]
     rcases uX (a:=sts.getD i []) (b:=sts.getD j []) (by right) with h | h | h;rw[gi,gj] at h;exact (cb av).mp h
     all_goals grind
    obtain⟨p,ag,U⟩:=zhg hu h2;rw[show vs.length=sts.length by lia];show ag.wp (S:=λs'=>s'={ s with heap:=h' }) (λi j C s' hi I Y hC=>?_) (λs' Y=>?_) _ rfl;subst Y;obtain⟨a1,a4,b1,c1,d1,_⟩:=zbh O .none [] hi;obtain⟨a2,a5,b2,c2,d2,_⟩:=zbh O .none [] I;obtain⟨o1,a7,_,n1,bb⟩:=c1;obtain⟨o2,bd,_,n2,bk⟩:=c2;change wpAny _ _ (keyLt' _ (vs.getD i .none) (vs.getD j .none)) C _ _;rw[b1,b2];have gi:(sts.getD i []).length=m:=by right
    have gj:(sts.getD j []).length=m:=by right
    have l1:=d1.length;have l2:=d2.length;rw[ab] at l1 l2;show W.kat_lt (s:={ s with heap:=h' }) a7 bb bd bk ?_;rw[show decide (a4.toArray.size<a5.toArray.size)=false from bc (by simp;lia)];show zdN 0 d1 d2 (by rw[gi,gj]) ?_;have:=hC { s with heap:=h' } rfl;rw[show zfA (zcb sts) i j=HT.lexLt (sts.getD i []) (sts.getD j []) from xk hm hi I] at this;exact this;subst Y;have al:p.toList.Perm (List.range sts.length):=by have:=U.perm.toList;simpa using this
    have an:∀i∈p.toList,i<sts.length:=λi hi=>aW.mp ((al.mem_iff).mp hi);show W.KasFin.intro F N (W.UpdF.head λq' bl=>(B q' bl).2.2) λbo c F'' N''=>?_;show h bo c p.toList al ?_ (λb o hb hD e=>(N'' (b,o) (ar _ (bu.mpr ⟨zT.mpr ⟨hb,e⟩,a9 hD⟩))).1) F''.ns (N'' (D,_) am).1;have b0:p.size=sts.length:=uk U.perm;rw[b7];intro i j hi I bs;rw[ab,aZ] at hi I;have hk:=U.lt_of bs (by lia);rw[dj,dj,db,db];have e1:p.getD i 0=p[i]:=by simp[hi]
    have e2:p.getD j 0=p[j]:=by simp[I]
    unfold key at hk;rw[e1,e2] at hk;rw[<- xk hm (an _ (by simp)) (an _ (by simp))];right
 show aS slot_list_sort ⟨_,ho,rfl⟩ entry_list_sort ?_ (args_list_sort _);show zaf ho (by lia) λh' c kp hD=>⟨_,rfl,?_⟩;show h h' c (List.range sts.length) (List.Perm.refl _) ?_ (λb o _ hb e=>kp b o hb e) ?_ ?_;grind;obtain⟨o,es,ep,g,k⟩:=ad;exact⟨o,es,ep,kp _ _ (Ne.symm ap) g,k⟩;rw[<- a0,zbi];exact hD
end
def u8 {α L:Type}{f:α->L}{l m:List L}(h:l.Perm m):∀ {xs:List α},m=xs.map f->∃q:List α,q.Perm xs/\l=q.map f:=by
 induction h with
 | nil=>
  right
 | cons x _ O=>
  intro xs e
  cases xs with
  | nil=>cases e
  | cons y ys=>
   rw[aB] at e;injection e with U F;obtain⟨q,h1,h2⟩:=O F;exact⟨y::q,h1.cons y,by right⟩
 | swap x y l=>
  intro xs e
  match xs,e with
  | [],e=>cases e
  | [_],e=>cases e
  | a::b::r,e=>
   rw[aB,aB] at e;injection e with U F;injection F with F e3;exact⟨b::a::r,.swap _ _ _,by grind⟩
 | trans _ _ I J=>
  intro xs e;obtain⟨q,h1,h2⟩:=J e;obtain⟨B,Y,Z⟩:=I h2;exact⟨B,Y.trans h1,Z⟩
def zfq (P:Aa)(w:Ab)(a:Addr)(xs:List (List Key×Addr)):HO:=.ext λh=>xA P w h a xs
def yK (xs:AE):List (List Key×Addr):=xs.map λq=>(q.1.map Sum.inl,q.2)
def zgo(S:xA P w h a xs):yi P w H h a (zfq P w a xs):=by
 show⟨S,?_,λh1 h2 q k=>?_⟩;obtain⟨o,_,_,_,B,_⟩:=S;exact⟨o,B⟩;obtain⟨o,es,F,t,B,r⟩:=q;exact⟨o,es,F,t,k o B,r⟩
def zpD(h:(⟨Array.replicate (n+1) o,{}⟩:Heap).get? d=some u):u=o:=by
 unfold Heap.get? at h;simp only[Array.getElem?_replicate] at h;split at h;cases h;split at h;exact (bv h).symm;cases h
def zpM(hs:∃h:Heap,h.get? d=some ob):(λh=>xA P w h a xs)≠λh=>h.get? d=some ob:=λe=>by
 obtain⟨B,F⟩:=hs;have h1:xA P w B a xs:=by rw[show xA P w B a xs=_ from congrFun e B];exact F
 obtain⟨o,es,L,t,O,I,U,T,J⟩:=h1;have k:∀q:Nat,({ o with data:=.set es q t }:Obj)=ob:=λq=>by have h2:xA P w (⟨Array.replicate (a+1) { o with data:=.set es q t },{}⟩:Heap) a xs:=⟨{ o with data:=.set es q t },es,q,t,by simp[Heap.get?],I,rfl,T,J⟩;rw[show xA P w _ a xs=_ from congrFun e _] at h2;exact (zpD h2).symm
 have:=congrArg Obj.data ((k 0).trans (k 1).symm);cases this
def zg0:∀kvs,pnK (zfq P w a xs)=some kvs->za6 kvs (Sum.inr "at" : Key)=none:=λkvs e=>by
 unfold zfq pnK at e;dsimp only at e;rw[if_neg] at e;cases e;rintro⟨d,ob,hs,z⟩;exact zpM hs z
def zes (P:Aa)(w:Ab)(H:Hp)(a:Addr)(ks:AF):Prop:=∃xs:AE,H a=some (zfq P w a (yK xs))/\(∀q∈xs,H q.2=some (.tup (q.1.map V.int)))/\ks=xs.map (·.1)/\ks.Nodup
def zes.stay{ks:AF}(S:zes P w H a ks)(h:zu H H'):zes P w H' a ks:=by obtain⟨xs,h1,h2,B,F⟩:=S;exact⟨xs,h _ _ h1 zg0,λq I=>h.tup (h2 q I),B,F⟩
def zb3:∀ns:AG,(ns.map Sum.inl).map kV=ns.map V.int
 | []=>rfl
 | n::ns=>by rw[aB,aB,aB,zb3 ns];rfl
section
variable {X:Cx}
def zb7{pins:AB}{σ:St}{H:Hp}{s:AZ}(I:Inv X pins σ H s){ns:AG}(h:H b=some (.tup (ns.map V.int))):(tk X.prog X.w).is s.heap (ns.map Sum.inl) b:=by
 obtain⟨its,B,⟨o,F,J,n,L⟩,_⟩:=I.tuple (.of h);show⟨o,its.toArray,n,F,J,L,?_⟩
 have q:∀ {ns:AG} {its:AN},z0 (ns.map V.int) its->ItemsAre (zX X.prog X.w) (ns.map Sum.inl) its:=by
  intro ns
  induction ns with
  | nil=>intro its r;cases r;exact .nil
  | cons n ns O=>
   intro its r
   cases r with
   | cons U Y=>
    obtain⟨t,rfl⟩:=U;exact .cons (ze0 n t) (O Y)
 exact q B
def zng (P:Aa)(w:Ab):AT->Hp->VK->Prop:=λxs H Q=>∃ (a:Addr) (ks:AF) (m:Nat),xs=[.ref a]/\zes P w H a ks/\ks.length<64/\1<=m/\(∀st∈ks,st.length=m)/\
 ∀ (ys:AT) (q:AF),IsL H (q.map stD) ys->q.Perm ks->(q.Pairwise λa b=>HT.lexLt a b=true)->New H (.lst ys) Q
def zgP:∀ {xs:AE},(∀q∈xs,H q.2=some (.tup (q.1.map V.int)))->IsL H ((xs.map (·.1)).map stD) (xs.map λq=>V.ref q.2)
 | [],_=>rfl
 | q::xs,h=>⟨_,_,rfl,⟨q.2,_,rfl,h q am,IsL.ints⟩,zgP λr B=>h r (ar _ B)⟩
def zfy:∀ (xs:AE),z0 (xs.map λq=>V.ref q.2) (xs.map λq=>Value.ref q.2)
 | []=>.nil
 | q::xs=>.cons rfl (zfy xs)
def zkV (hc:X.calm=true):CallQ X (.builtin "sorted") (zng X.prog X.w):=⟨by
 intro pins s σ H xs us Q I r h;obtain⟨a,ks,m,rfl,⟨xs,hH,a5,rfl,a7⟩,bb,bd,hm,q⟩:=h;obtain⟨u,rfl,ru⟩:=zaD r;cases ru;obtain⟨⟨o,es,ep,t,ho,hx,hd,T,_⟩,_⟩:=(show yi X.prog X.w H s.heap a (zfq X.prog X.w a (yK xs)) from I.hok a _ hH);have S:SetIs X.prog X.w s.heap a es ep t (yK xs):=⟨⟨o,ho,hx,hd⟩,T⟩;obtain⟨m0,an,_⟩:=id I.loc;have hsz:es.size=xs.length:=by rw[T.size];unfold yK;rw[ab]
 rw[ab] at bb
 have bk:∀b,(⟨#[],{}⟩:Heap).get? b=none:=λb=>by
  cases e:(⟨#[],{}⟩:Heap).get? b with
  | none=>rfl
  | some o'=>
   have:=au e;simp at this
 have ap:=zfg (w:=X.w) (es:=es) a ep;have bl:es.toList=xs.map λq=>((tk X.prog X.w).hash (q.1.map Sum.inl),Value.ref q.2):=by rw[T.eq];unfold yK;rw[ay];rfl
 rw[bl] at ap;obtain⟨B,O,bo⟩:=u8 ap rfl;show kdu_sorted (h₀:=(⟨#[],{}⟩:Heap)) (L:=X.env.locals) (m:=m0) (news:=za2 s.heap X.env.locals) (zpN (t:=t) (xs:=yK xs) a ep) (I.ok.hd hc) ⟨an,λb o e=>(by right),aK _⟩ (λp hp=>?_) S (by rw[hsz,bN];lia) λD h' as vs F N bs hl hP=>?_;obtain⟨b,o⟩:=p;have:=zT.mp hp;right
 have bx:vs=B.map λq=>Value.ref q.2:=by
  have ch:=O.length_eq;show fD (by right) λj h1 h2=>?_;obtain⟨e,he,hv⟩:=hP j vs[j] (ah h1);rw[zbA,bo,aj] at he;rw[ab] at h2;rw[ah h2] at he;rw[hv,dj,<- bv he]
 have kp:∀b o,b≠X.env.locals->s.heap.get? b=some o->h'.get? b=some o:=λb o hb e=>(N (b,o) (ar _ (zT.mpr ⟨hb,e⟩))).1;have av:D≠X.env.locals:=(N (D,_) am).2.1
 have b0:s.heap.get? D=none:=by
  cases e:s.heap.get? D with
  | none=>rfl
  | some o=>exact absurd (bs (D,o) (zT.mpr ⟨av,e⟩)) (cy _)
 have Y:H D=none:=by
  cases e:H D with
  | none=>rfl
  | some o=>
   obtain⟨o',a0⟩:=zaV (I.hok D o e);grind
 have U:∀q∈B,H q.2=some (.tup (q.1.map V.int)):=λq Z=>a5 q ((O.mem_iff).mp Z)
 have a1:Paired (zeA h' X.env.locals D) vs (B.map (·.1)):=by
  rw[bx]
  have b1:∀ (l:AE),(∀q∈l,H q.2=some (.tup (q.1.map V.int)))->Paired (zeA h' X.env.locals D) (l.map λq=>Value.ref q.2) (l.map (·.1)):=by
   intro l
   induction l with
   | nil=>intro _;exact .nil
   | cons q l ih=>
    intro hl;have Z:=hl q am;obtain⟨items,rv,⟨o',a0,b2⟩,_⟩:=I.tuple (.of Z);have a2:=zc Z I.free;exact .cons ⟨q.2,items,rfl,⟨o',kp _ _ a2 a0,b2⟩,rv,a2,zc Z Y⟩ (ih λr hr=>hl r (ar _ hr))
  exact b1 B U
 have ad:=O.map (·.1);show zlw (s:={ s with heap:=h',toks:=as }) F.ns av (N (D,_) am).1 a1 (by right) bd (λst b3=>hm st ((ad.mem_iff).mp b3)) (ad.nodup_iff.mpr a7) λcl c p hp a3 b4 ca a4=>?_;have cc:∀i∈p,i<B.length:=λi hi=>by have:=aW.mp ((hp.mem_iff).mp hi);rwa[ab] at this
 have J:(p.map λi=>(B.map (·.1)).getD i [])=(p.map λi=>B.getD i ([],0)).map (·.1):=by right
 have ag:(p.map λi=>vs.getD i .none)=(p.map λi=>B.getD i ([],0)).map λq=>Value.ref q.2:=by right
 have cd:∀q∈(p.map λi=>B.getD i ([],0)),H q.2=some (.tup (q.1.map V.int)):=λq Z=>by
  obtain⟨i,hi,rfl⟩:=aC.mp Z;have h1:=cc i hi;have:B.getD i ([],0)=B[i]:=by simp[h1]
  rw[this];exact U _ (bL h1)
 rw[ag] at a4;rw[J] at a3;have al:p.length=xs.length:=by rw[hp.length_eq,az,ab,O.length_eq]
 have I':=zdJ I an (ys:=(p.map λi=>B.getD i ([],0)).map λq=>V.ref q.2) (λb o hb e=>b4 b o hb (by grind) (kp b o hb e)) ca b0 Y a4 (zfy _) (by rw[ab,ab,al,bN];lia) as;show⟨.ref D,_,I',rfl,(q _ ((p.map λi=>B.getD i ([],0)).map (·.1)) (zgP cd) ?_ a3).at Y⟩;show List.Perm.trans ?_ ad;rw[<- J];have:=hp.map λi=>(B.map (·.1)).getD i [];rwa[zbi] at this⟩
end
def zeH (elt target iter:Expr)(ifs:AO)(scope:Scope)(pos:Pos)(it acc:Value)(env:Env) :
  compTurn (.SetComp elt [⟨target,iter,ifs,0⟩] scope pos) 0 it acc env=(do
   standAt iter.pos
   match <- pyNext it with
   | none=>pure (.done .next)
   | some v=>
    letOwnedTupleGo target it v
    assign target env v
    let mut ok:=true
    for c in ifs do
     if ok then ok <- isTrue c env (eval c env)
    if ok then
     (do let v <- eval elt env;standAt elt.pos;let _ <- call (.builtin "set.add") [acc,v])
    again (.compLoop (.SetComp elt [⟨target,iter,ifs,0⟩] scope pos) 0 it acc env)):=by rfl
section
variable {prog:Aa}{w:Ab}{A:Ae}{E:AA}{R:Result->AZ->Prop}{s:AZ}
def uS {elt target iter ifs zQ scope pos it acc env}
  (h0:codeAny (model prog w) A (.compLoop (.SetComp elt (⟨target,iter,ifs,0⟩::zQ) scope pos) 0 it acc env) R s)
  (h:Ag prog w A (pyIter it) (λit' s'=>codeAny (model prog w) A (.compLoop (.SetComp elt (⟨target,iter,ifs,0⟩::zQ) scope pos) 0 it' acc env) R s')
   (notedBy (model prog w) A env λx s'=>R (.error x) s') s) :
  codeAny (model prog w) A (.compStart (.SetComp elt (⟨target,iter,ifs,0⟩::zQ) scope pos) 0 it acc env) R s:=by
 show dC ?_;change wpAny _ _ ((compStart (.SetComp elt (⟨target,iter,ifs,0⟩::zQ) scope pos) 0 it acc env).onRaise (λx=>do noteFrame x env;standAt theWindowsPlace)) _ _ s;show wpAny_notedAt ?_;unfold compStart;change wpAny _ _ (ask >>= _) _ _ s;show aa (bp (wpAny_ite ?_));split
 first
  | exact aa (by grind)
  | exact ae (And.intro rfl h0)
 first
  | exact aa (by grind)
  | (show aa (dM ?_);change wpAny _ _ (standAt iter.pos >>= _) _ _ s;exact aa (bK (aa (aQ h (λit' s' h'=>ae (And.intro rfl h')) λ_ _ x=>x))))
def zbC(I:Nat->AZ->Prop)(turn:∀n s,I n s->Ag prog w A (pyNext it) (λr s₁=>match r with
   | none=>R (.ok .next) s₁
   | some v=>Ag prog w A (letOwnedTupleGo target it v) (λ_ s₂=>Ag prog w A (assign target env v) (λ_ s₃=>
     Ag prog w A (forIn ifs true λc r=>if r=true then do let ok <- isTrue c env (eval c env);pure (ForInStep.yield ok) else pure (ForInStep.yield r)) (λok s₄=>
      if ok=true then Ag prog w A (eval elt env) (λx s₅=>
       Ag prog w A (call (.builtin "set.add") [acc,x]) (λ_ s₆=>∃m,m<n/\I m s₆) (λ_ _=>False) s₅) (λ_ _=>False) s₄
      else ∃m,m<n/\I m s₄) (λ_ _=>False) s₃) (λ_ _=>False) s₂) (λ_ _=>False) s₁) (λ_ _=>False) s)(n:Nat)(h:I n s) :
  codeAny (model prog w) A (.compLoop (.SetComp elt [⟨target,iter,ifs,0⟩] scope pos) 0 it acc env) R s:=by
 show eM rfl I (λn s hI=>?_) n h;change wpAny _ A ((compTurn (.SetComp elt [⟨target,iter,ifs,0⟩] scope pos) 0 it acc env).onRaise (λx=>do noteFrame x env;theTreesLotGoes x)) _ _ s;show ff ?_;rw[zeH];show aa (bK (aa (aQ (turn n s hI) (λr s₁ h₁=>?_) λ_ _ h'=>h'.elim)))
 cases r with
 | none=>exact ae h₁
 | some v=>
  show aa (aQ h₁ (λ_ s₂ h₂=>?_) λ_ _ h'=>h'.elim);show aa (aQ h₂ (λ_ s₃ h₃=>aa (aQ h₃ (λok s₄ h₄=>?_) λ_ _ h'=>h'.elim)) λ_ _ h'=>h'.elim)
  cases ok with
  | false=>exact ae ⟨rfl,h₄⟩
  | true=>
   exact aa (aa (aQ h₄ (λx s₅ h₅=>aa (bK (aa (aQ h₅ (λ_ s₆ h₆=>ae (ae ⟨rfl,h₆⟩)) λ_ _ h'=>h'.elim)))) λ_ _ h'=>h'.elim))
def zjC(h:Q (.ref s.heap.objs.size) { s with heap:=s.heap.push { cls:=.type "set",dict:=none,data:=.set #[] 0 (.fresh 0 0 (!w.params.followText "set-order")) } }):Ag prog w A (newSet (.type "set")) Q E s:=by unfold newSet setsByText;show aa (aa (bp (ae ?_)));dsimp only;simp only[newObj];exact aa (wpAny_alloc (ae h))
def zfp (h:Heap):xA prog w (h.push { cls:=.type "set",dict:=none,data:=.set #[] 0 (.fresh 0 0 (!w.params.followText "set-order")) }) h.objs.size []:=by
 show⟨_,#[],0,_,aq _ rfl,⟨rfl,rfl,rfl⟩,rfl,⟨rfl,eV,rfl,λi j _ B=>?_,λi j e=>?_,rfl,.inl rfl,aK _,rfl,rfl,λi q e=>?_⟩,by change 0 * 5<7 * 3;decide⟩;exact absurd B (cq _);simp[SetTable.fresh] at e;simp at e
end
def xH:∀ {ns q:AG},ns.map (Sum.inl:Int->Key)=q.map Sum.inl->ns=q
 | [],[],_=>rfl
 | [],_::_,e=>by cases e
 | _::_,[],e=>by cases e
 | n::ns,m::q,e=>by rw[aB,aB] at e;injection e with B F;rw[Sum.inl.inj B,xH F]
section
variable {X:Cx}
def zhP {pins:AB}{σ:St}{H:Hp}{s:AZ}{acc b:Addr}{ns:AG}{ks:AF}{Q:AA}(hu:X.A.units+1<cLine)(I:Inv X pins σ H s)(S:zes X.prog X.w H acc ks)(hb:H b=some (.tup (ns.map V.int)))(hn:ks.length<300)
  (h:∀o ks' s',zes X.prog X.w (upd H acc o) acc ks'->(∀x,x∈ks'↔x=ns\/x∈ks)->ks'.length<=ks.length+1->Inv X pins σ (upd H acc o) s'->Q .none s') :
  Af X (call (.builtin "set.add") [.ref acc,.ref b]) Q X.xe s:=by
 obtain⟨xs,hH,hel,rfl,hnd⟩:=S;have hS:=(show yi X.prog X.w H s.heap acc (zfq X.prog X.w acc (yK xs)) from I.hok acc _ hH).1;obtain⟨o,es,ep,t,ho,hx,hd,T,hroom⟩:=id hS;show aS F.slot_set_add ⟨o,ho,hx.1⟩ F.entry_set_add ?_ (F.args_set_add_2 _ _);unfold Builtin.«set.add»;show aa (m:=Builtin.Frozenset.oneOther "add" ⟨[.ref acc,.ref b],[]⟩) (ae ?_);have hba:b≠acc:=zlE hb hH (by intro z;cases z);have hea:∀q∈xs,q.2≠acc:=λq hq=>zlE (hel q hq) hH (by intro z;cases z);rw[ab] at hn;show aa (zmB (A:=X.A.in1) (xs:=yK xs) (ns:=ns) (aM (ai _) hu) hS (zb7 I hb) (λq hq=>?_) (by unfold yK;rw[ab];exact hn) λr h' n xs' sb S' hin hout=>?_);unfold yK at hq;obtain⟨q',hq',rfl⟩:=aC.mp hq;exact zb7 I (hel q' hq')
 ·
  have mem_key:∀ {l:AE},(ns.map Sum.inl)∈(yK l).map (·.1)↔ns∈l.map (·.1):=by
   intro l;unfold yK;rw[ay,aC,aC];constructor;rintro⟨q,hq,e⟩;show⟨q,hq,?_⟩;have e':q.1.map (Sum.inl:Int->Key)=ns.map Sum.inl:=e;exact xH e';rintro⟨q,hq,rfl⟩;exact⟨q,hq,rfl⟩
  have fin:∀xs2:AE,xs'=yK xs2->(∀q∈xs2,q∈xs\/q=(ns,b))->(∀x,x∈xs2.map (·.1)↔x=ns\/x∈xs.map (·.1))->(xs2.map (·.1)).Nodup->xs2.length<=xs.length+1->wpAny (model X.prog X.w) X.A.in1 (do ret .none) (λfin s'=>∃v,fin = .done (.ret v)/\Q v s') X.xe { s with heap:=h',toks:=n }:=by
   rintro xs2 rfl hsub hmem hnd2 hlen
   have hel2:∀q∈xs2,H q.2=some (.tup (q.1.map V.int)):=λq hq=>by
    rcases hsub q hq with z | z;exact hel q z;rw[z];exact hb
   have hea2:∀q∈xs2,q.2≠acc:=λq hq=>zlE (hel2 q hq) hH (by intro z;cases z);show ae ⟨.none,rfl,h (zfq X.prog X.w acc (yK xs2)) (xs2.map (·.1)) _ ⟨xs2,zj,λq hq=>by rw[zd (hea2 q hq)];exact hel2 q hq,rfl,hnd2⟩ hmem (by right) ?_⟩;show I.write (e:=acc) (by rw[hH];trivial) (.inl rfl) (λc u hc q=>sb.extBut c u hc q) ?_ (zgo S');obtain⟨o',_,_,_,ho',_⟩:=S';exact⟨o',ho'⟩
  by_cases hm:ns∈xs.map (·.1);have:=hin (mem_key.mpr hm);show fin xs this (λq hq=>.inl hq) (λx=>⟨.inr,λz=>z.elim (λe=>e ▸ hm) id⟩) hnd (eu _);have hp:=hout λz=>hm (mem_key.mp z);have hk:((ns.map Sum.inl,b)::yK xs)=yK ((ns,b)::xs):=rfl;rw[hk] at hp;obtain⟨xs2,hp2,e2⟩:=u8 hp rfl;show fin xs2 e2 (λq hq=>?_) (λx=>?_) ?_ ?_;grind;rw[(hp2.map (·.1)).mem_iff,aB,aE];rw[(hp2.map (·.1)).nodup_iff,aB,bH];exact⟨hm,hnd⟩;rw[hp2.length_eq,aO];exact ai _
end
def zeO(elt gens scope pos):eval (.SetComp elt gens scope pos) env=comprehension (.SetComp elt gens scope pos) scope env (firstIterPos gens pos) (newSet (.type "set")) (firstAsync gens) (firstIter gens env):=rfl
def setT (P:Aa)(w:Ab)(g:TG)(ti:TT)(te:TE)(acc:Addr)(N:St->Hp->Prop)(x:V)(σ:St)(H:Hp):Prop:=
 g x σ H λq H3=>ti q H3 λF H4=>if F=true then te q H4 λv H5=>∃b ns ks,v = .ref b/\H5 b=some (.tup (ns.map V.int))/\zes P w H5 acc ks/\ks.length<300/\
  (∀o B,zes P w (upd H5 acc o) acc B->(∀x,x∈B↔x=ns\/x∈ks)->B.length<=ks.length+1->N q (upd H5 acc o)) else N q H4
def setG (P:Aa)(w:Ab)(J:It)(g:TG)(ti:TT)(te:TE)(acc:Addr)(Q:VK)(σ:St)(H:Hp):Prop:=∃W:Nat->Nat->St->Hp->Prop,(∃m,W 0 m σ H)/\
 ∀i m q H',W i m q H'->(J.stop i H'/\Q (.ref acc) H')\/(J.go i H'/\∃N:St->Hp->Prop,(∀ B H2,N B H2->∃F,F<m/\W (i+1) F B H2)/\∀x H2,J.yld i H' x H2->setT P w g ti te acc N x q H2)
def zpY (P:Aa)(w:Ab)(wi:TI)(g:TG)(ti:TT)(te:TE)(cix:List (Option Nat)):TE:=λσ H Q=>wi σ H λJ H1=>∀acc,H1 acc=none->zes P w (upd H1 acc (zfq P w acc [])) acc []->setG P w J g ti te acc Q (zaF σ cix) (upd H1 acc (zfq P w acc []))
section
variable {X:Cx}{Fam:Cx->Prop}{scope:Scope}{N:AM}{cix:List (Option Nat)}{z:Str}{use:Option (Value->Sem Unit)}{Qp:AA}{elt ke ve tg iter tg2 iter2:Expr}{ifs ifs2:AO}{pos ipos spos px:Pos}{wi wi2:TI}{g g2:TG}{ti ti2:TT}{te tk tv:TE}{pins:AB}{σ:St}{H:Hp}{s:AZ}{Q:VK}{o0:HO}
def zmg (hu:X.A.units+1<cLine)(O:Opn X scope cix Fam)(hc:X.calm=true)(hi:PI X tg iter wi)(hg:∀X',Fam X'->PG X' tg g)(ht:∀X',Fam X'->PTs X' ifs ti)(he:∀X',Fam X'->PE X' elt te)(hs:∀x,foldedSetIterable iter X.env x=pure x)(I:Inv X pins σ H s)
  (h:zpY X.prog X.w wi g ti te cix σ H Q) (L:ztO X pins σ use Qp Q) :
  Af X (comprehension (.SetComp elt [⟨tg,iter,ifs,0⟩] scope pos) scope X.env ipos (newSet (.type "set")) false (eval iter X.env) use) Qp X.xe s:=
 zaG (ob:={ cls:=.type "set",dict:=none,data:=.set #[] 0 (.fresh 0 0 (!X.w.params.followText "set-order")) }) (o0:=λa=>zfq X.prog X.w a []) (Fin:=λacc H=>Q (.ref acc) H) (B:=λX' acc P s=>wpAny (model X'.prog X'.w) X'.A (eval elt X'.env) (λx s5=>wpAny (model X'.prog X'.w) X'.A (call (.builtin "set.add") [.ref acc,x]) (λ_ s6=>P s6) (λ_ _=>False) s5) (λ_ _=>False) s) (tb:=λacc Nx σ H=>te σ H λv H5=>∃ (b:Addr) (ns:AG) (ks:AF),v = .ref b/\H5 b=some (.tup (ns.map V.int))/\zes X.prog X.w H5 acc ks/\ks.length<300/\(∀o F,zes X.prog X.w (upd H5 acc o) acc F->(∀x,x∈F↔x=ns\/x∈ks)->F.length<=ks.length+1->Nx σ (upd H5 acc o))) O hc rfl hs (λ_ _ _ _ _ h0 h1=>uS h0 h1) (λ_ _ _ _ _ _ I U n h=>zbC I U n h) (λs Q h=>zjC h) (λ_ _=>zgo (zfp _)) hi hg ht (λX' hF pX wX AX _ xX acc pl s σ H Nx P I q k=>by have e9:=he X' hF pl s σ H _ I q;rw[xX] at e9;show thn e9 ?_;rintro u2 ad ⟨v,H10,I10,Z,b,ns,ks,rfl,hb,S,hn,nx⟩;cases Z;have Y:=zhP (X:=X') (Q:=λ_ s'=>P s') (by rw[AX];exact hu) I10 (by right) hb hn λo F s' S' hm hl I'=>k _ _ _ I' (nx o F (by right) hm hl);rw[xX] at Y;exact Y) I h (λJ H1 acc q hn=>q acc hn ⟨[],zj,λq hq=>by simp at hq,rfl,eV⟩) L
end
def zhM(B:X.A.units+1<cLine)(F:X.calm=true)(c:CompOk X scope N cix)(hi:QI X tg iter wi)(J:∀C s H ex,QG (zt X scope N C s H ex) tg g)(L:∀C s H ex,QTs (zt X scope N C s H ex) ifs ti)(O:∀C s H ex,QE (zt X scope N C s H ex) elt te)(hs:∀x,foldedSetIterable iter X.env x=pure x:=by intro _;rfl):QE X (.SetComp elt [⟨tg,iter,ifs,0⟩] scope pos) (zpY X.prog X.w wi g ti te cix):=⟨λpins s σ H Q I h=>by
 rw[zeO];exact zmg B (uj c) F hi.run (zbK λC s H ex=>(J C s H ex).run) (zbK λC s H ex=>(L C s H ex).run) (zbK λC s H ex=>(O C s H ex).run) hs I h λ_ _ _ _ _ U Y q=>zdF U Y q⟩
section
variable {P:Aa}{w:Ab}{K:AH}{a acc:Addr}{xs:AT}{g:TG}{ti:TT}{te:TE}{σ:St}{H:Hp}{Q:VK}
end
def zkb (H:Hp):y3 H H:=λ_ _ z=>z
structure FunD (K:AH)(x qual:Str)(st:Stmt)(f:Addr)(fd:Ac):Prop where
 ex:∃ (oc:Value) (od:Option Addr) (dV kV doc pm:Value) (an:Option Addr) (cdv ct:Value) (osl:Array AJ),
  fd=PySem.W.fnOf x qual (yZ st) (zJ st) (ze st) dV kV doc pm an cdv ct/\K.lookup f=some ⟨oc,od,.func fd,osl⟩/\PySem.W.codeIn K cdv qual=true
 kp:PySem.W.keepIn K (.ref f)=true
def FunD.okQ{P:Aa}{w:Ab}{K:AH}{mg:AI}{base:Heap}{x I:Str}{st:Stmt}{f:Addr}{fd:Ac}{N ps:AM}{sp:Sp}(F:FunD K x I st f fd)(S:FnScope N ps (ze st))(O:∀vs H Q E,sp vs H Q E->vs.length=ps.length)(L:∀ (J:Value) (A:Ae) (B:List Env) (s:AZ) (H:Hp) (vs:AT) (Q:VK) (E:XK),Room k (A.deeper (envOfC I (ze st) s.heap.objs.size f J))->sp vs H Q E->
   ∃t,QSs (zcL CX0 P w K mg base N I (ze st) f J A B s H E).nox (zJ st) t/\t { nx:=λ_ H'=>Q .non H',rt:=Q } (y4 N vs) H):FnOk P w K mg base CX0 (k+1) f fd ps sp:=by
 obtain⟨oc,od,dV,kV,Z,pm,an,J,ct,ad,rfl,lk,U⟩:=F.ex;show zqT lk U S O λA B s H vs Q E hr Y=>?_;obtain⟨t,h,q⟩:=L J A B s H vs Q E hr Y;exact⟨t,h.run.nox,q⟩
structure DfnD (K:AH)(mg:AI)(x:Str)(st:Stmt)(ps:AM)(ds:AN)(f:Addr)(fd:Ac):Prop where
 F:FunD K x x st f fd
 b:zdh K fd ps []
 bd:zdh K fd ps ds
 m:mg x=some (.ref f)
section
variable {X:Cx}
def zsc{x:Str}{st:Stmt}{ps:AM}{ds:AN}{dv:AT}{f:Addr}{fd:Ac}{sp:Sp}{es:AO}{p pos:Pos}(D:DfnD X.K X.mg x st ps ds f fd)(J:z0 dv ds)(G:FnOk X.prog X.w X.K X.mg X.base CX0 j f fd ps sp)(L:Room k X.A)(O:QA X (e::es) t)(q:j<=k:=by ext)(U:Gl X x:=by rfl)(B:Ah x:=by ext)(Y:starEach (e::es) X.env=(false,eval e X.env)::starEach es X.env:=by rfl)(I:(backTo pos (starEach es X.env)).any (·.1)=false:=by rfl) :
  QE X (.Call (.Name x p) (e::es) [] pos) (zfv sp dv E0 t):=
 ⟨zjO G (L.mono q) U D.m D.F.kp D.bd J zrI O.run B Y I⟩
end
def zn7{K:AH}{x q:Str}{st:Stmt}{f:Addr}{Y J:Option Addr}{L kV F O B ct:Value}(l:K.lookup f=some ⟨U,Y,.func (PySem.W.fnOf x q (yZ st) (zJ st) (ze st) L kV F O J B ct),I⟩)(c:PySem.W.codeIn K B q=true)(k:PySem.W.keepIn K (.ref f)=true):FunD K x q st f (PySem.W.fnOf x q (yZ st) (zJ st) (ze st) L kV F O J B ct):=⟨⟨U,Y,L,kV,F,O,J,B,ct,I,rfl,l,c⟩,k⟩
def zmE{K:AH}{fd:Ac}{f:Addr}(l:K.lookup f=some ⟨I,B,.func fd,F⟩){ps:AM}{L:Option Addr}{items:AK}{O:Array AJ}(U:fd.defaults = .ref T)(Y:K.lookup T=some ⟨J,L,.seq items n,O⟩)(h:∀q:AN,(q++ds).length=ps.length->∃k:Option AK->Sem (List (Str×Value)),bindArgs fd ⟨q,[]⟩=seqItems? fd.defaults >>= k/\k (some items)=pure (ps.zip (q++ds))):zdh K fd ps ds:=λs q KX Z=>by
 obtain⟨k,h1,h2⟩:=h q Z;exact .of_defaults U (KX _ _ Y) rfl h1 h2
section
variable {prog:Aa}{w:Ab}{A:Ae}{E:AA}{s:AZ}{es:Array DictEntry}
def zbQ (h:Heap)(d:Addr)(es:Array DictEntry)(q:Nat):Prop:=∃o,h.get? d=some o/\o.ExactDict/\o.data = .dict es q
def zbQ.typeIs(x:zbQ s.heap d es q):s.TypeIs (.ref d) "dict" := let ⟨o,ho,hc,_⟩:=x;⟨o,ho,hc.1⟩
def zi2(U:(d==sysModules)=false)(J:zbQ s.heap d es I)(O:Q (.ref s.heap.objs.size) { s with heap:=s.heap.push { cls:=.type "dict_keyiterator",data:=.fields #[.ref d,.int 0 0,.int es.size 0,.int I 0] } }) :
  Ag prog w A (pyIter (.ref d)) Q E s:=by
 obtain⟨o,L,Y,q⟩:=id J;have B:=J.typeIs;show eZ B PySem.F.slot_dict_iter (aS PySem.F.slot_dict_iter B PySem.F.entry_dict_iter ?_ (PySem.F.args_dict_iter_1 _));unfold Builtin.«dict.__iter__»;show aa ?_;unfold Builtin.Dict.dictSlotNone;show aa (wpAny_notOrdered_dict B ?_);change wpAny _ _ (pure (Value.ref d)) _ _ s;show ae ?_;change wpAny _ _ (Builtin.Dict.showsAll d >>= _) _ _ s;unfold Builtin.Dict.showsAll;rw[if_neg (by right)];show aa (ae ?_);show aa (e7 L q ?_);show aa (wpAny_dictEpoch L q ?_);show aa (bh (ae ⟨_,rfl,"dict_keyiterator",_,⟨_,aq _ rfl,rfl⟩,PySem.F.slot_dict_keyiterator_next.lookup,?_⟩));simpa [rawInt] using O
def zlq(q:s.heap.IsKeyIter B d i es.size O)(Z:zbQ s.heap d es O)(hx:es[i]?=some e)(hQ:∀h',h'.IsKeyIter B d (i+1) es.size O->Heap.SameBut B s.heap h'->Q (.done (.ret e.key)) { s with heap:=h' }):Ag prog w A (Builtin.«dict_keyiterator.__next__» { pos:=[Value.ref B] }) Q E s:=by
 obtain⟨o,Y,hc,U⟩:=id q;obtain⟨od,I,ad,J⟩:=id Z;show aa (ae ?_);show aa ?_;show aa ?_
 first | show aa (ce q.typeIs (ae ?_)) | show aa (by grind)
 show aa (eW Y U ?_);have L:Builtin.Dict_items.ownsTuple "dict_keyiterator" = false:=by ext
 simp only[L,aP,if_false];show wpAny _ _ (if (Value.ref d==Value.none)=true then _ else _) _ _ s;rw[if_neg (by grind)];show aa (ae ?_);show aa (e7 I J ?_);rw[if_neg (by simp)];show aa (ae ?_);show aa (wpAny_dictEpoch I J ?_);rw[if_neg (by simp)];show ae ?_;simp only[show ¬ ((i:Int)<0) from by lia,if_false,aR,hx];show aa ?_
 first | show aa (ce q.typeIs (ae ?_)) | show aa (by grind)
 show aa (wpAny_isOneOf_keyiter q.typeIs ?_);change wpAny _ _ (setField (.ref B) 1 (rawInt ((i:Int)+1)) >>= _) _ _ s;show aa (bD Y U (by simp) ?_)
 have F:(s.heap.update B (Obj.mapFields (·.setIfInBounds 1 (rawInt ((i:Int)+1))))).IsKeyIter B d (i+1) es.size O:=
  ⟨_,bj _ Y (cY (bT U _)),(dN ..).trans hc,by rw[bT U];simp[rawInt]⟩
 show aa (be ?_);show aa (wpAny_isOneOf_keyiter (s:={ s with heap:=s.heap.update B (Obj.mapFields (·.setIfInBounds 1 (rawInt ((i:Int)+1)))) }) F.typeIs ?_);change wpAny _ _ (pure e.key) _ _ _;exact ae (ae (hQ _ F (br ..)))
def zhG(q:s.heap.IsKeyIter B d i es.size F)(I:zbQ s.heap d es F)(J:es[i]?=some e)(L:∀h',h'.IsKeyIter B d (i+1) es.size F->Heap.SameBut B s.heap h'->Q (some e.key) { s with heap:=h' }):Ag prog w A (pyNext (.ref B)) Q E s:=by
 unfold pyNext
 exact aa (cB (wpAny_callSpecial?_slot (name:=Str.ofString "__next__") q.typeIs bQ
  (aS bQ q.typeIs dl (zlq q I J λh' a b=>⟨_,rfl,ae (L h' a b)⟩) (dh _))))
def zom(Y:A.handled=none)(q:s.heap.IsKeyIter J d es.size es.size L)(Z:zbQ s.heap d es L)(hE:∀h' x,Heap.ExtBut J s.heap h'->(∃o,h'.get? x=some o/\o.cls = .type "StopIteration")->E (.ref x) { s with heap:=h' }):Ag prog w A (Builtin.«dict_keyiterator.__next__» { pos:=[Value.ref J] }) Q E s:=by
 obtain⟨o,O,hc,U⟩:=id q;obtain⟨od,B,ad,F⟩:=id Z;show aa (ae ?_);show aa ?_;show aa ?_
 first | show aa (ce q.typeIs (ae ?_)) | show aa (by grind)
 show aa (eW O U ?_);have I:Builtin.Dict_items.ownsTuple "dict_keyiterator" = false:=by ext
 simp only[I,aP,if_false];show wpAny _ _ (if (Value.ref d==Value.none)=true then _ else _) _ _ s;rw[if_neg (by grind)];show aa (ae ?_);show aa (e7 B F ?_);rw[if_neg (by simp)];show aa (ae ?_);show aa (wpAny_dictEpoch B F ?_);rw[if_neg (by simp)];show ae ?_;simp only[show ¬ ((es.size:Int)<0) from by lia,if_false,aR,Array.getElem?_eq_none (ai es.size)];show aa ?_
 first | show aa (ce q.typeIs (ae ?_)) | show aa (by grind)
 change wpAny _ _ (setField (.ref J) 0 .none >>= _) _ _ s;show aa (bD O U (by simp) ?_);change wpAny _ _ (newExc (.type "StopIteration") [] >>= _) _ _ _;show aa ?_;simp only[newExc,newTuple];show aa (bh ?_ (by size_fits));show aa (m:=firstArgMember _ _) (fg (a:=Value.none) (by first | rfl | (simp only[firstArgMember];rfl)) ?_);show bh ?_ (by size_fits);simp only[raiseNew];show aa (fj ?_);rw[Y];show aa (ae (wpAny_throw ?_));exact hE _ _ (((br ..).extBut.push _).push _) ⟨_,aq _ rfl,rfl⟩
def zjD(I:A.handled=none)(q:s.heap.IsKeyIter B d es.size es.size F)(J:zbQ s.heap d es F)(L:∀h',Heap.ExtBut B s.heap h'->Q none { s with heap:=h' }):Ag prog w A (pyNext (.ref B)) Q E s:=by
 unfold pyNext
 show aa (cB (wpAny_callSpecial?_slot (name:=Str.ofString "__next__") q.typeIs bQ
  (aS bQ q.typeIs dl (zom I q J λh' x a b=>?_) (dh _))))
 exact aa (cx (T := "StopIteration") (b:=true) b dg (ae (L _ a)))
variable {X:Cx}
end
def zgT (kvs:List (AG×V)):List (List Key×V):=kvs.map λq=>(q.1.map Sum.inl,q.2)
def dtO (kvs:List (AG×V)):HO:=.dT (zgT kvs)
def zgU (kvs:List (AG×V))(st:AG):za6 (zgT kvs) (st.map Sum.inl)=za6 kvs st:=by
 unfold zgT
 induction kvs with
 | nil=>rfl
 | cons q r B=>
  rw[aB];by_cases e:q.1=st;rw[xg (p:=q) e,xg (p:=(q.1.map Sum.inl,q.2)) (by rw[e])];rw[xz (p:=q) e,xz (p:=(q.1.map Sum.inl,q.2)) (λz=>e (xH z)),B]
def zlp (kvs:List (AG×V))(st:AG)(v:V):zap (zgT kvs) (st.map Sum.inl) v=zgT (zap kvs st v):=by
 have B:∀q:AG×V,decide ((q.1.map (Sum.inl:Int->Key))=st.map Sum.inl)=decide (q.1=st):=λq=>by rw[cH,decide_eq_true_eq,decide_eq_true_eq];exact⟨xH,λz=>by rw[z]⟩
 have F:((zgT kvs).any λkv=>decide (kv.1=st.map Sum.inl))=kvs.any λkv=>decide (kv.1=st):=by unfold zgT;rw[List.any_map];congr 1;funext q;exact B q
 unfold zap;rw[F];by_cases h:(kvs.any λkv=>decide (kv.1=st))=true;rw[if_pos h,if_pos h];unfold zgT;rw[ay,ay];show cR λq _=>?_;grind;rw[if_neg h,if_neg h];unfold zgT;right
def zcE.i{kvs:List (AG×V)}{st:AG}(e:H a=some (dtO kvs))(q:H b=some (.tup (st.map V.int))):zcE H a (.ref b) (za6 kvs st):=by have:=zcE.t (k:=st.map Sum.inl) e (by rw[zb3];exact q);rwa[zgU] at this
def zcI.i{kvs:List (AG×V)}{st:AG}(e:H a=some (dtO kvs))(q:H b=some (.tup (st.map V.int)))(B:kvs.length<sizeLine):zcI H a (.ref b) v (upd H a (dtO (zap kvs st v))):=by have:=zcI.t (k:=st.map Sum.inl) (v:=v) e (by rw[zb3];exact q) (by unfold zgT;rw[ab];exact B);rwa[zlp] at this
def zpX:TE:=λ_ H Q=>New H (dtO []) Q
section
variable {X:Cx}
def zl1:QE X (.Dict [] [] pos) zpX:=⟨λpins s σ H Q I h=>zlP pins s σ H Q I λp q=>h.at q⟩
def zkZ {pins:AB}{σ:St}{H:Hp}{s:AZ}(I:Inv X pins σ H s){a:Addr}{kvs:List (AG×V)}(h:Rd H a (dtO kvs)) :
  (a==sysModules)=false/\∃ (es:Array DictEntry) (B:Nat) (ys:AE),zbQ s.heap a es B/\ys.map (·.1)=kvs.map (·.1)/\(∀q∈ys,H q.2=some (.tup (q.1.map V.int)))/\es.toList.map (·.key)=ys.map (λq=>Value.ref q.2)/\kvs.length<=sizeLine/\(kvs.map (·.1)).Nodup:=by
 obtain⟨z,lo,xs,r,o,es,B,h1,h2,h3,h4,U⟩:=(show yi X.prog X.w H s.heap a (.dT (zgT kvs)) from zpC I.hok h)
 have F:∀ {kvs:List (AG×V)} {xs:List (List Key×Addr×Value)},Paired (λ(p:List Key×V) (q:List Key×Addr×Value)=>p.1=q.1/\H q.2.1=some (.tup (p.1.map kV))/\yF p.2 q.2.2) (zgT kvs) xs->
   ∃ys:AE,ys.map (·.1)=kvs.map (·.1)/\(∀q∈ys,H q.2=some (.tup (q.1.map V.int)))/\xs.map (λq=>Value.ref q.2.1)=ys.map (λq=>Value.ref q.2)/\xs.map (·.1)=kvs.map (λq=>q.1.map Sum.inl):=by
  intro kvs
  induction kvs with
  | nil=>intro xs r;cases r;exact⟨[],rfl,λ_ h=>by simp at h,rfl,rfl⟩
  | cons q kvs ih=>
   intro xs r
   cases r with
   | cons r1 r2=>
    rename_i x ad;obtain⟨ys,Y,J,Z,e4⟩:=ih r2;show⟨(q.1,x.2.1)::ys,by right,λy L=>?_,by right,by right⟩;rcases aE.mp L with rfl | L
    have:=r1.2.1;rwa[show ((q.1.map Sum.inl,q.2):List Key×V).1=q.1.map Sum.inl from rfl,zb3] at this;exact J y L
 obtain⟨ys,Y,J,Z,e4⟩:=F r;show⟨lo,es,B,ys,⟨o,h1,h2,h3⟩,Y,J,?_,?_,?_⟩;rw[h4,ay,<- Z];rfl;unfold zgT at z;right;rw[e4] at U;have O:((kvs.map (·.1)).map λst:AG=>st.map (Sum.inl:Int->Key)).Nodup:=by rw[ay];exact U
 exact (bP.mp O).imp λh z=>h (by rw[z])
end
abbrev Up' (l:AF):Prop:=l.Pairwise λa b=>HT.lexLt a b=true
def zob (x:AG):AF->AF
 | []=>[x]
 | y::r=>if HT.lexLt x y then x::y::r else if x=y then y::r else y::zob x r
def zgp (l:AF):AF:=l.foldr zob []
def zdI {x z:AG}:∀ {l:AF},z∈zob x l↔z=x\/z∈l
 | []=>by change z∈[x]↔_;simp
 | y::r=>by
  unfold zob;split;simp;split;right;rw[aE,zdI,aE];grind
def xO {z:AG}:∀ {l:AF},z∈zgp l↔z∈l
 | []=>Iff.rfl
 | x::l=>by change z∈zob x (zgp l)↔_;rw[zdI,xO,aE]
def ziU {x:AG}{m:Nat}(F:x.length=m):∀ {l:AF},(∀y∈l,y.length=m)->Up' l->Up' (zob x l)
 | [],_,_=>dB _ _
 | y::r,I,B=>by
  have J:=I y am;rw[Up',b9] at B;unfold zob;split
  ·rename_i h;show b9.mpr ⟨λz q=>?_,b9.mpr B⟩;rcases aE.mp q with rfl | q
   exact h;exact zaR (F.trans J.symm) (by grind) h (B.1 z q)
  ·rename_i h;split
   exact b9.mpr B
   ·rename_i L;show b9.mpr ⟨λz q=>?_,ziU F (λz q=>I z (ar _ q)) B.2⟩;rcases zdI.mp q with rfl | q
    ·rcases uX (a:=z) (b:=y) (F.trans J.symm) with e | e | e
     all_goals right
    exact B.1 z q
def zkf{l:AF}(h:∀y∈l,y.length=m):∀y∈zgp l,y.length=m:=λy q=>h y (xO.mp q)
def zbP:∀ {l:AF},(∀y∈l,y.length=m)->Up' (zgp l)
 | [],_=>.nil
 | x::l,h=>ziU (h x am) (zkf λy q=>h y (ar _ q)) (zbP λy q=>h y (ar _ q))
def zkx:∀ {l l':AF},(∀y∈l,y.length=m)->Up' l->Up' l'->(∀z,z∈l↔z∈l')->l=l'
 | [],[],_,_,_,_=>rfl
 | [],y::r,_,_,_,h=>absurd ((h y).mpr am) (by simp)
 | x::l,[],_,_,_,h=>absurd ((h x).mp am) (by simp)
 | x::l,y::r,F,I,q,h=>by
  rw[Up',b9] at I q;have B:∀z∈y::r,z.length=m:=λz J=>F z ((h z).mpr J)
  have e:x=y:=by
   rcases aE.mp ((h x).mp am) with e | e;exact e;rcases aE.mp ((h y).mpr am) with L | L;exact L.symm;have h1:=q.1 x e;have h2:=I.1 y L;have U:=zaR ((F x am).trans (B y am).symm) ((B y am).trans (F x am).symm) h2 h1;rw[yV] at U;cases U
  subst e;have O:∀ {l:AF},(∀z∈l,HT.lexLt x z=true)->x∉l:=λY z=>by have:=Y x z;rw[yV] at this;cases this
  congr 1;show zkx (λz J=>F z (ar _ J)) I.2 q.2 λz=>?_;grind
def zhf{l l':AF}(q:∀y∈l,y.length=m)(B:Up' l')(h:∀z,z∈l'↔z∈l):l'=zgp l:=
 zkx (λy F=>q y ((h y).mp F)) B (zbP q) λz=>(h z).trans xO.symm
def zmr {l:AF}(h:Up' l):l.Nodup:=h.imp λ{a b} q e=>by subst e;rw[yV] at q;cases q
def zaz (bk:AW)(st hs:AG):AF:=(bk.filter λx=>uU st x&&!hs.contains x.b).map λx=>chg st x.b x.r
def uq (bk:AW)(st hs:AG):AF:=zgp (zaz bk st hs)
def xD{st hs z:AG}:z∈zaz bk st hs↔∃x∈bk,uU st x=true/\x.b∉hs/\z=chg st x.b x.r:=by
 unfold zaz;grind
def ug{rm:AG}{st hs:AG}(q:∀x∈bk,WishOk rm x)(F:st.length=rm.length):∀z∈zaz bk st hs,z.length=rm.length:=λz I=>by obtain⟨x,B,_,_,rfl⟩:=xD.mp I;have h1:=(q x B).b1;rw[zdt (q x B).b0 (by lia)];exact F
def ya {α:Type}[BEq α][LawfulBEq α]:∀ {l l':List α},l.Nodup->(∀x∈l,x∈l')->l.length<=l'.length
 | [],_,_,_=>aK _
 | a::l,l',q,h=>by
  rw[bH] at q;have B:=h a am;have:=ya (l:=l) (l':=l'.erase a) q.2 λx F=>by grind
  grind
def zaI{rm:AG}{st hs:AG}{ks:AF}(q:∀x∈bk,WishOk rm x)(U:rm.length<=8)(B:∀r∈rm,2<=r/\r<=4)(F:ks.Nodup)(I:∀z∈ks,z∈zaz bk st hs):ks.length<=32:=by
 have:=ya (l':=(List.range 32).map λc=>chg st ((c / 4:Nat):Int) ((c % 4:Nat):Int)) F λz J=>by obtain⟨x,L,_,_,rfl⟩:=xD.mp (I z J);have o:=q x L;have h1:=o.b1;have h2:=o.b0;have O:=o.r0;have Y:=o.r1;have Z:=(xM B h2 h1).2;show aC.mpr ⟨4 * x.b.toNat+x.r.toNat,aW.mpr (by lia),?_⟩;rw[show (4 * x.b.toNat+x.r.toNat) / 4=x.b.toNat by lia,show (4 * x.b.toNat+x.r.toNat) % 4=x.r.toNat by lia,eG h2,eG O]
 right
def znE{rm:AG}{st hs:AG}(q:∀x∈bk,WishOk rm x)(B:rm.length<=8)(F:∀r∈rm,2<=r/\r<=4)(I:st.length=rm.length):(uq bk st hs).length<=32:=
 zaI (hs:=hs) q B F (zmr (zbP (ug q I))) λz J=>xO.mp J
end L2
namespace L2
open PyProof.Rows PySem.SeqAt
def zao:∀ds:AS,Dt.toWs ds=ds.map Dt.toW
 | []=>rfl
 | d::ds=>by rw[Dt.toWs,aB,zao ds]
def zb8:∀ds:List PySem.W.Dat,PySem.W.kqdPs ds=ds.map PySem.W.kqdP
 | []=>by simp[PySem.W.kqdPs]
 | d::ds=>by rw[aB,<- zb8 ds];simp[PySem.W.kqdPs]
def ztH (q:Bool):R2:=λx y H Q=>∃d ds,Is H d x/\(Is H (.lst ds) y\/Is H (.tup ds) y)/\d.eqOk/\(Dt.lst ds).eqOk/\∀b:Bool,(b=true↔d∈ds)->Q (.bl (if q then !b else b)) H
section
variable {X:Cx}
def zaL(h:(Dt.lst ds).eqOk):∀d∈ds,PySem.W.kqdOk 7 d.toW=true:=λd q=>by
 have h':PySem.W.kqdOk 8 (Dt.lst ds).toW=true:=h;simp only[Dt.toW,PySem.W.kqdOk,bn,zao] at h';right
def zdn(q:d.eqOk)(hs:(Dt.lst ds).eqOk):((PySem.W.kqdPs (Dt.toWs ds)).any λy=>PyData.eqv y (PySem.W.kqdP d.toW))=true↔d∈ds:=by
 rw[zb8,zao,ay,List.any_map,fG];constructor;rintro⟨e,B,h⟩;have:=(eD 7 e.toW d.toW 8 (zaL hs e B) q).mp h;rw[<- zek this];exact B;intro h;exact⟨d,h,(eD 7 d.toW d.toW 8 (zaL hs d h) q).mpr rfl⟩
def zls(h:PySem.W.kqdOk 7 d=true):PySem.W.kqdOk 8 d=true:=by
 have q:∀ (n:Nat) (d:PySem.W.Dat),PySem.W.kqdOk n d=true->PySem.W.kqdOk (n+1) d=true:=by
  intro n
  induction n with
  | zero=>intro d h;cases d <;> simp_all [PySem.W.kqdOk]
  | succ n B=>
   intro d h;cases d <;> simp_all [PySem.W.kqdOk]
 exact q 7 d h
def zjh {d:Dt}{ds:AS}{u:Nat}(I:d.eqOk)(hs:(Dt.lst ds).eqOk)(O:u+64<cLine):PyData.canLayAll0 (PySem.W.kqdPs (Dt.toWs ds))=true/\(PySem.W.kqdP d.toW).canLay0=true/\u+1+min (PyData.depthAll (PySem.W.kqdPs (Dt.toWs ds))) (PySem.W.kqdP d.toW).depth<cLine:=by
 have B:=PySem.W.kqd_lay 8 _ I;have J:=PySem.W.kqd_layL (ds:=Dt.toWs ds) λe F=>by rw[zao] at F;obtain⟨L,q,rfl⟩:=aC.mp F;exact zls (zaL hs L q)
 show⟨J.1,B.1,?_⟩;have:min (PyData.depthAll (PySem.W.kqdPs (Dt.toWs ds))) (PySem.W.kqdP d.toW).depth<=8:=aw (Nat.min_le_right _ _) B.2;lia
def zrC (hu:X.A.units+64<cLine):OpQ X (compareOp .In) (ztH false):=⟨by
 intro pins s σ H x y v u Q I rx L h;obtain⟨d,ds,hd,B,F,ks,q⟩:=h;obtain⟨as,O⟩:=yT I.hok 8 hd rx F;obtain⟨U,Y,Z⟩:=zjh F ks hu;rcases B with B | B;obtain⟨bs,J⟩:=yT I.hok 8 B L ks;exact in_list_reads J O U Y Z ⟨.bl _,H,I,rfl,q _ (zdn F ks)⟩;obtain⟨bs,J⟩:=yT I.hok 8 B L (show (Dt.tup ds).eqOk from ks);exact in_tuple_reads J O U Y Z ⟨.bl _,H,I,rfl,q _ (zdn F ks)⟩⟩
def za1 (hu:X.A.units+64<cLine):OpQ X (compareOp .NotIn) (ztH true):=⟨by
 intro pins s σ H x y v u Q I rx L h;obtain⟨d,ds,hd,B,F,ks,q⟩:=h;obtain⟨as,O⟩:=yT I.hok 8 hd rx F;obtain⟨U,Y,Z⟩:=zjh F ks hu;rcases B with B | B;obtain⟨bs,J⟩:=yT I.hok 8 B L ks;exact notIn_list_reads J O U Y Z ⟨.bl _,H,I,rfl,q _ (zdn F ks)⟩;obtain⟨bs,J⟩:=yT I.hok 8 B L (show (Dt.tup ds).eqOk from ks);exact notIn_tuple_reads J O U Y Z ⟨.bl _,H,I,rfl,q _ (zdn F ks)⟩⟩
end
def zrH (bk:AW)(q:Int)(st:AG):AF:=(bk.filter λx=>decide (x.b=q)&&xS st x.g).map λx=>[x.w,x.r]
def lpF (bk:AW)(q:Int)(st:AG):AF:=zgp (zrH bk q st)
def zmn (C:Nat->Nat->Bool)(w j:Nat):AF:=((List.range j).filter (C w)).map λb:Nat=>[(w:Int),(b:Int)]
def zvu (C:Nat->Nat->Bool)(n:Nat):Nat->AF
 | 0=>[]
 | i+1=>zvu C n i++zmn C i n
def zkj {a b:AG}(h:stD a=stD b):a=b:=by have:=congrArg (List.map Dt.val) (Dt.tup.inj h);rwa[uF,uF] at this
open PySem.W PySem.Calls
section
variable {prog:Aa}{w:Ab}{A:Ae}{E:AA}{s:AZ}{R:Result->AZ->Prop}
def zcd {ns:AG}{l:AE}:(ns.map Sum.inl)∈(yK l).map (·.1)↔ns∈l.map (·.1):=by
 unfold yK;rw[ay,aC,aC];constructor;rintro⟨q,B,e⟩;show⟨q,B,?_⟩;have F:q.1.map (Sum.inl:Int->Key)=ns.map Sum.inl:=e;exact xH F;rintro⟨q,B,rfl⟩;exact⟨q,B,rfl⟩
def zh4{ns:AG}{xs:AE}(hu:A.units<cLine)(S:xA prog w s.heap a (yK xs))(U:(tk prog w).is s.heap (ns.map Sum.inl) b)(Y:∀q∈xs,(tk prog w).is s.heap (q.1.map Sum.inl) q.2)(I:(xs.map (·.1)).Nodup)(hn:xs.length<300)(h:∀r h' n B,Heap.SameBut a s.heap h'->xA prog w h' a (yK B)->(∀q∈B,q∈xs\/q=(ns,b))->(∀x,x∈B.map (·.1)↔x=ns\/x∈xs.map (·.1))->(B.map (·.1)).Nodup->B.length<=xs.length+1->Q r { s with heap:=h',toks:=n }) :
  Ag prog w A (setAdd a (.ref b)) Q E s:=by
 show zmB (xs:=yK xs) (ns:=ns) hu S U (λq J=>?_) (by unfold yK;rw[ab];exact hn) λr h' n ag sb S' Z L=>?_;unfold yK at J;obtain⟨q',ad,rfl⟩:=aC.mp J;exact Y q' ad;by_cases O:ns∈xs.map (·.1);obtain rfl:=Z (zcd.mpr O);exact h r h' n xs sb S' (λq J=>.inl J) (λx=>⟨.inr,λz=>z.elim (λe=>e ▸ O) id⟩) I (eu _);have hp:=L λz=>O (zcd.mp z);have U:((ns.map Sum.inl,b)::yK xs)=yK ((ns,b)::xs):=rfl;rw[U] at hp;obtain⟨B,F,rfl⟩:=u8 hp rfl;show h r h' n B sb S' (λq J=>?_) (λx=>?_) ?_ ?_;grind;rw[(F.map (·.1)).mem_iff,aB,aE];rw[(F.map (·.1)).nodup_iff,aB,bH];exact⟨O,I⟩;rw[F.length_eq,aO];exact ai _
def xA.keep(S:xA prog w h a xs)(k:∀o,h.get? a=some o->h'.get? a=some o):xA prog w h' a xs:=by obtain⟨o,es,q,t,B,r⟩:=S;exact⟨o,es,q,t,k o B,r⟩
def zgq(x:(tk prog w).is h k b)(q:∀o,h.get? b=some o->h'.get? b=some o):(tk prog w).is h' k b:=by obtain⟨o,its,n,B,r⟩:=x;exact⟨o,its,n,q o B,r⟩
def zmj{ns:AE}(hh:A.in1.handled=none)(hu:A.in1.units<cLine)(as:items.toList=ns.map λq=>Value.ref q.2)(ag:S≠I)(a7:l≠S)(bb:l≠I)(hq:∀q∈ns,q.2≠S/\q.2≠I)(hn:∀ks:AF,ks.Nodup->(∀z∈ks,z∈ns.map (·.1))->ks.length<300) :
  ∀ (k i:Nat) (s:AZ) (xs:AE),ns.length - i=k->i<=ns.length->s.heap.IsListIter I l i->s.heap.IsList l items->(∀q∈ns,(tk prog w).is s.heap (q.1.map Sum.inl) q.2)->xA prog w s.heap S (yK xs)->
   (∀q∈xs,q∈ns)->(∀st,st∈xs.map (·.1)↔st∈(ns.take i).map (·.1))->(xs.map (·.1)).Nodup->xs.length<=i->
   (∀h' al F,xA prog w h' S (yK F)->(∀q∈F,q∈ns)->(∀st,st∈F.map (·.1)↔st∈ns.map (·.1))->(F.map (·.1)).Nodup->F.length<=ns.length->(∀b o,b≠S->b≠I->s.heap.get? b=some o->h'.get? b=some o)->R (.ok (.ret .none)) { s with heap:=h',toks:=al })->
   codeAny (model prog w) A (.builtin "set.update.loop" ⟨[.ref S,.ref I],[]⟩) R s:=by
 intro k
 induction k with
 | zero=>
  intro i s xs hk hi hI hl av hS B J O ad hR;have bd:i=ns.length:=by lia
  subst bd;show c5 di ?_;rw[cF cj _];change wpAny _ A.in1 (pyNext (.ref I) >>= _) _ _ s;show aa (dQ hh hI hl ?_ λh' hx=>?_);rw[zbA,as,aj,cZ (ai _)];rfl;change wpAny _ A.in1 (ret Value.none) _ _ _;show ae (hR h' s.toks xs (hS.keep λo e=>hx S o ag e) B (λst=>?_) O ad λb o _ hb e=>hx b o hb e);rw[J,aT]
 | succ k ih=>
  intro i s xs hk hi hI hl av hS B J O ad hR;have U:i<ns.length:=by lia
  show c5 di ?_;rw[cF cj _];change wpAny _ A.in1 (pyNext (.ref I) >>= _) _ _ s;have hx:items[i]?=some (Value.ref ns[i].2):=by rw[zbA,as,aj,ah U];rfl
  have a0:ns[i]∈ns:=bL U;show aa (dG hI hl hx λh1 bk bl=>?_);change wpAny _ A.in1 (holding [Value.ref ns[i].2] (setAdd S (.ref ns[i].2)) >>= _) _ _ _;have Y:∀b o,b≠I->s.heap.get? b=some o->h1.get? b=some o:=λb o hb e=>by rw[bl.2 b hb];exact e
  have L:∀q∈ns,(tk prog w).is h1 (q.1.map Sum.inl) q.2:=λq z=>zgq (av q z) λo e=>Y _ _ (hq q z).2 e;show aa (be ?_);show zh4 (s:={ s with heap:=h1 }) (xs:=xs) (ns:=ns[i].1) hu (hS.keep λo e=>Y _ _ ag e) (L _ a0) (λq z=>L q (B q z)) O (by have:=hn _ O λz hz=>(by obtain⟨q,hq,rfl⟩:=aC.mp hz;exact aC.mpr ⟨q,B q hq,rfl⟩);rwa[ab] at this) λr h2 n bo sb S2 an ap a5 bs=>?_;have Z:∀b o,b≠S->h1.get? b=some o->h2.get? b=some o:=λb o hb e=>by rw[sb.2 b hb];exact e
  show ae ⟨fw cj _,ih (i+1) _ bo (by lia) U ?_ ?_ ?_ S2 ?_ ?_ a5 (by lia) ?_⟩;obtain⟨o,ho,r⟩:=bk;exact⟨o,Z _ _ ag.symm ho,r⟩;obtain⟨o,ho,r⟩:=hl;exact⟨o,Z _ _ a7 (Y _ _ bb ho),r⟩;exact λq z=>zgq (L q z) λo e=>Z _ _ (hq q z).1 e;intro q z;rcases an q z with z | z;exact B q z;rw[z];exact a0
  ·intro st;rw[ap,J,List.take_succ,ah U,aF,aG];constructor
   ·rintro (z | z)
    all_goals right
   rintro (z | z);exact .inr z;exact .inl (ax.mp z)
  intro h' al F S' a1 a2 a3 a4 kp;exact hR h' al F S' a1 a2 a3 a4 λb o b1 b2 e=>kp b o b1 b2 (Z b o b1 (Y b o b2 e))
def zdA(a:Value)(h:Q₁ (.ref s.heap.objs.size) { s with heap:=s.heap.push { cls:=.type "set",dict:=none,data:=.set #[] 0 (.fresh 0 0 (!w.params.followText "set-order")) } }) :
  codeAny (model prog w) A (.call (.builtin "set.__new__") ⟨[.type "set",a],[]⟩) (wants Q₁ E) s:=by
 show dC ?_;change wpAny _ A.in1 (do checkBuiltinCall "set.__new__" ⟨[.type "set",a],[]⟩;again (.builtin "set.__new__" ⟨[.type "set",a],[]⟩)) _ _ s;show aa (fg (PySem.F.newCall_set_1 a) (ae ⟨fw PySem.F.plain_set_new _,c5 PySem.F.entry_set_new ?_⟩));rw[cF PySem.F.plain_set_new _];unfold Builtin.«set.__new__» Builtin.Frozenset.newClass;have hsub:=sub_set_self;obtain⟨hp,g,d,tk,os⟩:=s;dsimp only
 wp_walk
 show bp (ae ?_);dsimp only;simp only[newObj];show aa (wpAny_alloc (ae ?_));exact ae h
def zdr{ns:AE}(hh:A.handled=none)(hu:A.units+10<cLine)(hl:s.heap.IsList l items)(a7:items.toList=ns.map λq=>Value.ref q.2)(ad:∀q∈ns,(tk prog w).is s.heap (q.1.map Sum.inl) q.2)(hn:∀ks:AF,ks.Nodup->(∀z∈ks,z∈ns.map (·.1))->ks.length<300)(h:∀ (h':Heap) (tk:Nat) (xs:AE),xA prog w h' s.heap.objs.size (yK xs)->(∀q∈xs,q∈ns)->(∀st,st∈xs.map (·.1)↔st∈ns.map (·.1))->(xs.map (·.1)).Nodup->xs.length<=ns.length->
   (∀b o,b<s.heap.objs.size->s.heap.get? b=some o->h'.get? b=some o)->Q (.ref s.heap.objs.size) { s with heap:=h',toks:=tk }) :
  Ag prog w A (call (.type "set") [.ref l]) Q E s:=by
 obtain⟨c,tl,b0⟩:=PySem.F.called_set.mro;have bb:=PySem.F.called_set.made;have b1:=PySem.F.called_set.sub;show wpAny_call (dC ?_);change wpAny _ _ (callAny (.type "set") _) _ _ _;show ae ⟨Code.quiet_builtin _ (by decide +kernel),c5 PySem.F.entry_type_call ?_⟩;rw[Around.under_plain (weight_type_call_type "set" [.ref l] []) rfl];have h1:=PySem.F.called_set.notType;have h2:=PySem.F.called_set.canCreate;have ca:=PySem.F.typeCall_set_1 (.ref l)
 repeat (any_goals (first | assumption | wp_step))
 generalize J:(!w.params.followText "set-order")=led at *;show dR (zdA (.ref l) (E:=E) (Q₁:=λag L=>ag = .ref s.heap.objs.size/\L={ s with heap:=s.heap.push { cls:=.type "set",dict:=none,data:=.set #[] 0 (.fresh 0 0 led) } }) ⟨rfl,by rw[J]⟩) λr L hr=>?_
 cases r with
 | error e=>exact hr
 | ok fl=>
  cases fl with
  | ret ag=>
   obtain⟨rfl,rfl⟩:=hr;have hS:(s.heap.push { cls:=.type "set",dict:=none,data:=.set #[] 0 (.fresh 0 0 led) }).get? s.heap.objs.size=some { cls:=.type "set",dict:=none,data:=.set #[] 0 (.fresh 0 0 led) }:=aq _ rfl;have hT:Shared.TypeIs { s with heap:=s.heap.push { cls:=.type "set",dict:=none,data:=.set #[] 0 (.fresh 0 0 led) } } (.ref s.heap.objs.size) "set" := ⟨_,hS,rfl⟩;have cc:=PySem.F.called_set.init.lookup;have cd:=PySem.F.called_set.init.bind (.ref s.heap.objs.size)
   repeat (any_goals (first | assumption | wp_step))
   show dR (codeAny_call_builtin (R:=wants (λr O=>r = .none/\∃h' tk,O={ s with heap:=h',toks:=tk }/\
     ∃xs:AE,xA prog w h' s.heap.objs.size (yK xs)/\(∀q∈xs,q∈ns)/\(∀st,st∈xs.map (·.1)↔st∈ns.map (·.1))/\(xs.map (·.1)).Nodup/\xs.length<=ns.length/\
     (∀b o,b<s.heap.objs.size->s.heap.get? b=some o->h'.get? b=some o)) E) PySem.F.called_set.init.plain PySem.F.entry_set_init (check_set_init_1 hT ?_)) λal O B=>?_
   obtain⟨ol,an,ap,nl,as⟩:=hl;obtain⟨b2,U,bd,I⟩:=ol;simp only at ap as;subst ap;subst as;have av:(s.heap.push { cls:=.type "set",dict:=none,data:=.set #[] 0 (.fresh 0 0 led) }).get? l=some { cls:=.type "list",dict:=U,data:=.seq items nl,slots:=I }:=af _ an;have b3:=PySem.F.sub_list_set;have b4:=PySem.F.sub_list_frozenset;have ch:(Value.type "list" == Value.type "dict")=false:=by ext
   have a0:(s.heap.push { cls:=.type "set",dict:=none,data:=.set #[] 0 (.fresh 0 0 led) }).IsList l items:=⟨_,av,rfl,nl,rfl⟩;unfold Builtin.«set.__init__» noKeywords Builtin.Frozenset.updateFrom;generalize bk:pyIter=PI
   wp_walk
   subst bk;show c8 a0 ?_;show aa (wpAny_runValue ?_);have a5:l<s.heap.objs.size:=au an;have bl:∀q∈ns,q.2<s.heap.objs.size:=λq Y=>by obtain⟨o,_,_,ho,_⟩:=ad q Y;exact au ho
   show zmj (items:=items) (ns:=ns) (l:=l) (by simp[hh]) (by simp;lia) a7 ?_ ?_ ?_ ?_ hn (ns.length - 0) 0 _ [] (by lia) (aK _) ⟨_,aq _ rfl,rfl,rfl⟩ (a0.push _) ?_ ?_ ?_ ?_ ?_ ?_ ?_;rw[bR];exact aL (fE _);exact aL a5;rw[bR];exact aL (da a5);intro q Y;have:=bl q Y;rw[bR];exact⟨aL this,aL (da this)⟩;exact λq Y=>zgq (ad q Y) λo e=>af _ (af _ e);show xA.keep (h:=s.heap.push { cls:=.type "set",dict:=none,data:=.set #[] 0 (.fresh 0 0 led) }) ?_ λo e=>af _ e;rw[<- J];exact zfp _;exact λq Y=>by simp at Y
   intro st;simp;exact eV;exact ai _;intro h' bo bs S' a1 a2 a3 a4 kp;change wpAny _ _ _ _ _ _;show ae ?_;change wpAny _ _ (ret Value.none) _ _ _;show ae ⟨rfl,h',bo,rfl,bs,S',a1,a2,a3,a4,λb o hb e=>?_⟩;show kp b o (aL hb) (by rw[bR];exact aL (da hb)) (af _ (af _ e))
   ·cases al with
    | error e=>exact B
    | ok Z=>
     cases Z with
     | ret r=>
      obtain⟨rfl,h',tk,rfl,xs,S',a1,a2,a3,a4,bx⟩:=B
      repeat (any_goals (first | assumption | wp_step))
      exact h _ _ xs S' a1 a2 a3 a4 bx
     | _=>exact B.elim
  | _=>exact hr.elim
variable {X:Cx}
def znf (P:Aa)(w:Ab):AT->Hp->VK->Prop:=λxs H Q=>∃ (a:Addr) (ys:AT) (sts:AF),xs=[.ref a]/\H a=some (.lst ys)/\IsL H (sts.map stD) ys/\(∀ks:AF,ks.Nodup->(∀z∈ks,z∈sts)->ks.length<300)/\
 ∀ (l:Addr) (H':Hp) (ks:AF),H l=none->zes P w H' l ks->(∀st,st∈ks↔st∈sts)->y3 H H'->Q (.ref l) H'
def zil (hu:X.A.units+64<cLine)(hc:X.calm=true):CallQ X (.type "set") (znf X.prog X.w):=⟨by
 intro pins s σ H xs us Q I r h;obtain⟨a,ys,sts,rfl,ha,J,hn,q⟩:=h;obtain⟨u,rfl,ru⟩:=zaD r;cases ru
 have L:∀ {sts:AF} {ys:AT},IsL H (sts.map stD) ys->∃ns:AE,ys=ns.map (λq=>V.ref q.2)/\ns.map (·.1)=sts/\∀q∈ns,H q.2=some (.tup (q.1.map V.int)):=by
  intro sts
  induction sts with
  | nil=>intro ys h;cases h;exact⟨[],rfl,rfl,λ_ h=>by simp at h⟩
  | cons st sts O=>
   intro ys h;obtain⟨y,ad,rfl,h1,h2⟩:=h;obtain⟨ns,rfl,e2,F⟩:=O h2;obtain⟨b,us,rfl,hb,U⟩:=h1;obtain rfl:=U.of_ints;show⟨(st,b)::ns,rfl,by right,λq B=>?_⟩;rcases aE.mp B with rfl | B;exact hb;exact F q B
 obtain⟨ns,rfl,rfl,F⟩:=L J;obtain⟨Z,its,n,hv,hg⟩:=(show yi X.prog X.w H s.heap a (.lst _) from I.hok a _ ha)
 have zqW:its=ns.map λq=>Value.ref q.2:=by
  have g2:∀ {ns:AE} {its:AN},z0 (ns.map λq=>V.ref q.2) its->its=ns.map λq=>Value.ref q.2:=by
   intro ns
   induction ns with
   | nil=>intro its r;cases r;rfl
   | cons q ns O=>
    intro its r
    cases r with
    | cons r1 r2=>
     cases r1;rw[aB,<- O r2]
  exact g2 hv
 show zdr (items:=its.toArray) (ns:=ns) (I.ok.hd hc) (by lia) ⟨_,hg,rfl,n,rfl⟩ (by simpa using zqW) (λq B=>zb7 I (F q B)) hn λh' tk xs S' a1 a2 a3 a4 kp=>?_;have Y:H s.heap.objs.size=none:=I.hok.fresh (ai _);show⟨.ref s.heap.objs.size,_,I.laid (t':=tk) (o:=zfq X.prog X.w s.heap.objs.size (yK xs)) (λb o e=>kp b o (au e) e) (ai _) (zgo S'),rfl,?_⟩;show q s.heap.objs.size _ (xs.map (·.1)) Y ⟨xs,zj,λz Z=>?_,rfl,a3⟩ (λst=>a2 st) (λb o e=>by rw[zd (zc e Y)];exact e);have:=F z (a1 z Z);rw[zd (zc this Y)];exact this⟩
variable {e st:Expr}{te tk:TE}{pos p2:Pos}
end
def zgL {B q:AG}{x:Wi}:zqW B q x=true↔uU B x=true/\chg B x.b x.r=q:=by
 unfold zqW;grind
def zdq{B q:AG}:q∈uq bk B []↔∃x∈bk,zqW B q x=true:=by
 unfold uq;rw[xO,xD];constructor;rintro⟨x,F,h1,_,h2⟩;exact⟨x,F,zgL.mpr ⟨h1,h2.symm⟩⟩;rintro⟨x,F,h⟩;obtain⟨h1,h2⟩:=zgL.mp h;exact⟨x,F,h1,bM,h2.symm⟩
def znF{rm:AG}{q hs:AG}(B:∀x∈bk,WishOk rm x)(F:q.length=rm.length):Up' (uq bk q hs):=zbP (ug B F)
def unlike (q z hs:AG):AG:=hs.filter λb=>decide (yh q b≠yh z b)
section
variable {X:Cx}{pos:Pos}
end
end L2
namespace L2
open PyProof.Rows
end L2
namespace L2
open PyProof.Rows
section
variable {M:Model}{A:Ae}{E:AA}{s:AZ}
variable {X:Cx}{pins:AB}{σ:St}{H:Hp}{scope:Scope}{N:AM}{z:Str}{cix:List (Option Nat)}
end
end L2
namespace L2
open PyProof.Rows
end L2
namespace L2
open PyProof.Rows
def y6:entryFor table "dict.update.loop" = some Builtin.«dict.update.loop»:=entryFor_of_tree (by kernel_rfl)
def zZ:plainId "dict.update.loop" = true:=by decide +kernel
section
variable {prog:Aa}{w:Ab}{A:Ae}{E:AA}{s:AZ}{R:Result->AZ->Prop}{Kt:Type}[DecidableEq Kt]{knd:KeyKind prog w Kt}{κ:Int->Kt}
def zcD(B:s.heap.get? a=some o)(q:o.data = .seq xs n)(h:Q (some xs) s):Ag prog w A (seqItems? (.ref a)) Q E s:=by
 obtain⟨c,d,F,I⟩:=o;simp only at q;subst q;unfold seqItems?
 repeat (any_goals (first | assumption | wp_step))
end
end L2
namespace L2
open PyProof.Rows
def x5 {X:Cx}{pins:AB}{σ:St}{H:Hp}{s:AZ}{a:Addr}{xs:AT}(I:Inv X pins σ H s)(h:SqL X.K H a xs):∃its:AN,z0 xs its/\s.heap.IsList a its.toArray/\xs.length<=sizeLine:=by obtain⟨its,r,⟨o,n,e,c,_,d⟩,z⟩:=I.list h;exact⟨its,r,⟨o,e,c,n,d⟩,z⟩
def Iel (K:AH)(a:Addr):It:=
 ⟨λi H=>∃xs x,SqL K H a xs/\xs[i]?=some x,λi H v H'=>∃T x,v = .ref T/\H T=none/\H'=upd H T (.tup [.int i,x])/\∀xs,SqL K H a xs->xs[i]?=some x,λi H=>∃xs,SqL K H a xs/\xs.length<=i⟩
def ziA {X:Cx}{pins:AB}{σ:St}{H:Hp}{s:AZ}{e J:Addr}{i n:Nat}{U:Value}{fp:AY}{P:Nat->Value->Prop}{St:Nat->Heap->Prop}{x:V}{elts:AO}{x1}{tpos:Pos}{E:AA}(I:Inv X pins σ H s)(hf:∀b∈[e,J],zer X pins H b)(av:e≠J)(he:IsEnum s.heap e J i U)
  (D:Draws X.prog X.w X.A.in1 J fp n P St) (Y:St i s.heap) (hi:i<n) (Z:e∉fp) (hx:∀y,P i y->yF x y) :
  Af X (pyNext (.ref e)) (λr s1=>∃u,r=some u/\Af X (letOwnedTupleGo (.Tuple elts x1 tpos) (.ref e) u) (λ_ s2=>∃T,Inv X pins σ (upd H T (.tup [.int i,x])) s2/\u = .ref T/\H T=none/\(∃U,IsEnum s2.heap e J ((i+1:Nat):Int) U)/\St (i+1) s2.heap/\∀b∈[e,J],upd H T (.tup [.int i,x]) b=none) E s1) E s:=by
 obtain⟨f0,f1,f2,f3,f4,f5⟩:=hf e (by simp);obtain⟨g0,g1,g2,g3,g4,g5⟩:=hf J (by simp);obtain⟨o0,a0⟩:=D.live _ _ Y;show wpAny_pyNext_enum_itemD D he Y hi av Z λy h' tk hy ho ad hT a3 hk=>⟨_,rfl,wpAny_letOwnedTupleGo_enum ho λO ag L=>?_⟩;have ru:=hx y hy;have al:s.heap.objs.size≠e:=dq (au he);have a1:s.heap.objs.size≠J:=dq (au a0);have B:=I.hok.fresh (ai s.heap.objs.size);have kp:∀b o,b≠e->b≠J->s.heap.get? b=some o->O.get? b=some o:=λb o h1 h2 F=>(L.2 b h1).trans (hk b o h1 h2 F);have an:O.get? s.heap.objs.size=some { cls:=.type "tuple",data:=.seq #[.int i tk,y] }:=(L.2 _ al).trans hT;have a4:∀b u',H b=some u'->b≠e/\b≠J:=λb u' F=>⟨zc F f0,zc F g0⟩
 have ap:HOk X.prog X.w (upd H s.heap.objs.size (.tup [.int i,x])) O:=by
  intro b u' F;by_cases as:b=s.heap.objs.size;subst as;rw[zj] at F;cases F;exact⟨by change 2<=sizeLine;decide,[.int i tk,y],.cons ⟨tk,rfl⟩ (.cons ru .nil),_,an,rfl,⟨0,rfl⟩,rfl⟩;rw[zd as] at F;show (I.hok b u' F).stay (λc v a5 q=>?_) (λc q=>?_) (λc ys q=>?_);grind;rw[zd (zc q B)];exact q;rw[zd (zc q B)];exact q
 have I1:Inv X pins σ (upd H s.heap.objs.size (.tup [.int i,x])) { s with heap:=O,toks:=tk+1 }:=by
  show Inv.step (ch:=[e,J]) (g':=s.gens) (d':=s.drawn) (t':=tk+1) I (λb F=>?_) (λb o h1 h2 h3 h4 h5=>?_) (λb o h1 h2 h3 h4 h5=>?_) (λb o h3 h4 h5=>?_) (λb o h3 h4=>?_) (λb ys q=>?_) (λb o u' q=>?_) (λb ps q=>?_) (λm hm=>?_) ap I.bare;rcases aE.mp F with rfl | F;exact⟨f3,f1,f4,f5⟩;rw[ax.mp F];exact⟨g3,g1,g4,g5⟩;right;exact⟨o.slots,kp b o (λz=>h3 (by simp[z])) (λz=>h3 (by simp[z])) h4⟩;rw[zd (aL (au h4))];exact h5;right;rw[zd (zc q B)];exact q;rw[zd (zc q B)];exact q;exact⟨#[],by rw[zd (zc q B),dD];exact q⟩;obtain⟨o,es,ep,a2,r1⟩:=hm;exact⟨o,es,ep,kp _ o (Ne.symm f1) (Ne.symm g1) a2,r1⟩
 show⟨s.heap.objs.size,I1,rfl,B,⟨y,by have:=ag;push_cast;exact this⟩,D.frame _ _ _ ad λb F o z=>(L.2 b λq=>Z (q ▸ F)).trans z,λb F=>?_⟩;rcases aE.mp F with rfl | F;rw[zd (Ne.symm al)];exact f0;rw[ax.mp F,zd (Ne.symm a1)];exact g0
def zk0{i:Int}(F:∃B,IsEnum h e q i B)(hi:∃o,h.get? q=some o/\∀v,o.data≠.cell v):∀b∈[e,q],∃o,h.get? b=some o/\∀v,o.data≠.cell v:=by grind
def zhR{P:Aa}{w:Ab}{K:AH}{elts:AO}{x1}(a J e:Addr)(O:e≠J) :
  Turn P w K (.Tuple elts x1 tpos) (Iel K a) [e,J] e (λi h=>(∃q,IsEnum h e J i q)/\h.IsListIter J a i) where
 mem:=by simp
 obj:=λi h st=>zk0 st.1 (by obtain⟨_,o,e,c,d⟩:=st;exact⟨o,e,by grind⟩)
 keep:=λi h h' st k=>by obtain⟨⟨q,L⟩,o,U,r⟩:=st;exact⟨⟨q,k e (by simp) _ L⟩,o,k J (by simp) _ U,r⟩
 item:=by
  intro X Z hw hK hc i pins s σ H E I hf st hg;subst Z hw hK;obtain⟨xs,x,Y,hx⟩:=hg;obtain⟨its,rv,p,hz⟩:=x5 I Y;obtain⟨u,hu,ru⟩:=rv.get hx;obtain⟨⟨q,L⟩,B⟩:=st
  have ad:a≠J:=by
   intro z;obtain⟨o,U,ag,_⟩:=p;obtain⟨o',a1,a0,_⟩:=B;grind
  have al:e≠a:=by
   intro z;obtain⟨o,U,ag,_⟩:=p;grind
  show thn (ziA (x:=x) (elts:=elts) (x1:=x1) (tpos:=tpos) I hf O L (Draws.list (A:=X.A.in1) (I.ok.hd hc) J a ad its.toArray) ⟨B,p⟩ (by simpa using (ac.mp hu).1) (by simp[O,al]) λy hy=>?_) ?_;right;rintro r s1 ⟨u2,rfl,h2⟩;show⟨_,rfl,thn h2 ?_⟩;rintro _ s2 ⟨T,h3,rfl,h4,h5,h6,h7⟩;exact⟨.ref T,_,h3,rfl,⟨T,x,rfl,h4,rfl,λys an=>by rw[I.list_inj an Y];exact hx⟩,⟨h5,h6.1⟩,h7⟩
 done:=by
  intro X Z hw hK hc i pins s σ H E I hf st hg;subst Z hw hK;obtain⟨xs,Y,hx⟩:=hg;obtain⟨its,rv,p,hz⟩:=x5 I Y;obtain⟨f0,f1,f2,f3,f4,f5⟩:=hf J (by simp);obtain⟨⟨q,L⟩,B⟩:=st;have hl:=rv.length;have hT:s.TypeIs (.ref e) "enumerate" := ⟨_,L,rfl⟩;unfold pyNext
  show aa (cB (wpAny_callSpecial?_slot (name:=Str.ofString "__next__") hT F.slot_enumerate_next
   (aS F.slot_enumerate_next hT F.entry_enumerate_next ?_ (F.args_enumerate_next_1 _))))
  change wpAny _ _ (field (.ref e) 2 >>= _) _ _ _;show aa (bO L rfl (x:=.ref J) rfl ?_);show aa (wpAny_nextOf_list_end (A:=X.A.in1) (I.ok.hd hc) B p (by simp;lia) λh' x ap as=>?_);obtain⟨o,U,av⟩:=as;show aa (cx (T := "StopIteration") (b:=true) ⟨o,U,av⟩ dg ?_);exact ae ⟨rfl,I.turned (t':=s.toks) (λb o hb e=>ap b o hb e) f0 f1 f3 f4 f5⟩
 self:=λA i s Q E st h=>by obtain⟨⟨q,L⟩,B⟩:=st;exact wpAny_pyIter_enum L h
def zmQ (K:AH)(ta:TA):TI:=λσ H R=>ta σ H λvs H1=>∃a,vs=[.ref a]/\(∃xs,SqL K H1 a xs)/\R (Iel K a) H1
def zlU{x1}(O:Gl X "enumerate")(U:X.mg "enumerate" = none)(Y:PA X [a] ta)(hs:starEach [a] X.env=[(false,eval a X.env)]:=by rfl) :
  PI X (.Tuple elts x1 tpos) (.Call (.Name "enumerate" p) [a] [] pos) (zmQ X.K ta):=by
 intro pins s σ H R I h;show Call_ (zca I O U boot_enumerate (bS (thn (Y pos pins s σ H _ I h) λus B ⟨vs,H1,I1,Z,q1⟩=>?_) hs rfl));obtain⟨b,rfl,⟨xs,hq⟩,q⟩:=q1;obtain⟨u,rfl,ru⟩:=zaD Z;cases ru;obtain⟨its,rv,pt,hz⟩:=x5 I1 hq;show call_enumerate_list (show B.heap.IsList b its.toArray from pt) λh' L F hsz hk=>?_;have I2:Inv X pins σ H1 { B with heap:=h',toks:=B.toks }:=I1.kept (t':=B.toks) hk;show wpAny_pyIter_enum L ?_;show⟨B.heap.objs.size+1,[B.heap.objs.size+1,B.heap.objs.size],_,_,H1,rfl,I2,zhR b B.heap.objs.size (B.heap.objs.size+1) (Nat.succ_ne_self _),⟨⟨_,L⟩,F⟩,λc J=>?_,q⟩;rcases aE.mp J with rfl | J;exact I1.fpOk (eu _) (I1.hok.fresh (eu _));rw[ax.mp J];exact I1.fpOk (ai _) (I1.hok.fresh (ai _))
def zl5{x1}(q:Gl X "enumerate")(B:X.mg "enumerate" = none)(F:QA X [a] ta)(hs:starEach [a] X.env=[(false,eval a X.env)]:=by rfl) :
  QI X (.Tuple elts x1 tpos) (.Call (.Name "enumerate" p) [a] [] pos) (zmQ X.K ta):=⟨zlU q B F.run hs⟩
def Izl (K:AH)(a b:Addr):It:=
 ⟨λi H=>∃xs ys x y,SqL K H a xs/\SqL K H b ys/\xs[i]?=some x/\ys[i]?=some y,λi H v H'=>∃T x y,v = .ref T/\H T=none/\H'=upd H T (.tup [x,y])/\(∀xs,SqL K H a xs->xs[i]?=some x)/\∀ys,SqL K H b ys->ys[i]?=some y,λi H=>∃xs ys,SqL K H a xs/\SqL K H b ys/\(xs.length<=i\/ys.length<=i)⟩
def zkr{P:Aa}{w:Ab}{K:AH}{elts:AO}{x1}(z TI TO O U a b:Addr)(D:ZipApart z TI TO O U a b) :
  Turn P w K (.Tuple elts x1 tpos) (Izl K a b) [z,TI,TO,O,U] z (λi h=>IsZip h z TI TO .none/\IsPair h TI (.ref O) (.ref U)/\(∃c d,IsPair h TO c d)/\h.IsListIter O a i/\h.IsListIter U b i) where
 mem:=by simp
 obj:=λi h st c J=>by
  obtain⟨hz,Y,⟨u,v,ad⟩,⟨o1,e1,c1,d1⟩,⟨o2,e2,c2,d2⟩⟩:=st;grind
 keep:=λi h h' st k=>by obtain⟨hz,Y,⟨u,v,ad⟩,⟨o1,e1,r1⟩,⟨o2,e2,r2⟩⟩:=st;exact⟨k z (by simp) _ hz,k TI (by simp) _ Y,⟨u,v,k TO (by simp) _ ad⟩,⟨o1,k O (by simp) _ e1,r1⟩,⟨o2,k U (by simp) _ e2,r2⟩⟩
 item:=by
  intro X hP hw hK J i pins s σ H E I hf st hg;subst hP hw hK;obtain⟨xs,ys,x,y,an,ap,hx,hy⟩:=hg;obtain⟨a4,a0,p1,cp⟩:=x5 I an;obtain⟨a5,a1,p2,cs⟩:=x5 I ap;obtain⟨u1,bx,b0⟩:=a0.get hx;obtain⟨u2,b1,b2⟩:=a1.get hy;have fz:=hf z (by simp);have B:=hf TO (by simp);have f1:=hf O (by simp);have f2:=hf U (by simp);obtain⟨hz,Y,⟨c0,d0,ad⟩,as,av⟩:=st;have hT:s.TypeIs (.ref z) "zip" := ⟨_,hz,rfl⟩;unfold pyNext
  show aa (cB (wpAny_callSpecial?_slot (name:=Str.ofString "__next__") hT cr
   (aS cr hT dZ (zip_next_item (A:=X.A.in1) D hz Y ad as av p1 p2 (x:=u1) (y:=u2) (by simpa using bx) (by simpa using b1) λh' gz b3 b4 ca gT c3 hk=>?_) (dP _))))
  show ae ⟨_,rfl,?_⟩;show wpAny_letOwnedTupleGo_zip (s:={ s with heap:=h' }) gz λal a7 Z=>?_;have nz:∀b' o',s.heap.get? b'=some o'->s.heap.objs.size≠b':=λb' o' e=>dq (au e);have bb:s.heap.objs.size≠z:=nz z _ hz;have bd:s.heap.objs.size≠TO:=nz TO _ ad;have cc:s.heap.objs.size≠O:=by obtain⟨o,ho,_⟩:=as;exact nz O _ ho
  have cd:s.heap.objs.size≠U:=by obtain⟨o,ho,_⟩:=av;exact nz U _ ho
  have bk:s.heap.objs.size≠TI:=nz TI _ Y;have F:=I.hok.fresh (ai s.heap.objs.size);have kp:∀c o,c≠z->c≠TO->c≠O->c≠U->s.heap.get? c=some o->al.get? c=some o:=λc o h1 h2 h3 h4 hb=>(Z.2 c h1).trans (hk c o h1 h2 h3 h4 hb);have bl:al.get? s.heap.objs.size=some { cls:=.type "tuple",data:=.seq #[u1,u2] }:=(Z.2 _ bb).trans gT;have cn:∀b' u',H b'=some u'->b'≠z/\b'≠TO/\b'≠O/\b'≠U:=λb' u' hb=>⟨zc hb fz.1,zc hb B.1,zc hb f1.1,zc hb f2.1⟩
  have bo:HOk X.prog X.w (upd H s.heap.objs.size (.tup [x,y])) al:=by
   intro b' u' hb;by_cases bs:b'=s.heap.objs.size;subst bs;rw[zj] at hb;cases hb;exact⟨by change 2<=sizeLine;decide,[u1,u2],.cons b0 (.cons b2 .nil),_,bl,rfl,⟨0,rfl⟩,rfl⟩
   ·rw[zd bs] at hb;show (I.hok b' u' hb).stay (λc v L q=>?_) (λc q=>?_) (λc ys q=>?_)
    ·have:c≠z/\c≠TO/\c≠O/\c≠U:=by
      rcases L with rfl | L
      all_goals right
     right
    rw[zd (zc q F)];exact q;rw[zd (zc q F)];exact q
  have ag:∀c o,c∉[z,TO,O,U]->s.heap.get? c=some o->al.get? c=some o:=λc o J e=>kp c o (λq=>J (by simp[q])) (λq=>J (by simp[q])) (λq=>J (by simp[q])) (λq=>J (by simp[q])) e
  have I1:Inv X pins σ (upd H s.heap.objs.size (.tup [x,y])) { s with heap:=al,toks:=s.toks }:=by
   show Inv.step (ch:=[z,TO,O,U]) (g':=s.gens) (d':=s.drawn) (t':=s.toks) I (λc J=>?_) (λc o h1 h2 h3 h4 h5=>?_) (λc o h1 h2 h3 h4 h5=>?_) (λc o h3 h4 h5=>?_) (λc o h3 h4=>?_) (λc ys q=>?_) (λc o u' q=>?_) (λc ps q=>?_) (λm hm=>?_) bo I.bare;simp only[aE,bM,or_false] at J;rcases J with rfl | rfl | rfl | rfl;exact⟨fz.2.2.2.1,fz.2.1,fz.2.2.2.2.1,fz.2.2.2.2.2⟩;exact⟨B.2.2.2.1,B.2.1,B.2.2.2.2.1,B.2.2.2.2.2⟩;exact⟨f1.2.2.2.1,f1.2.1,f1.2.2.2.2.1,f1.2.2.2.2.2⟩;exact⟨f2.2.2.2.1,f2.2.1,f2.2.2.2.2.1,f2.2.2.2.2.2⟩;exact ag c o h3 h4;exact⟨o.slots,ag c o h3 h4⟩;rw[zd (aL (au h4))];exact h5;exact⟨o,ag c o h3 h4⟩;rw[zd (zc q F)];exact q;rw[zd (zc q F)];exact q;exact⟨#[],by rw[zd (zc q F),dD];exact q⟩;obtain⟨o,es,ep,a2,r1⟩:=hm;exact⟨o,es,ep,kp _ o (Ne.symm fz.2.1) (Ne.symm B.2.1) (Ne.symm f1.2.1) (Ne.symm f2.2.1) a2,r1⟩
  show⟨.ref s.heap.objs.size,_,I1,rfl,⟨s.heap.objs.size,x,y,rfl,F,rfl,λzs a3=>by rw[I.list_inj a3 an];exact hx,λzs a3=>by rw[I.list_inj a3 ap];exact hy⟩,⟨a7,?_,⟨_,_,(Z.2 TO D.TOz).trans b3⟩,?_,?_⟩,λc J=>?_⟩;exact kp TI _ D.TIz D.TITO D.TIi1 D.TIi2 Y;obtain⟨o,ho,r⟩:=b4;exact⟨o,(Z.2 O D.i1z).trans ho,r⟩;obtain⟨o,ho,r⟩:=ca;exact⟨o,(Z.2 U D.i2z).trans ho,r⟩;simp only[aE,bM,or_false] at J;rcases J with rfl | rfl | rfl | rfl | rfl;rw[zd (Ne.symm bb)];exact fz.1;rw[zd (Ne.symm bk)];exact (hf _ (by simp)).1;rw[zd (Ne.symm bd)];exact B.1;rw[zd (Ne.symm cc)];exact f1.1;rw[zd (Ne.symm cd)];exact f2.1
 done:=by
  intro X hP hw hK J i pins s σ H E I hf st hg;subst hP hw hK;obtain⟨xs,ys,an,ap,hx⟩:=hg;obtain⟨a4,a0,p1,c4⟩:=x5 I an;obtain⟨a5,a1,p2,co⟩:=x5 I ap;have fz:=hf z (by simp);have B:=hf TO (by simp);have f1:=hf O (by simp);have f2:=hf U (by simp);obtain⟨hz,Y,⟨c0,d0,ad⟩,as,av⟩:=st;have dd:=a0.length;have df:=a1.length;have hT:s.TypeIs (.ref z) "zip" := ⟨_,hz,rfl⟩;unfold pyNext
  show aa (cB (wpAny_callSpecial?_slot (name:=Str.ofString "__next__") hT cr
   (aS cr hT dZ (zip_next_end (A:=X.A.in1) (I.ok.hd J) D hz Y ad as av p1 p2 (hx.elim (λz=>.inl (by simp;lia)) λz=>.inr (by simp;lia)) λh' e ko he=>?_) (dP _))))
  obtain⟨o,ho,cl⟩:=he;show aa (cx (T := "StopIteration") (b:=true) ⟨o,ho,cl⟩ dg ?_);show ae ⟨rfl,?_⟩;have ag:∀c o,c∉[z,TO,O,U]->s.heap.get? c=some o->h'.get? c=some o:=λc o J e=>ko c o (λq=>J (by simp[q])) (λq=>J (by simp[q])) (λq=>J (by simp[q])) (λq=>J (by simp[q])) e;show Inv.step (ch:=[z,TO,O,U]) (g':=s.gens) (d':=s.drawn) (t':=s.toks) I (λc J=>?_) (λc o h1 h2 h3 h4 h5=>ag c o h3 h4) (λc o h1 h2 h3 h4 h5=>⟨o.slots,ag c o h3 h4⟩) (λc o h3 h4 h5=>h5) (λc o h3 h4=>⟨o,ag c o h3 h4⟩) (λc ys q=>q) (λc o u' q=>q) (λc ps q=>⟨#[],by right⟩) (λm hm=>?_) (λb' u' hb=>?_) I.bare;simp only[aE,bM,or_false] at J;rcases J with rfl | rfl | rfl | rfl;exact⟨fz.2.2.2.1,fz.2.1,fz.2.2.2.2.1,fz.2.2.2.2.2⟩;exact⟨B.2.2.2.1,B.2.1,B.2.2.2.2.1,B.2.2.2.2.2⟩;exact⟨f1.2.2.2.1,f1.2.1,f1.2.2.2.2.1,f1.2.2.2.2.2⟩;exact⟨f2.2.2.2.1,f2.2.1,f2.2.2.2.2.1,f2.2.2.2.2.2⟩;obtain⟨o,es,ep,a2,r1⟩:=hm;exact⟨o,es,ep,ko _ o (Ne.symm fz.2.1) (Ne.symm B.2.1) (Ne.symm f1.2.1) (Ne.symm f2.2.1) a2,r1⟩;show (I.hok b' u' hb).stay (λc v L q=>?_) (λc q=>q) (λc ys q=>q)
  have:c≠z/\c≠TO/\c≠O/\c≠U:=by
   rcases L with rfl | L;exact⟨zc hb fz.1,zc hb B.1,zc hb f1.1,zc hb f2.1⟩;exact⟨zc L fz.1,zc L B.1,zc L f1.1,zc L f2.1⟩
  exact ko c v this.1 this.2.1 this.2.2.1 this.2.2.2 q
 self:=λA i s Q E st h=>by obtain⟨hz,_⟩:=st;exact ee hz h
def zqZ (K:AH)(ta:TA):TI:=λσ H R=>ta σ H λvs H1=>∃a b,vs=[.ref a,.ref b]/\(∃xs,SqL K H1 a xs)/\(∃ys,SqL K H1 b ys)/\R (Izl K a b) H1
def zo1 {X:Cx}{elts:AO}{x1}{tpos:Pos}{a b:Expr}{ta:TA}{p pos:Pos}(hg:Gl X "zip")(hm:X.mg "zip" = none)(ha:PA X [a,b] ta)(hs:starEach [a,b] X.env=[(false,eval a X.env),(false,eval b X.env)]:=by rfl)(F:starEach [b] X.env=[(false,eval b X.env)]:=by rfl) :
  PI X (.Tuple elts x1 tpos) (.Call (.Name "zip" p) [a,b] [] pos) (zqZ X.K ta):=by
 intro pins s σ H R I h;show Call_ (zca I hg hm boot_zip (bS (thn (ha pos pins s σ H _ I h) λus B ⟨vs,H1,I1,r1,q1⟩=>?_) (by rw[hs,F]) (by rw[F];rfl)));obtain⟨c,d,e,⟨xs,O⟩,⟨ys,U⟩,q⟩:=q1;subst e
 cases r1 with
 | cons r Y=>
  cases Y with
  | cons r' Y=>
   cases Y;cases r;cases r';obtain⟨J,as,p1,av⟩:=x5 I1 O;obtain⟨L,a0,p2,a1⟩:=x5 I1 U;have Z:c<B.heap.objs.size:=by obtain⟨o,ho,_⟩:=id p1;exact au ho
   have ad:d<B.heap.objs.size:=by obtain⟨o,ho,_⟩:=id p2;exact au ho
   show call_zip_2 (show B.heap.IsList c J.toArray from p1) (show B.heap.IsList d L.toArray from p2) λh' gz ag al an ap hsz hk=>?_;have I2:Inv X pins σ H1 { B with heap:=h',toks:=B.toks }:=I1.kept (t':=B.toks) hk;show ee gz ?_;show⟨B.heap.objs.size+4,[B.heap.objs.size+4,B.heap.objs.size+2,B.heap.objs.size+3,B.heap.objs.size,B.heap.objs.size+1],_,_,H1,rfl,I2,zkr _ _ _ _ _ c d (zipApart_new Z ad),⟨gz,ag,⟨_,_,al⟩,an,ap⟩,λe he=>?_,q⟩;simp only[aE,bM,or_false] at he;rcases he with rfl | rfl | rfl | rfl | rfl;exact I1.fpOk (by lia) (I1.hok.fresh (by lia));exact I1.fpOk (by lia) (I1.hok.fresh (by lia));exact I1.fpOk (by lia) (I1.hok.fresh (by lia));exact I1.fpOk (ai _) (I1.hok.fresh (ai _));exact I1.fpOk (by lia) (I1.hok.fresh (by lia))
def zpt {X:Cx}{elts:AO}{x1}{tpos:Pos}{a b:Expr}{ta:TA}{p pos:Pos}(B:Gl X "zip")(F:X.mg "zip" = none)(I:QA X [a,b] ta)(hs:starEach [a,b] X.env=[(false,eval a X.env),(false,eval b X.env)]:=by rfl)(q:starEach [b] X.env=[(false,eval b X.env)]:=by rfl) :
  QI X (.Tuple elts x1 tpos) (.Call (.Name "zip" p) [a,b] [] pos) (zqZ X.K ta):=⟨zo1 B F I.run hs q⟩
abbrev nmS (b:Bool):String:=match b with | true => "tuple" | false => "list"
abbrev nmI (b:Bool):String:=match b with | true => "tuple_iterator" | false => "list_iterator"
def SqH (b:Bool)(h:Heap)(l:Addr)(xs:AK):Prop:=∃o,h.get? l=some o/\o.cls = .type (nmS b)/\∃n,o.data = .seq xs n
def ItH (b:Bool)(h:Heap)(i l:Addr)(k:Nat):Prop:=∃o,h.get? i=some o/\o.cls = .type (nmI b)/\o.data = .fields #[.ref l,.int k 0]
abbrev SqV (b:Bool) (K:AH) (H:Hp) (a:Addr) (xs:AT):Prop:=match b with | true=>SqT K H a xs | false=>SqL K H a xs
def zgg{X:Cx}{pins:AB}{σ:St}{H:Hp}{s:AZ}{a:Addr}{xs:AT}(I:Inv X pins σ H s)(h:SqV b X.K H a xs):∃its:AN,z0 xs its/\SqH b s.heap a its.toArray:=by
 cases b;obtain⟨its,r,p,_⟩:=x5 I h;exact⟨its,r,p⟩;obtain⟨its,r,p,_⟩:=I.tuple h;exact⟨its,r,p⟩
def zur{X:Cx}{pins:AB}{σ:St}{H:Hp}{a:Addr}(I:Inv X pins σ H s)(h:SqV b X.K H a xs)(h':SqV b X.K H a ys):xs=ys:=by
 cases b;exact I.list_inj h h';exact I.tuple_inj h h'
section
variable {prog:Aa}{w:Ab}{A:Ae}{E:AA}{s:AZ}
def zhH(q:ItH k s.heap B t i)(F:SqH k s.heap t items)(I:items[i]?=some x)(J:∀h',ItH k h' B t (i+1)->Heap.SameBut B s.heap h'->Q x { s with heap:=h' }):Ag prog w A (Builtin.SmallTypes.nextOf (.ref B)) Q E s:=by
 cases k;exact wpAny_nextOf_list_item q F I J;exact uh q F I J
def zjE(F:A.handled=none)(q:ItH k s.heap B t i)(I:SqH k s.heap t items)(J:items[i]?=none)(L:∀h' e,Heap.ExtBut B s.heap h'->(∃o,h'.get? e=some o/\o.cls = .type "StopIteration")->E (.ref e) { s with heap:=h' }):Ag prog w A (Builtin.SmallTypes.nextOf (.ref B)) Q E s:=by
 cases k;exact wpAny_nextOf_list_end F q I J L;exact zbE F q I J L
def zus(h:SqH k s.heap l items)(q:Q (.ref s.heap.objs.size) { s with heap:=s.heap.push { cls:=.type (nmI k),data:=.fields #[.ref l,.int 0 0] } }):Ag prog w A (pyIter (.ref l)) Q E s:=by
 cases k;exact c8 h q;exact eJ h q
def zcU{z TI TO Y F t1 t2:Addr}{xs ys:AK}{x y a b:Value}{Q:AA}(D:ZipApart z TI TO Y F t1 t2)(hz:IsZip s.heap z TI TO .none)(b4:IsPair s.heap TI (.ref Y) (.ref F))(ca:IsPair s.heap TO a b)(h1:ItH kb s.heap Y t1 k1)(h2:s.heap.IsTupleIter F t2 k2)(hx:SqH kb s.heap t1 xs)(hy:s.heap.IsTuple t2 ys)(ex:xs[k1]?=some x)(ey:ys[k2]?=some y)(hQ:∀h',IsZip h' z TI TO (rawInt s.heap.objs.size)->IsPair h' TO x y->ItH kb h' Y t1 (k1+1)->h'.IsTupleIter F t2 (k2+1)->IsPair h' s.heap.objs.size x y->h'.objs.size=s.heap.objs.size+1->
   (∀c o,c≠z->c≠TO->c≠Y->c≠F->s.heap.get? c=some o->h'.get? c=some o)->Q (.ref s.heap.objs.size) { s with heap:=h' }) :
  Ag prog w A (Builtin.«zip.__next__» ⟨[.ref z],[]⟩) (λfin s'=>∃v,fin = .done (.ret v)/\Q v s') E s:=by
 change wpAny _ _ (field (.ref z) 2 >>= _) _ _ s;show aa (bO hz rfl (x:=.bool false) rfl ?_);change wpAny _ _ (field (.ref z) 3 >>= _) _ _ s;show aa (bO hz rfl (x:=.ref TI) rfl ?_);change wpAny _ _ (seqItems? (.ref TI) >>= _) _ _ s;show aa (ci b4 rfl ?_);change wpAny _ _ (Builtin.SmallTypes.ownedTupleIsFree (.ref z) >>= _) _ _ s;show aa ?_;change wpAny _ _ (field (.ref z) 0 >>= _) _ _ s;show aa (bO hz rfl (x:=.none) rfl ?_);show ae ?_;change wpAny _ _ (rule "zip.__next__.owned-tuple-again" >>= _) _ _ s;show aa (dM ?_);change wpAny _ _ (field (.ref z) 4 >>= _) _ _ s;show aa (bO hz rfl (x:=.ref TO) rfl ?_);change wpAny _ _ (setField (.ref z) 0 .ellipsis >>= _) _ _ s;show aa (bD hz rfl (by simp) ?_);have a2:(s.heap.update z (Obj.mapFields λx=>x.setIfInBounds 0 Value.ellipsis)).get? z=some { cls:=.type "zip",data:=.fields #[.ellipsis,.bool false,.bool false,.ref TI,.ref TO] }:=bj _ hz rfl;have B:∀c,c≠z->(s.heap.update z (Obj.mapFields λx=>x.setIfInBounds 0 Value.ellipsis)).get? c=s.heap.get? c:=λc q=>bC _ _ (Ne.symm q);have a3:(s.heap.update z (Obj.mapFields λx=>x.setIfInBounds 0 Value.ellipsis)).objs.size=s.heap.objs.size:=by simp[Heap.update]
 generalize s.heap.update z (Obj.mapFields λx=>x.setIfInBounds 0 Value.ellipsis)=H1 at a2 B a3;change wpAny _ _ (forIn ([(Value.ref Y,0),(Value.ref F,1)]:List (Value×Nat)) ((none,()):Option PySem.Fin×Unit) _ >>= _) _ _ _;rw[eB];show aa (aa ?_);show aa (fm ?_);change wpAny _ _ (if (Value.bool false==Value.bool true)=true then _ else (Builtin.SmallTypes.nextOf (.ref Y) >>= λx=>pure (some x))) _ _ _;rw[if_neg (by ext)];have cc:ItH kb H1 Y t1 k1:=by obtain⟨o,I,r⟩:=h1;exact⟨o,(B _ D.i1z).trans I,r⟩
 have cd:SqH kb H1 t1 xs:=by obtain⟨o,I,r⟩:=hx;exact⟨o,(B _ D.l1z).trans I,r⟩
 show aa (zhH (s:={ s with heap:=H1 }) cc cd ex λH2 a4 a5=>?_);show ae ?_;have J:∀c,c≠Y->H2.get? c=H1.get? c:=λc q=>a5.2 c q;have ag:IsPair H2 TO a b:=(J _ D.TOi1).trans ((B _ D.TOz).trans ca);change wpAny _ _ (seqItems? (.ref TO) >>= _) _ _ _;show aa (ci (s:={ s with heap:=H2 }) ag rfl ?_);show aa (wpAny_updateSeq_pair (s:={ s with heap:=H2 }) ag λH3 a7 bb=>?_);show aa (wpAny_letGo ?_);show ae ?_;have ap:IsPair H3 TO x b:=a7;have L:∀c,c≠TO->H3.get? c=H2.get? c:=λc q=>bb.2 c q;change wpAny _ _ (forIn ([(Value.ref F,1)]:List (Value×Nat)) ((none,()):Option PySem.Fin×Unit) _) _ _ _;rw[eB];show aa ?_;show aa (fm ?_);change wpAny _ _ (if (Value.bool false==Value.bool true)=true then _ else (Builtin.SmallTypes.nextOf (.ref F) >>= λx=>pure (some x))) _ _ _;rw[if_neg (by ext)];have ch:H3.IsTupleIter F t2 k2:=by obtain⟨o,I,r⟩:=h2;exact⟨o,(L _ (Ne.symm D.TOi2)).trans ((J _ (Ne.symm D.i12)).trans ((B _ D.i2z).trans I)),r⟩
 have cl:H3.IsTuple t2 ys:=by obtain⟨o,I,r⟩:=hy;exact⟨o,(L _ D.l2TO).trans ((J _ D.l2i1).trans ((B _ D.l2z).trans I)),r⟩
 show aa (uh (s:={ s with heap:=H3 }) ch cl ey λH4 bd bk=>?_);show ae ?_;have Z:∀c,c≠F->H4.get? c=H3.get? c:=λc q=>bk.2 c q;have al:IsPair H4 TO x b:=(Z _ D.TOi2).trans ap;change wpAny _ _ (seqItems? (.ref TO) >>= _) _ _ _;show aa (ci (s:={ s with heap:=H4 }) al rfl ?_);show aa (wpAny_updateSeq_pair (s:={ s with heap:=H4 }) al λH5 bl bo=>?_);show aa (wpAny_letGo ?_);show ae ?_;have O:IsPair H5 TO x y:=bl;have ad:∀c,c≠TO->H5.get? c=H4.get? c:=λc q=>bo.2 c q;change wpAny _ _ (forIn ([]:List (Value×Nat)) ((none,()):Option PySem.Fin×Unit) _) _ _ _;rw[List.forIn_nil];show ae ?_;change wpAny _ _ (seqItems? (.ref TO) >>= _) _ _ _;show aa (ci (s:={ s with heap:=H5 }) O rfl ?_);show aa (wpAny_newTuple ?_ (by change 2<=sizeLine;decide));have bs:H5.objs.size=s.heap.objs.size:=bo.1.trans (bk.1.trans (bb.1.trans (a5.1.trans a3)));have ko:∀c o,c≠z->c≠TO->c≠Y->c≠F->s.heap.get? c=some o->H5.get? c=some o:=λc o c1 c2 c3 c4 e=>(ad _ c2).trans ((Z _ c4).trans ((L _ c2).trans ((J _ c3).trans ((B _ c1).trans e))));have cn:H5.get? z=some { cls:=.type "zip",data:=.fields #[.ellipsis,.bool false,.bool false,.ref TI,.ref TO] }:=(ad _ (Ne.symm D.TOz)).trans ((Z _ (Ne.symm D.i2z)).trans ((L _ (Ne.symm D.TOz)).trans ((J _ (Ne.symm D.i1z)).trans a2)));have U:=aq H5 (o:={ cls:=.type "tuple",data:=.seq #[x,y] }) rfl;change wpAny _ _ (Builtin.SmallTypes.ownedTupleHandOut (.ref z) (.ref H5.objs.size) >>= _) _ _ { s with heap:=H5.push { cls:=.type "tuple",data:=.seq #[x,y] } };have as:∀c o,H5.get? c=some o->(H5.push { cls:=.type "tuple",data:=.seq #[x,y] }).get? c=some o:=λc o e=>af _ e;have bx:(H5.push { cls:=.type "tuple",data:=.seq #[x,y] }).objs.size=s.heap.objs.size+1:=by rw[bR,bs]
 rw[bs] at U ⊢;generalize H5.push { cls:=.type "tuple",data:=.seq #[x,y] }=H6 at U as bx;have b0:=as _ _ cn;show aa ?_;change wpAny _ _ (setField (.ref z) 0 (rawInt s.heap.objs.size) >>= _) _ _ { s with heap:=H6 };show aa (bD b0 rfl (by simp) ?_);have av:(H6.update z (Obj.mapFields λx=>x.setIfInBounds 0 (rawInt s.heap.objs.size))).get? z=some { cls:=.type "zip",data:=.fields #[rawInt s.heap.objs.size,.bool false,.bool false,.ref TI,.ref TO] }:=bj _ b0 rfl;have a0:∀c,c≠z->(H6.update z (Obj.mapFields λx=>x.setIfInBounds 0 (rawInt s.heap.objs.size))).get? c=H6.get? c:=λc q=>bC _ _ (Ne.symm q);have b1:(H6.update z (Obj.mapFields λx=>x.setIfInBounds 0 (rawInt s.heap.objs.size))).objs.size=H6.objs.size:=by simp[Heap.update]
 generalize H6.update z (Obj.mapFields λx=>x.setIfInBounds 0 (rawInt s.heap.objs.size))=H7 at av a0 b1;show bD (s:={ s with heap:=H7 }) av rfl (by simp) ?_;have b2:(H7.update z (Obj.mapFields λx=>x.setIfInBounds 1 (Value.bool false))).get? z=some { cls:=.type "zip",data:=.fields #[rawInt s.heap.objs.size,.bool false,.bool false,.ref TI,.ref TO] }:=bj _ av rfl;have a1:∀c,c≠z->(H7.update z (Obj.mapFields λx=>x.setIfInBounds 1 (Value.bool false))).get? c=H7.get? c:=λc q=>bC _ _ (Ne.symm q);have b3:(H7.update z (Obj.mapFields λx=>x.setIfInBounds 1 (Value.bool false))).objs.size=H7.objs.size:=by simp[Heap.update]
 generalize H7.update z (Obj.mapFields λx=>x.setIfInBounds 1 (Value.bool false))=H8 at b2 a1 b3;have kk:∀c o,c≠z->H5.get? c=some o->H8.get? c=some o:=λc o q e=>(a1 _ q).trans ((a0 _ q).trans (as _ _ e));have an:=au hz;show ae ⟨_,rfl,hQ H8 b2 (kk _ _ D.TOz O) ?_ ?_ ?_ (by rw[b3,b1,bx]) λc o c1 c2 c3 c4 e=>kk _ _ c1 (ko c o c1 c2 c3 c4 e)⟩;obtain⟨o,I,r⟩:=a4;exact⟨o,kk _ _ D.i1z ((ad _ (Ne.symm D.TOi1)).trans ((Z _ D.i12).trans ((L _ (Ne.symm D.TOi1)).trans I))),r⟩;obtain⟨o,I,r⟩:=bd;exact⟨o,kk _ _ D.i2z ((ad _ (Ne.symm D.TOi2)).trans I),r⟩;exact (a1 _ (dq an)).trans ((a0 _ (dq an)).trans U)
def zeq{z TI TO B O I t2:Addr}{xs:AK}{Q:PySem.Fin->AZ->Prop}(D:ZipApart z TI TO B O I t2)(hh:A.handled=none)(F:IsZip s.heap z TI TO .none)(Y:IsPair s.heap TI (.ref B) (.ref O))(h1:ItH kb s.heap B I U)(hx:SqH kb s.heap I xs)(ex:xs[U]?=none)(hE:∀h' e,(∀c o,c≠z->c≠B->s.heap.get? c=some o->h'.get? c=some o)->(∃o,h'.get? e=some o/\o.cls = .type "StopIteration")->E (.ref e) { s with heap:=h' }) :
  Ag prog w A (Builtin.«zip.__next__» ⟨[.ref z],[]⟩) Q E s:=by
 change wpAny _ _ (field (.ref z) 2 >>= _) _ _ s;show aa (bO F rfl (x:=.bool false) rfl ?_);change wpAny _ _ (field (.ref z) 3 >>= _) _ _ s;show aa (bO F rfl (x:=.ref TI) rfl ?_);change wpAny _ _ (seqItems? (.ref TI) >>= _) _ _ s;show aa (ci Y rfl ?_);change wpAny _ _ (Builtin.SmallTypes.ownedTupleIsFree (.ref z) >>= _) _ _ s;show aa ?_;change wpAny _ _ (field (.ref z) 0 >>= _) _ _ s;show aa (bO F rfl (x:=.none) rfl ?_);show ae ?_;change wpAny _ _ (rule "zip.__next__.owned-tuple-again" >>= _) _ _ s;show aa (dM ?_);change wpAny _ _ (field (.ref z) 4 >>= _) _ _ s;show aa (bO F rfl (x:=.ref TO) rfl ?_);change wpAny _ _ (setField (.ref z) 0 .ellipsis >>= _) _ _ s;show aa (bD F rfl (by simp) ?_);have J:(s.heap.update z (Obj.mapFields λx=>x.setIfInBounds 0 Value.ellipsis)).get? z=some { cls:=.type "zip",data:=.fields #[.ellipsis,.bool false,.bool false,.ref TI,.ref TO] }:=bj _ F rfl;have q:∀c,c≠z->(s.heap.update z (Obj.mapFields λx=>x.setIfInBounds 0 Value.ellipsis)).get? c=s.heap.get? c:=λc Z=>bC _ _ (Ne.symm Z);generalize s.heap.update z (Obj.mapFields λx=>x.setIfInBounds 0 Value.ellipsis)=H1 at J q;change wpAny _ _ (forIn ([(Value.ref B,0),(Value.ref O,1)]:List (Value×Nat)) ((none,()):Option PySem.Fin×Unit) _ >>= _) _ _ _;rw[eB];show aa (aa ?_);show aa (fm ?_);change wpAny _ _ (if (Value.bool false==Value.bool true)=true then _ else (Builtin.SmallTypes.nextOf (.ref B) >>= λx=>pure (some x))) _ _ _;rw[if_neg (by ext)];have ad:ItH kb H1 B I U:=by obtain⟨o,L,r⟩:=h1;exact⟨o,(q _ D.i1z).trans L,r⟩
 have ag:SqH kb H1 I xs:=by obtain⟨o,L,r⟩:=hx;exact⟨o,(q _ D.l1z).trans L,r⟩
 show aa (zjE (s:={ s with heap:=H1 }) hh ad ag ex λH2 e eb he=>?_);have al:=eb z _ (Ne.symm D.i1z) J;show bD (s:={ s with heap:=H2 }) al rfl (by simp) ?_;have an:e≠z:=by grind
 show hE _ e (λc o c1 c2 e1=>?_) ?_;exact (bC _ _ (Ne.symm c1)).trans (eb c o c2 ((q _ c1).trans e1));obtain⟨o,L,Z⟩:=he;exact⟨o,(bC _ _ (Ne.symm an)).trans L,Z⟩
def zhl (kb:Bool)(h:Heap)(q B:Addr):Heap:=
 ((((h.push { cls:=.type (nmI kb),data:=.fields #[.ref q,.int 0 0] }).push { cls:=.type "tuple_iterator",data:=.fields #[.ref B,.int 0 0] }).push { cls:=.type "tuple",data:=.seq #[.ref h.objs.size,.ref (h.objs.size+1)] }).push { cls:=.type "tuple",data:=.seq #[.none,.none] }).push
  { cls:=.type "zip",data:=.fields #[.none,.bool false,.bool false,.ref (h.objs.size+2),.ref (h.objs.size+3)] }
def zcO (kb:Bool)(q B:Addr)(xs ys:AK) :
  Meets (Builtin.«zip.__new__» ⟨[.type "zip",.ref q,.ref B],[]⟩) (λ_ R s=>SqH kb s.heap q xs/\s.heap.IsTuple B ys/\R (.ok (.ret (.ref (s.heap.objs.size+4)))) { s with heap:=zhl kb s.heap q B }):=
 .of_wp λprog w A R s h=>by
  obtain⟨J,g,d,tk,L⟩:=s;obtain⟨h1,h2,h⟩:=h;have I:=sub_zip;have F:Heap.IsTuple (Shared.heap ⟨J.push { cls:=.type (nmI kb),data:=.fields #[.ref q,.int 0 0] },g,d,tk,L⟩) B ys:=by obtain⟨o,O,r⟩:=h2;exact⟨o,af _ O,r⟩
  wp_walk using zus h1,eJ F
  show⟨_,rfl,?_⟩;unfold zhl at h;simpa [bR,Builtin.SmallTypes.ownedTupleFields] using h
def zic(h1:SqH kb s.heap q xs)(h2:s.heap.IsTuple I ys)(h:∀h',IsZip h' (s.heap.objs.size+4) (s.heap.objs.size+2) (s.heap.objs.size+3) .none->IsPair h' (s.heap.objs.size+2) (.ref s.heap.objs.size) (.ref (s.heap.objs.size+1))->IsPair h' (s.heap.objs.size+3) .none .none->
   ItH kb h' s.heap.objs.size q 0->h'.IsTupleIter (s.heap.objs.size+1) I 0->h'.objs.size=s.heap.objs.size+5->(∀b o,s.heap.get? b=some o->h'.get? b=some o)->Q (.ref (s.heap.objs.size+4)) { s with heap:=h' }) :
  Ag prog w A (call (.type "zip") [.ref q,.ref I]) Q E s:=by
 show callType_new F.called_zip (by ext) (F.typeCall_zip_2 _ _) (F.newCall_zip_2 _ _) (λJ=>F.args_object_init_3 J _ _) F.entry_zip_new (zcO kb q I xs ys) ⟨h1,h2,?_⟩;generalize ad:({ cls:=.type (nmI kb),data:=.fields #[.ref q,.int 0 0] }:Obj)=o0;have Z:∀o,(s.heap.push o).objs.size=s.heap.objs.size+1:=λo=>bR ..;have z2:∀o o',((s.heap.push o).push o').objs.size=s.heap.objs.size+2:=λo o'=>by rw[bR,Z]
 have z3:∀o o' B,(((s.heap.push o).push o').push B).objs.size=s.heap.objs.size+3:=λo o' B=>by rw[bR,z2]
 have z4:∀o o' B p,((((s.heap.push o).push o').push B).push p).objs.size=s.heap.objs.size+4:=λo o' B p=>by rw[bR,z3]
 have gz:(zhl kb s.heap q I).get? (s.heap.objs.size+4)=some { cls:=.type "zip",data:=.fields #[.none,.bool false,.bool false,.ref (s.heap.objs.size+2),.ref (s.heap.objs.size+3)] }:=by unfold zhl;rw[<- z4];exact aq _ rfl
 have L:(zhl kb s.heap q I).get? (s.heap.objs.size+3)=some { cls:=.type "tuple",data:=.seq #[.none,.none] }:=by unfold zhl;show af _ ?_;rw[<- z3];exact aq _ rfl
 have O:(zhl kb s.heap q I).get? (s.heap.objs.size+2)=some { cls:=.type "tuple",data:=.seq #[.ref s.heap.objs.size,.ref (s.heap.objs.size+1)] }:=by unfold zhl;show af _ (af _ ?_);rw[<- z2];exact aq _ rfl
 have U:(zhl kb s.heap q I).get? (s.heap.objs.size+1)=some { cls:=.type "tuple_iterator",data:=.fields #[.ref I,.int 0 0] }:=by unfold zhl;show af _ (af _ (af _ ?_));rw[<- Z];exact aq _ rfl
 have Y:(zhl kb s.heap q I).get? s.heap.objs.size=some { cls:=.type (nmI kb),data:=.fields #[.ref q,.int 0 0] }:=by unfold zhl;exact af _ (af _ (af _ (af _ (aq _ rfl))))
 show⟨⟨_,gz,rfl⟩,h _ gz O L ⟨_,Y,rfl,rfl⟩ ⟨_,U,rfl,rfl⟩ ?_ λb o x=>?_⟩;unfold zhl;rw[bR,z4];unfold zhl;exact af _ (af _ (af _ (af _ (af _ x))))
end
def Izg (kb:Bool)(K:AH)(a b:Addr):It:=
 ⟨λi H=>∃xs ys x y,SqV kb K H a xs/\SqT K H b ys/\xs[i]?=some x/\ys[i]?=some y,λi H v H'=>∃T x y,v = .ref T/\H T=none/\H'=upd H T (.tup [x,y])/\(∀xs,SqV kb K H a xs->xs[i]?=some x)/\∀ys,SqT K H b ys->ys[i]?=some y,λi H=>∃xs,SqV kb K H a xs/\xs.length<=i⟩
def zkq{P:Aa}{w:Ab}{K:AH}{elts:AO}{x1}(z TI TO J i2 a b:Addr)(D:ZipApart z TI TO J i2 a b) :
  Turn P w K (.Tuple elts x1 tpos) (Izg kb K a b) [z,TI,TO,J,i2] z (λi h=>IsZip h z TI TO .none/\IsPair h TI (.ref J) (.ref i2)/\(∃c d,IsPair h TO c d)/\ItH kb h J a i/\h.IsTupleIter i2 b i) where
 mem:=by simp
 obj:=λi h st c F=>by
  obtain⟨hz,L,⟨u,v,al⟩,⟨o1,e1,c1,d1⟩,⟨o2,e2,c2,d2⟩⟩:=st;grind
 keep:=λi h h' st k=>by obtain⟨hz,L,⟨u,v,al⟩,⟨o1,e1,r1⟩,⟨o2,e2,r2⟩⟩:=st;exact⟨k z (by simp) _ hz,k TI (by simp) _ L,⟨u,v,k TO (by simp) _ al⟩,⟨o1,k J (by simp) _ e1,r1⟩,⟨o2,k i2 (by simp) _ e2,r2⟩⟩
 item:=by
  intro X hP hw hK F i pins s σ H E I hf st hg;subst hP hw hK;obtain⟨xs,ys,x,y,a1,a2,hx,hy⟩:=hg;obtain⟨cl,bl,p1⟩:=zgg I a1;obtain⟨cn,bo,p2,cp⟩:=I.tuple a2;obtain⟨u1,bs,bx⟩:=bl.get hx;obtain⟨u2,b0,b1⟩:=bo.get hy;have Y:=hf z (by simp);have Z:=hf TO (by simp);have f1:=hf J (by simp);have f2:=hf i2 (by simp);obtain⟨hz,L,⟨c0,d0,al⟩,ap,as⟩:=st;have hT:s.TypeIs (.ref z) "zip" := ⟨_,hz,rfl⟩;unfold pyNext
  show aa (cB (wpAny_callSpecial?_slot (name:=Str.ofString "__next__") hT cr
   (aS cr hT dZ (zcU (A:=X.A.in1) D hz L al ap as p1 p2 (x:=u1) (y:=u2) (by simpa using bs) (by simpa using b0) λh' gz b2 b3 b4 gT cs hk=>?_) (dP _))))
  show ae ⟨_,rfl,?_⟩;show wpAny_letOwnedTupleGo_zip (s:={ s with heap:=h' }) gz λan a3 O=>?_;have nz:∀b' o',s.heap.get? b'=some o'->s.heap.objs.size≠b':=λb' o' e=>dq (au e);have a4:s.heap.objs.size≠z:=nz z _ hz;have a5:s.heap.objs.size≠TO:=nz TO _ al;have ca:s.heap.objs.size≠J:=by obtain⟨o,ho,_⟩:=ap;exact nz J _ ho
  have cc:s.heap.objs.size≠i2:=by obtain⟨o,ho,_⟩:=as;exact nz i2 _ ho
  have a7:s.heap.objs.size≠TI:=nz TI _ L;have B:=I.hok.fresh (ai s.heap.objs.size);have kp:∀c o,c≠z->c≠TO->c≠J->c≠i2->s.heap.get? c=some o->an.get? c=some o:=λc o h1 h2 h3 U hb=>(O.2 c h1).trans (hk c o h1 h2 h3 U hb);have bb:an.get? s.heap.objs.size=some { cls:=.type "tuple",data:=.seq #[u1,u2] }:=(O.2 _ a4).trans gT;have co:∀b' u',H b'=some u'->b'≠z/\b'≠TO/\b'≠J/\b'≠i2:=λb' u' hb=>⟨zc hb Y.1,zc hb Z.1,zc hb f1.1,zc hb f2.1⟩
  have bd:HOk X.prog X.w (upd H s.heap.objs.size (.tup [x,y])) an:=by
   intro b' u' hb;by_cases bk:b'=s.heap.objs.size;subst bk;rw[zj] at hb;cases hb;exact⟨by change 2<=sizeLine;decide,[u1,u2],.cons bx (.cons b1 .nil),_,bb,rfl,⟨0,rfl⟩,rfl⟩
   ·rw[zd bk] at hb;show (I.hok b' u' hb).stay (λc v ad q=>?_) (λc q=>?_) (λc ys q=>?_)
    ·have:c≠z/\c≠TO/\c≠J/\c≠i2:=by
      rcases ad with rfl | ad
      all_goals right
     right
    rw[zd (zc q B)];exact q;rw[zd (zc q B)];exact q
  have ag:∀c o,c∉[z,TO,J,i2]->s.heap.get? c=some o->an.get? c=some o:=λc o F e=>kp c o (λq=>F (by simp[q])) (λq=>F (by simp[q])) (λq=>F (by simp[q])) (λq=>F (by simp[q])) e
  have I1:Inv X pins σ (upd H s.heap.objs.size (.tup [x,y])) { s with heap:=an,toks:=s.toks }:=by
   show Inv.step (ch:=[z,TO,J,i2]) (g':=s.gens) (d':=s.drawn) (t':=s.toks) I (λc F=>?_) (λc o h1 h2 h3 U h5=>?_) (λc o h1 h2 h3 U h5=>?_) (λc o h3 U h5=>?_) (λc o h3 U=>?_) (λc ys q=>?_) (λc o u' q=>?_) (λc ps q=>?_) (λm hm=>?_) bd I.bare;simp only[aE,bM,or_false] at F;rcases F with rfl | rfl | rfl | rfl;exact⟨Y.2.2.2.1,Y.2.1,Y.2.2.2.2.1,Y.2.2.2.2.2⟩;exact⟨Z.2.2.2.1,Z.2.1,Z.2.2.2.2.1,Z.2.2.2.2.2⟩;exact⟨f1.2.2.2.1,f1.2.1,f1.2.2.2.2.1,f1.2.2.2.2.2⟩;exact⟨f2.2.2.2.1,f2.2.1,f2.2.2.2.2.1,f2.2.2.2.2.2⟩;exact ag c o h3 U;exact⟨o.slots,ag c o h3 U⟩;rw[zd (aL (au U))];exact h5;exact⟨o,ag c o h3 U⟩;rw[zd (zc q B)];exact q;rw[zd (zc q B)];exact q;exact⟨#[],by rw[zd (zc q B),dD];exact q⟩;obtain⟨o,es,ep,av,r1⟩:=hm;exact⟨o,es,ep,kp _ o (Ne.symm Y.2.1) (Ne.symm Z.2.1) (Ne.symm f1.2.1) (Ne.symm f2.2.1) av,r1⟩
  show⟨.ref s.heap.objs.size,_,I1,rfl,⟨s.heap.objs.size,x,y,rfl,B,rfl,λzs a0=>by rw[zur I a0 a1];exact hx,λzs a0=>by rw[I.tuple_inj a0 a2];exact hy⟩,⟨a3,?_,⟨_,_,(O.2 TO D.TOz).trans b2⟩,?_,?_⟩,λc F=>?_⟩;exact kp TI _ D.TIz D.TITO D.TIi1 D.TIi2 L;obtain⟨o,ho,r⟩:=b3;exact⟨o,(O.2 J D.i1z).trans ho,r⟩;obtain⟨o,ho,r⟩:=b4;exact⟨o,(O.2 i2 D.i2z).trans ho,r⟩;simp only[aE,bM,or_false] at F;rcases F with rfl | rfl | rfl | rfl | rfl;rw[zd (Ne.symm a4)];exact Y.1;rw[zd (Ne.symm a7)];exact (hf _ (by simp)).1;rw[zd (Ne.symm a5)];exact Z.1;rw[zd (Ne.symm ca)];exact f1.1;rw[zd (Ne.symm cc)];exact f2.1
 done:=by
  intro X hP hw hK F i pins s σ H E I hf st hg;subst hP hw hK;obtain⟨xs,hq,hx⟩:=hg;obtain⟨its,rv,p⟩:=zgg I hq;have Y:=hf z (by simp);have f1:=hf J (by simp);obtain⟨hz,L,⟨c0,d0,al⟩,ap,as⟩:=st;have hl:=rv.length;have hT:s.TypeIs (.ref z) "zip" := ⟨_,hz,rfl⟩;unfold pyNext
  show aa (cB (wpAny_callSpecial?_slot (name:=Str.ofString "__next__") hT cr
   (aS cr hT dZ (zeq (A:=X.A.in1) D (I.ok.hd F) hz L ap p (by simp;lia) λh' e ko he=>?_) (dP _))))
  obtain⟨o,ho,cd⟩:=he;show aa (cx (T := "StopIteration") (b:=true) ⟨o,ho,cd⟩ dg ?_);show ae ⟨rfl,?_⟩;have ag:∀c o,c∉[z,J]->s.heap.get? c=some o->h'.get? c=some o:=λc o F e=>ko c o (λq=>F (by simp[q])) (λq=>F (by simp[q])) e;show Inv.step (ch:=[z,J]) (g':=s.gens) (d':=s.drawn) (t':=s.toks) I (λc F=>?_) (λc o h1 h2 h3 U h5=>ag c o h3 U) (λc o h1 h2 h3 U h5=>⟨o.slots,ag c o h3 U⟩) (λc o h3 U h5=>h5) (λc o h3 U=>⟨o,ag c o h3 U⟩) (λc ys q=>q) (λc o u' q=>q) (λc ps q=>⟨#[],by right⟩) (λm hm=>?_) (λb' u' hb=>?_) I.bare;simp only[aE,bM,or_false] at F;rcases F with rfl | rfl;exact⟨Y.2.2.2.1,Y.2.1,Y.2.2.2.2.1,Y.2.2.2.2.2⟩;exact⟨f1.2.2.2.1,f1.2.1,f1.2.2.2.2.1,f1.2.2.2.2.2⟩;obtain⟨o,es,ep,av,r1⟩:=hm;exact⟨o,es,ep,ko _ o (Ne.symm Y.2.1) (Ne.symm f1.2.1) av,r1⟩;show (I.hok b' u' hb).stay (λc v ad q=>?_) (λc q=>q) (λc ys q=>q)
  have:c≠z/\c≠J:=by
   rcases ad with rfl | ad;exact⟨zc hb Y.1,zc hb f1.1⟩;exact⟨zc ad Y.1,zc ad f1.1⟩
  exact ko c v this.1 this.2 q
 self:=λA i s Q E st h=>by obtain⟨hz,_⟩:=st;exact ee hz h
def zqY (kb:Bool)(K:AH)(ta:TA):TI:=λσ H R=>ta σ H λvs H1=>∃a b,vs=[.ref a,.ref b]/\(∃xs,SqV kb K H1 a xs)/\(∃ys,SqT K H1 b ys)/\R (Izg kb K a b) H1
def zo0 (kb:Bool){X:Cx}{elts:AO}{x1}{tpos:Pos}{a b:Expr}{ta:TA}{p pos:Pos}(hg:Gl X "zip")(hm:X.mg "zip" = none)(ha:PA X [a,b] ta)(hs:starEach [a,b] X.env=[(false,eval a X.env),(false,eval b X.env)]:=by rfl)(F:starEach [b] X.env=[(false,eval b X.env)]:=by rfl) :
  PI X (.Tuple elts x1 tpos) (.Call (.Name "zip" p) [a,b] [] pos) (zqY kb X.K ta):=by
 intro pins s σ H R I h;show Call_ (zca I hg hm boot_zip (bS (thn (ha pos pins s σ H _ I h) λus B ⟨vs,H1,I1,r1,q1⟩=>?_) (by rw[hs,F]) (by rw[F];rfl)));obtain⟨c,d,e,⟨xs,L⟩,⟨ys,O⟩,q⟩:=q1;subst e
 cases r1 with
 | cons r U=>
  cases U with
  | cons r' U=>
   cases U;cases r;cases r';obtain⟨as,av,p1⟩:=zgg I1 L;obtain⟨J,a0,p2,a1⟩:=I1.tuple O;have Y:c<B.heap.objs.size:=by obtain⟨o,Z,_⟩:=id p1;exact au Z
   have ad:d<B.heap.objs.size:=by obtain⟨o,Z,_⟩:=id p2;exact au Z
   show zic p1 (show B.heap.IsTuple d J.toArray from p2) λh' gz ag al an ap hsz hk=>?_;have I2:Inv X pins σ H1 { B with heap:=h',toks:=B.toks }:=I1.kept (t':=B.toks) hk;show ee gz ?_;show⟨B.heap.objs.size+4,[B.heap.objs.size+4,B.heap.objs.size+2,B.heap.objs.size+3,B.heap.objs.size,B.heap.objs.size+1],_,_,H1,rfl,I2,zkq _ _ _ _ _ c d (zipApart_new Y ad),⟨gz,ag,⟨_,_,al⟩,an,ap⟩,λe he=>?_,q⟩;simp only[aE,bM,or_false] at he;rcases he with rfl | rfl | rfl | rfl | rfl;exact I1.fpOk (by lia) (I1.hok.fresh (by lia));exact I1.fpOk (by lia) (I1.hok.fresh (by lia));exact I1.fpOk (by lia) (I1.hok.fresh (by lia));exact I1.fpOk (ai _) (I1.hok.fresh (ai _));exact I1.fpOk (by lia) (I1.hok.fresh (by lia))
def zps (kb:Bool){X:Cx}{elts:AO}{x1}{tpos:Pos}{a b:Expr}{ta:TA}{p pos:Pos}(B:Gl X "zip")(F:X.mg "zip" = none)(I:QA X [a,b] ta)(hs:starEach [a,b] X.env=[(false,eval a X.env),(false,eval b X.env)]:=by rfl)(q:starEach [b] X.env=[(false,eval b X.env)]:=by rfl) :
  QI X (.Tuple elts x1 tpos) (.Call (.Name "zip" p) [a,b] [] pos) (zqY kb X.K ta):=⟨zo0 kb B F I.run hs q⟩
section
variable {X:Cx}
def zpA:V->AT->Hp->VK->Prop:=λx vs H Q=>∃l xs k y,x = .ref l/\vs=[.int k,y]/\H l=some (.lst xs)/\0<=k/\k<=xs.length/\xs.length<sizeLine/\Q .non (upd H l (.lst (xs.take k.toNat++y::xs.drop k.toNat)))
def zjA:MtM X "list.insert" zpA:=by
 intro pins s σ H x vs v us Q I J L h;obtain⟨l,xs,k,y,rfl,rfl,B,h0,h1,O,q⟩:=h;cases J
 cases L with
 | cons U Y=>
  cases Y with
  | cons Z rn=>
   cases rn;obtain⟨t,rfl⟩:=U;obtain⟨z,its,n,r,hl,e⟩:=I.lstM B
   have hk:k<2 ^ 63:=by
    have:(xs.length:Int)<=2 ^ 40:=by have h2:xs.length<=2 ^ 40:=aw (cg O) (by ext);lia
    lia
   show dw PySem.F.slot_list_insert ⟨_,e,rfl⟩ PySem.F.entry_list_insert (PySem.F.args_list_insert_3 _ _ _)
    (AutoSeq1.list_insert_list_int_val_1 l its.toArray n k t _ (by rw[fitsIndex_both (by lia) hk];decide) (by grind)) ⟨e,?_⟩
   show⟨.non,_,I.lset (its':=its.take k.toNat++_::its.drop k.toNat) B e ?_ ((r.take _).append (.cons Z (r.drop _))) ?_,rfl,q⟩;change (its.toArray.extract 0 (if k<0 then (k+(its.toArray.size:Int)).toNat else min k.toNat its.toArray.size)).push _++its.toArray.extract (if k<0 then (k+(its.toArray.size:Int)).toNat else min k.toNat its.toArray.size)=_;rw[if_neg (by lia),aV,Nat.min_eq_left (by lia)];apply Array.toList_inj.mp;simp;rw[bX (by simp)];grind
def zfj{T:String}{name:Str}{id:String}{r:V->AT->Hp->VK->Prop}{es:AO}{to:TE}{t:TA}{apos cpos:Pos}(O:PlainAttrs T)(I:Slot T name id)(L:typeOf (.builtin id)=pure (.type "method_descriptor"))(U:MtR X id r)(Y:QE X o to)(Z:QA X (e::es) t)(B:attributeBase o name X.env (eval o X.env)=eval o X.env:=by rfl)(J:((backTo cpos (starEach (e::es) X.env)).all (λx=>!x.1)&&(backToKw cpos (keywordEach [] X.env)).all (λx=>x.1.isSome)
   && decide ((e::es).length+([]:List Keyword).length+(if ([]:List Keyword).isEmpty then 0 else 1)<30))=true:=by rfl)(F:(apos.endLine==cpos.line)=true:=by rfl)(hs:starEach (e::es) X.env=(false,eval e X.env)::starEach es X.env:=by rfl)(q:(backTo cpos (starEach es X.env)).any (·.1)=false:=by rfl) :
  QE X (.Call (.Attribute o name apos) (e::es) [] cpos) (tBM X.K T r to t):=⟨zrL O I L U Y.run Z.run B J F hs q⟩
def zj2:AT->Hp->VK->Prop:=λxs H Q=>∃ (l:Addr) (ns:AG),xs=[.ref l]/\H l=some (.lst (ns.map V.int))/\ns.length<64/\∀q:AG,q.Perm ns->q.Pairwise (·<=·)->New H (.lst (q.map V.int)) Q
def zgM:∀ {ns:AG} {its:AN},z0 (ns.map V.int) its->IntsAre its ns
 | [],_,h=>by cases h;exact .nil
 | n::ns,_,h=>by
  cases h with
  | cons q B=>
   obtain⟨t,rfl⟩:=q;exact .cons _ _ (zgM B)
def zkM{ns:AG}(h:IntsAre its ns):z0 (ns.map V.int) its:=by
 induction h with
 | nil=>exact .nil
 | cons _ _ _ q=>exact .cons ⟨_,rfl⟩ q
def zkU:CallQ X (.builtin "sorted") zj2:=⟨by
 intro pins s σ H xs us Q I r h;obtain⟨l,ns,rfl,hl,Z,q⟩:=h;obtain⟨u,rfl,ru⟩:=zaD r;cases ru;obtain⟨its,rv,pl,hz⟩:=I.list (.of hl);obtain⟨m0,B,_⟩:=id I.loc;show PySem.W.kso_sorted (h₀:=(⟨#[],{}⟩:Heap)) (L:=X.env.locals) (m:=m0) (news:=za2 s.heap X.env.locals) ⟨B,λb o e=>?_,aK _⟩ (λp hp=>?_) pl.isList (zgM rv) Z λD ap J c h' F N O hi an hp hs _=>?_;have:=au e;simp at this;obtain⟨b,o⟩:=p;have:=zT.mp hp;show⟨this.2,this.1,?_⟩
 cases e:(⟨#[],{}⟩:Heap).get? b with
 | none=>rfl
 | some o'=>
  have:=au e;simp at this
 have ad:∀b o,b≠X.env.locals->s.heap.get? b=some o->h'.get? b=some o:=λb o hb e=>(N (b,o) (ar _ (zT.mpr ⟨hb,e⟩))).1;have ag:D≠X.env.locals:=(N (D,_) am).2.1
 have al:s.heap.get? D=none:=by
  cases e:s.heap.get? D with
  | none=>rfl
  | some o=>exact absurd (O (D,o) (zT.mpr ⟨ag,e⟩)) (cy _)
 have U:H D=none:=by
  cases e:H D with
  | none=>rfl
  | some o=>
   obtain⟨o',as⟩:=zaV (I.hok D o e);grind
 have Y:=(N (D,_) am).1;have I':=zdJ I B (ys:=J.map V.int) ad F.ns al U Y (zkM hi) (by grind) s.toks;exact⟨.ref D,_,I',rfl,(q J hp hs).at U⟩⟩
end
end L2
namespace L3
open L2
abbrev ztT:=Addr×Addr×List Int
abbrev imm:HO->Bool
 | .lst _=>false
 | .dK _=>false
 | .dT _=>false
 | .ext _=>false
 | _=>true
def Mt (o:HO):Prop:=imm o=false
def Mt.tup(h:Mt o):∀xs,o≠.tup xs:=λ_ e=>by subst e;cases h
def NP (o:HO):Prop:=∀kvs,pnK o=some kvs->za6 kvs (Sum.inr "at" : Key)=none
def NP.lst:NP (.lst xs):=λ_ e=>by cases e
structure Jv where
 K:(AL)->Hp->Prop
 same:∀ {A:AL} {H H':Hp},K A H->y3 H H'->K A H'
 grow:∀ {A A':AL} {H:Hp},K A' H->(∀a,A a->A' a\/∃o,H a=some o/\NP o/\Mt o)->K A H
 upd:∀ {A:AL} {H:Hp} {p:Addr} {o:HO},K A H->A p->K A (L2.upd H p o)
 frz:∀ {A:AL} {H:Hp} {p:Addr} {o o':HO},K A H->H p=some o->NP o->Mt o->K A (L2.upd H p o')
structure PN where
 pn:Option ztT
 J:Jv
def J0:Jv:=⟨λ_ _=>True,λ_ _=>trivial,λ_ _=>trivial,λ_ _=>trivial,λ_ _ _ _=>trivial⟩
inductive W where
 | d (x:Dt) | pen (p:Addr) | dk (kvs:List (Key×Dt)) | dt (kvs:List (AG×Dt)) | ss (P:Aa) (w:Ab) (ks:AF) | df (kvs:List (AG×Dt)) | kf (kvs:List (Key×Dt)) | fl (l:AS)
abbrev AV:=W->Nat->Prop
abbrev AU:=List W
abbrev Mo (α:Type):=Nat->(α->Nat->Prop)->Prop
abbrev Ev:=List (Option W)
abbrev AD:=Ev->Mo W
abbrev AC:=Ev->Mo AU
open Classical in
noncomputable def z5 (A:AL)(H:Hp):Hp:=λb=>if A b then none else H b
section
variable {A A0:AL}{H H' G G' T T':Hp}{a b:Addr}{o:HO}
def zP:z5 A H b=some o↔¬ A b/\H b=some o:=by
 unfold z5;grind
def zy (h:¬ A b)(e:H b=some o):z5 A H b=some o:=zP.mpr ⟨h,e⟩
def zn:y3 (z5 A H) H:=λb o e=>(zP.mp e).2
def zM (s:zu H H'):zu (z5 A H) (z5 A H'):=λb o e n=>zy (zP.mp e).1 (s b o (zP.mp e).2 n)
def uV (s:y3 H H'):y3 (z5 A H) (z5 A H'):=λb o e=>zy (zP.mp e).1 (s b o (zP.mp e).2)
def xi (h:∀b,A0 b->A b):y3 (z5 A H) (z5 A0 H):=λb o e=>zy (λz=>(zP.mp e).1 (h b z)) (zP.mp e).2
def yp (h:A a):z5 A (upd H a o)=z5 A H:=by
 funext b;unfold z5;by_cases q:A b;simp[q];have:b≠a:=λe=>q (e ▸ h);simp[q,zd this]
end
def DAt (T G:Hp):Dt->V->Prop
 | .lst l,v=>∃a xs,v = .ref a/\T a=some (.lst xs)/\IsL G l xs
 | .dct,v=>∃a kvs,v = .ref a/\T a=some (.dK kvs)/\za6 kvs (Sum.inr "at" : Key)=none
 | .non,v=>Is G .non v
 | .bl b,v=>Is G (.bl b) v
 | .int i,v=>Is G (.int i) v
 | .str x,v=>Is G (.str x) v
 | .tup l,v=>Is G (.tup l) v
def DAt.is(h:DAt G G x v):Is G x v:=by cases x <;> exact h
def DAt.of(h:Is G x v):DAt G G x v:=by cases x <;> exact h
def DAt.up(t:zu T T')(g:zu G G')(h:DAt T G x v):DAt T' G' x v:=by
 cases x with
 | lst l=>obtain⟨a,xs,e,h1,h2⟩:=h;exact⟨a,xs,e,t.lst h1,h2.stay g⟩
 | dct=>obtain⟨a,kvs,e,h1,h2⟩:=h;exact⟨a,kvs,e,t _ _ h1 λk q=>by cases q;exact h2,h2⟩
 | _=>exact Is.stay g h
def DAt.full(t:y3 T H)(g:y3 G H)(h:DAt T G x v):Is H x v:=(DAt.up (zu.same t) (zu.same g) h).is
def uH {κ:Type}(G:Hp):List (κ×Dt)->List (κ×V)->Prop
 | [],ks=>ks=[]
 | q::r,ks=>∃v s,ks=(q.1,v)::s/\Is G q.2 v/\uH G r s
def uH.stay {κ:Type}{G G':Hp}(s:zu G G'):∀ {kvs:List (κ×Dt)} {ks:List (κ×V)},uH G kvs ks->uH G' kvs ks
 | [],_,h=>h
 | q::r,ks,⟨v,t,e,h1,h2⟩=>⟨v,t,e,h1.stay s,uH.stay s h2⟩
def SIs (G:Hp)(ks:AF)(xs:AE):Prop:=ks=xs.map (·.1)/\(∀q∈xs,G q.2=some (.tup (q.1.map V.int)))/\ks.Nodup
def SIs.stay{ks:AF}{xs:AE}(h:SIs G ks xs)(s:zu G G'):SIs G' ks xs:=⟨h.1,λq B=>s _ _ (h.2.1 q B) (λ_ e=>by cases e),h.2.2⟩
def WAt (T G:Hp):W->V->Prop
 | .d x,v=>DAt T G x v
 | .pen p,v=>v = .ref p
 | .dk kvs,v=>∃a ks,v = .ref a/\T a=some (.dK ks)/\uH G kvs ks/\za6 ks (Sum.inr "at" : Key)=none
 | .dt kvs,v=>∃a ks,v = .ref a/\T a=some (dtO ks)/\uH G kvs ks
 | .ss P w ks,v=>∃a xs,v = .ref a/\T a=some (zfq P w a (yK xs))/\SIs G ks xs
 | .df kvs,v=>∃a ob ks,v = .ref a/\T a=some (.frz ob (dtO ks))/\uH G kvs ks
 | .kf kvs,v=>∃a ob ks,v = .ref a/\T a=some (.frz ob (.dK ks))/\uH G kvs ks
 | .fl l,v=>∃a ob xs,v = .ref a/\T a=some (.frz ob (.lst xs))/\IsL G l xs
def WAt.up(t:zu T T')(g:zu G G')(h:WAt T G w v):WAt T' G' w v:=by
 cases w with
 | d x=>exact DAt.up t g h
 | pen p=>exact h
 | dk kvs=>
  obtain⟨a,ks,e,h1,h2,B⟩:=h;exact⟨a,ks,e,t _ _ h1 λk q=>by cases q;exact B,h2.stay g,B⟩
 | dt kvs=>
  obtain⟨a,ks,e,h1,h2⟩:=h;exact⟨a,ks,e,t _ _ h1 (λk q=>by cases q),h2.stay g⟩
 | ss P w kvs=>
  obtain⟨a,ks,e,h1,h2⟩:=h;exact⟨a,ks,e,t _ _ h1 zg0,h2.stay g⟩
 | df kvs=>
  obtain⟨a,ob,ks,e,h1,h2⟩:=h;exact⟨a,ob,ks,e,t _ _ h1 (λk q=>by cases q),h2.stay g⟩
 | kf kvs=>
  obtain⟨a,ob,ks,e,h1,h2⟩:=h;exact⟨a,ob,ks,e,t _ _ h1 (λk q=>by cases q),h2.stay g⟩
 | fl kvs=>
  obtain⟨a,ob,ks,e,h1,h2⟩:=h;exact⟨a,ob,ks,e,t _ _ h1 (λk q=>by cases q),h2.stay g⟩
abbrev W.mut:W->Bool
 | .d (.lst _)=>true
 | .d .dct=>true
 | .dk _=>true
 | .dt _=>true
 | .ss _ _ _=>true
 | _=>false
abbrev Val (A:AL)(H:Hp)(w:W)(v:V):Prop:=WAt (z5 A H) (z5 A H) w v
abbrev Bor (A:AL)(H:Hp)(w:W)(v:V):Prop:=WAt H (z5 A H) w v
def Val.bor(h:Val A H w v):Bor A H w v:=WAt.up (zu.same zn) (zu.refl _) h
def Val.stay(h:Val A H w v)(s:zu H H'):Val A H' w v:=WAt.up (zM s) (zM s) h
def Bor.stay(h:Bor A H w v)(s:zu H H'):Bor A H' w v:=WAt.up s (zM s) h
def Bor.is(h:Bor A H (.d x) v):Is H x v:=DAt.full (zkb _) zn h
def Val.is(h:Val A H (.d x) v):Is (z5 A H) x v:=DAt.is h
def Val.of(h:Is (z5 A H) x v):Val A H (.d x) v:=DAt.of h
mutual
def zmT {A:AL}{H:Hp}(hA:∀a xs,A a->H a≠some (.tup xs)):∀ {x:Dt} {v:V},x.noL=true->Is H x v->Is (z5 A H) x v
 | .non,_,_,h=>h
 | .bl _,_,_,h=>h
 | .int _,_,_,h=>h
 | .str _,_,_,h=>h
 | .tup l,_,n,h=>by obtain⟨p,xs,e,hp,hl⟩:=h;exact⟨p,xs,e,zy (λz=>hA p xs z hp) hp,zaA hA (by simpa [Dt.noL] using n) hl⟩
 | .lst l,_,n,_=>by simp[Dt.noL] at n
 | .dct,_,n,_=>by simp[Dt.noL] at n
def zaA {A:AL}{H:Hp}(hA:∀a xs,A a->H a≠some (.tup xs)):∀ {ds:AS} {xs:AT},Dt.noLs ds=true->IsL H ds xs->IsL (z5 A H) ds xs
 | [],_,_,h=>h
 | d::ds,xs,n,h=>by
  obtain⟨x,r,e,h1,h2⟩:=h;have n':(d.noL&&Dt.noLs ds)=true:=by simpa [Dt.noLs] using n
  rw[bw] at n';exact⟨x,r,e,zmT hA n'.1 h1,zaA hA n'.2 h2⟩
end
def ua (Pn:PN)(A:AL)(n:Nat)(H:Hp):Prop:=
 (match Pn.pn with
 | none=>True
 | some (p,c,ns)=>Pen H p c ns n/\¬ A c/\¬ A p)/\Pn.J.K A H
def Own (A:AL)(H:Hp)(w:W)(v:V):Prop:=∃a,v = .ref a/\A a/\Bor A H w v/\w.mut=true
def Al (A:AL)(H:Hp):Prop:=∀a,A a->∃o,H a=some o/\NP o/\Mt o
structure EnvR (A:AL)(M:AR)(σ:St)(H:Hp)(ρ:Ev):Prop where
 len:σ.length=ρ.length
 val:∀i w,ρ[i]?=some (some w)->∃v,σ[i]?=some (some v)/\(i∉M->Val A H w v)/\(i∈M->Own A H w v)
 dis:∀i j w u a,i∈M->j∈M->i≠j->ρ[i]?=some (some w)->ρ[j]?=some (some u)->σ[i]?=some (some (.ref a))->σ[j]?≠some (some (.ref a))
 al:Al A H
def EnvR.stay(E:EnvR A M σ H ρ)(s:zu H H'):EnvR A M σ H' ρ where
 len:=E.len
 val:=λi w e=>by obtain⟨v,h1,h2,q⟩:=E.val i w e;show⟨v,h1,λz=>(h2 z).stay s,λz=>?_⟩;obtain⟨a,e,B,F,I⟩:=q z;exact⟨a,e,B,F.stay s,I⟩
 dis:=E.dis
 al:=λa h=>by obtain⟨o,h1,h2,q⟩:=E.al a h;exact⟨o,s _ _ h1 h2,h2,q⟩
def EnvR.alT(E:EnvR A M σ H ρ):∀a xs,A a->H a≠some (.tup xs):=λa xs h e=>by
 obtain⟨o,h1,_,q⟩:=E.al a h;have:=q.tup;grind
def EnvR.new(E:EnvR A M σ H ρ)(h:H p=none):¬ A p:=λz=>by
 obtain⟨o,h1,_⟩:=E.al p z;grind
def Fr (H:Hp)(a:Addr):Prop:=∀o,H a=some o->¬ NP o
def Fr.of(h:H a=none):Fr H a:=λo e=>by rw[h] at e;cases e
def Fr.back(h:Fr H1 a)(s:zu H H1):Fr H a:=λo e n=>h o (s _ _ e n) n
def FrV (A:AL)(H H':Hp)(w:W)(v:V):Prop:=∃a,v = .ref a/\Fr H a/\WAt H' (z5 (λb=>A b\/b=a) H') w v
def FrV.back(h:FrV A H1 H' w v)(s:zu H H1):FrV A H H' w v:=let ⟨a,e,f,g⟩:=h;⟨a,e,f.back s,g⟩
def FrV.less(h:FrV A H H' w v)(s:∀a,A0 a->A a):FrV A0 H H' w v:=let ⟨a,e,f,g⟩:=h;⟨a,e,f,WAt.up (zu.refl _) (zu.same (xi λb z=>z.elim (λz=>.inl (s b z)) .inr)) g⟩
def EnvR.newF(E:EnvR A M σ H ρ)(h:Fr H p):¬ A p:=λz=>by obtain⟨o,h1,h2,_⟩:=E.al p z;exact h o h1 h2
def yG(s:zu H H')(n:Fr H p):zu (z5 A H) (z5 (λb=>A b\/b=p) H'):=λb o e q=>by obtain⟨h1,h2⟩:=zP.mp e;exact zy (λz=>z.elim h1 λz=>by subst z;exact n o h2 q) (s b o h2 q)
structure Go (Pn:PN)(A:AL)(H:Hp)(n:Nat)(H':Hp):Prop where
 st:zu H H'
 pn:ua Pn A n H'
def Go.trans(a:Go Pn A H n H1)(b:Go Pn A H1 m H2):Go Pn A H m H2:=⟨a.st.trans b.st,b.pn⟩
structure RE (Pn:PN)(M:AR)(fr:Bool)(te:TE)(f:AD):Prop where
 run:∀A σ H ρ n Q R,EnvR A M σ H ρ->ua Pn A n H->f ρ n R->(∀w m v H',R w m->Val A H' w v->Go Pn A H m H'->(fr=true->FrV A H H' w v)->Q v H')->te σ H Q
structure RB (Pn:PN)(M:AR)(te:TE)(f:AD):Prop where
 run:∀A σ H ρ n Q R,EnvR A M σ H ρ->ua Pn A n H->f ρ n R->(∀w m v H',R w m->Bor A H' w v->Go Pn A H m H'->Q v H')->te σ H Q
structure RT (Pn:PN)(M:AR)(te:TT)(f:Ev->Mo Bool):Prop where
 run:∀A σ H ρ n Q R,EnvR A M σ H ρ->ua Pn A n H->f ρ n R->(∀b m H',R b m->Go Pn A H m H'->Q b H')->te σ H Q
def zqb (A:AL)(H:Hp):AU->AT->Prop
 | [],vs=>vs=[]
 | w::q,vs=>∃v r,vs=v::r/\Bor A H w v/\zqb A H q r
def zbH (A:AL)(H:Hp):AU->AT->Prop
 | [],vs=>vs=[]
 | w::q,vs=>∃v r,vs=v::r/\Val A H w v/\zbH A H q r
def zbH.bor:∀ {q:AU} {vs:AT},zbH A H q vs->zqb A H q vs
 | [],_,h=>h
 | _::_,_,⟨v,r,e,h1,h2⟩=>⟨v,r,e,h1.bor,zbH.bor h2⟩
structure RA (Pn:PN)(M:AR)(ta:TA)(f:AC):Prop where
 run:∀A σ H ρ n Q R,EnvR A M σ H ρ->ua Pn A n H->f ρ n R->(∀ws m vs H',R ws m->zbH A H' ws vs->Go Pn A H m H'->Q vs H')->ta σ H Q
structure RAB (Pn:PN)(M:AR)(ta:TA)(f:AC):Prop where
 run:∀A σ H ρ n Q R,EnvR A M σ H ρ->ua Pn A n H->f ρ n R->(∀ws m vs H',R ws m->zqb A H' ws vs->Go Pn A H m H'->Q vs H')->ta σ H Q
structure Kt where
 nx:Ev->Nat->Prop
 rt:AV
 bk:Ev->Nat->Prop:=λ_ _=>False
 ct:Ev->Nat->Prop:=λ_ _=>False
abbrev Ms:=Ev->Nat->Kt->Prop
def StX (q:AL)(H0 H:Hp):Prop:=∀b o,H0 b=some o->NP o->¬ q b->H b=some o
def StX.of(s:zu H0 H):StX q H0 H:=λb o e n _=>s b o e n
def StX.stay(s:StX (λ_=>False) H0 H):zu H0 H:=λb o e n=>s b o e n λz=>z
structure Frm (A0:AL)(H0:Hp)(ca:AL)(A:AL)(H:Hp):Prop where
 sub:∀a,A0 a->A a
 new:∀a,A a->A0 a\/Fr H0 a\/ca a
 st:StX ca H0 H
 al:Al A0 H0
 cn:∀a,ca a->¬ A0 a
 cs:∀a,ca a->∃o,H a=some o/\NP o
def Frm.back(f:Frm A0 H0 B A H)(h:Fr H a)(n:¬ A a):Fr H0 a:=λo e q=>h o (f.st a o e q λz=>let ⟨o2,e2,n2⟩:=f.cs a z;h o2 e2 n2) q
structure Bs where
 ca:AL:=λ_=>False
 A0:AL
 H0:Hp
 G0:Hp
 σ0:St
def NoL (G:Hp):Prop:=∀a xs,G a≠some (.lst xs)
structure At3 (Pn:PN)(B:Bs)(S M:AR)(A:AL)(σ:St)(H:Hp)(ρ:Ev)(n:Nat):Prop where
 env:EnvR A M σ H ρ
 frm:Frm B.A0 B.H0 B.ca A H
 pn:ua Pn A n H
 prot:zu B.G0 (z5 A H)
 fix:(∀i∈S,σ[i]?=B.σ0[i]?)/\(9999∈S->NoL B.G0/\NoL B.H0)
 mine:∀i w a,i∈M->ρ[i]?=some (some w)->σ[i]?=some (some (.ref a))->Fr B.H0 a\/B.ca a
structure KOk (Pn:PN)(B:Bs)(S M:AR)(fr:Bool)(k:Kt)(D:Ends):Prop where
 nx:∀A σ H ρ n,At3 Pn B S M A σ H ρ n->k.nx ρ n->D.nx σ H
 bk:∀A σ H ρ n,At3 Pn B S M A σ H ρ n->k.bk ρ n->D.bk σ H
 ct:∀A σ H ρ n,At3 Pn B S M A σ H ρ n->k.ct ρ n->D.ct σ H
 fc:∀a,¬ B.ca a
 rt:∀w n v H,Val B.A0 H w v->StX B.ca B.H0 H->ua Pn B.A0 n H->(fr=true->FrV B.A0 B.H0 H w v)->k.rt w n->D.rt v H
structure RS (Pn:PN)(S M:AR)(fr:Bool)(ts:TS)(fs:Ms):Prop where
 run:∀B A σ H ρ n k D,At3 Pn B S M A σ H ρ n->KOk Pn B S M fr k D->fs ρ n k->ts D σ H
structure RG (S M:AR)(g:TG)(mg:W->Ev->(Ev->Prop)->Prop):Prop where
 run:∀A σ H ρ v w Q R,EnvR A M σ H ρ->Val A H w v->mg w ρ R->(∀ σ' ρ',R ρ'->EnvR A M σ' H ρ'->(∀i∈S,σ'[i]?=σ[i]?/\ρ'[i]?=ρ[i]?)->Q σ' H)->g v σ H Q
structure RGs (S M:AR)(g:TGs)(mg:AS->Ev->(Ev->Prop)->Prop):Prop where
 run:∀A σ H ρ vs ds Q R,EnvR A M σ H ρ->IsL (z5 A H) ds vs->mg ds ρ R->(∀ σ' ρ',R ρ'->EnvR A M σ' H ρ'->(∀i∈S,σ'[i]?=σ[i]?/\ρ'[i]?=ρ[i]?)->Q σ' H)->g vs σ H Q
structure ItV (ow:Bool)(A:AL)(H:Hp)(J:It)(l:AU):Prop where
 one:∀i w A2 H2,l[i]?=some w->zu (z5 A H) (z5 A2 H2)->(ow=true->zu H H2)->(∀p,H2 p=none->¬ A2 p)->J.go i H2/\∀x H3,J.yld i H2 x H3->y3 H2 H3/\Val A2 H3 w x
 stop:∀A2 H2,zu (z5 A H) (z5 A2 H2)->(ow=true->zu H H2)->J.stop l.length H2
structure RI (Pn:PN)(M:AR)(ow:Bool)(wi:TI)(f:AC):Prop where
 run:∀A σ H ρ n Q R,EnvR A M σ H ρ->ua Pn A n H->f ρ n R->(∀l m J H',R l m->ItV ow A H' J l->Go Pn A H m H'->Q J H')->wi σ H Q
def RE.rb(h:RE Pn M fr te f):RB Pn M te f:=
 ⟨λA σ H ρ n Q R E P q k=>h.run A σ H ρ n Q R E P q λw m v H' r a g _=>k w m v H' r a.bor g⟩
def RA.rab(h:RA Pn M te f):RAB Pn M te f:=
 ⟨λA σ H ρ n Q R E P q k=>h.run A σ H ρ n Q R E P q λw m v H' r a g=>k w m v H' r a.bor g⟩
def ua.same(h:ua Pn A n H)(s:y3 H H'):ua Pn A n H':=by
 show⟨?_,Pn.J.same h.2 s⟩;have h:=h.1;split at h;trivial;exact⟨h.1.same s,h.2⟩
def Go.same(h:ua Pn A n H)(s:y3 H H'):Go Pn A H n H':=⟨zu.same s,h.same s⟩
def Go.refl(h:ua Pn A n H):Go Pn A H n H:=⟨zu.refl _,h⟩
structure JE (X:Cx)(Pn:PN)(M:AR)(fr:Bool)(e:Expr)(f:AD):Prop where
 ex:∃te,QE X e te/\RE Pn M fr te f
structure JB (X:Cx)(Pn:PN)(M:AR)(e:Expr)(f:AD):Prop where
 ex:∃te,QE X e te/\RB Pn M te f
structure JT (X:Cx)(Pn:PN)(M:AR)(e:Expr)(f:Ev->Mo Bool):Prop where
 ex:∃te,QT X e te/\RT Pn M te f
structure JW (X:Cx)(Pn:PN)(M:AR)(e:Expr)(f:Ev->Mo Bool):Prop where
 ex:∃te,QW X e te/\RT Pn M te f
structure JA (X:Cx)(Pn:PN)(M:AR)(es:AO)(f:AC):Prop where
 ex:∃te,QA X es te/\RA Pn M te f
structure JAB (X:Cx)(Pn:PN)(M:AR)(es:AO)(f:AC):Prop where
 ex:∃te,QA X es te/\RAB Pn M te f
structure JO (X:Cx)(Pn:PN)(M:AR)(e:Option Expr)(f:Ev->Mo AQ):Prop where
 ex:∃t,QO X e t/\∀A σ H ρ n Q R,EnvR A M σ H ρ->ua Pn A n H->f ρ n R->(∀o m H',R o m->Go Pn A H m H'->Q o H')->t σ H Q
section
variable {X:Cx}{Pn:PN}{M:AR}{fr:Bool}{e a b c:Expr}{es:AO}{f fa fb fc:AD}{pos p:Pos}
def zrk (i:Nat):AD:=λρ n Q=>∃w,ρ[i]?=some (some w)/\Q w n
abbrev mC (w:W):AD:=λ_ n Q=>Q w n
abbrev zly (F:W->W->Mo W) (fa fb:AD):AD:=λρ n Q=>fa ρ n λx q=>fb ρ q λy B=>F x y B Q
abbrev mUn (F:W->Mo W) (fa:AD):AD:=λρ n Q=>fa ρ n λx q=>F x q Q
def zoH (fa:AD):Ev->Mo Bool:=λρ n Q=>fa ρ n λx q=>∃c,x = .d (.bl c)/\Q c q
def ztz (t u:Ev->Mo Bool):Ev->Mo Bool:=λρ n Q=>t ρ n λc q=>if c=true then u ρ q Q else Q false q
def mOr (t u:Ev->Mo Bool):Ev->Mo Bool:=λρ n Q=>t ρ n λc q=>if c=true then Q true q else u ρ q Q
def zuN (t:Ev->Mo Bool):Ev->Mo Bool:=λρ n Q=>t ρ n λc q=>Q (!c) q
def zos (fa fb:AD):AD:=λρ n Q=>fa ρ n λx q=>∃c,x = .d (.bl c)/\if c=true then fb ρ q Q else Q (.d (.bl false)) q
def mIf (t:Ev->Mo Bool)(fa fb:AD):AD:=λρ n Q=>t ρ n λc q=>if c=true then fa ρ q Q else fb ρ q Q
abbrev zrh:AC:=λ_ n Q=>Q [] n
abbrev ze7 (fa:AD) (fr:AC):AC:=λρ n Q=>fa ρ n λx q=>fr ρ q λxs B=>Q (x::xs) B
abbrev zuF (F:AU->Mo W) (fa:AC):AD:=λρ n Q=>fa ρ n λxs q=>F xs q Q
def JE.bo (h:JE X Pn M fr e f):JB X Pn M e f:=let ⟨te,h1,h2⟩:=h.ex;⟨te,h1,h2.rb⟩
def JA.bo {f:AC}(h:JA X Pn M es f):JAB X Pn M es f:=let ⟨te,h1,h2⟩:=h.ex;⟨te,h1,h2.rab⟩
def zsr(hi:i∉M):RE Pn M false (zkG i) (zrk i):=⟨λA σ H ρ n Q R E P q k=>by obtain⟨w,e,r⟩:=q;obtain⟨v,h1,h2,_⟩:=E.val i w e;exact⟨v,h1,k w n v H r (h2 hi) (Go.refl P) λz=>by cases z⟩⟩
def zso:RB Pn M (zkG i) (zrk i):=⟨λA σ H ρ n Q R E P q k=>by
 obtain⟨w,e,r⟩:=q;obtain⟨v,h1,h2,B⟩:=E.val i w e;show⟨v,h1,k w n v H r ?_ (Go.refl P)⟩;by_cases hi:i∈M;obtain⟨a,_,_,h,_⟩:=B hi;exact h;exact (h2 hi).bor⟩
def zuz (i:Nat){x:Str}(hi:i∉M:=by ext)(B:X.N[i]?=some x:=by rfl)(F:Vis X.env.scope x:=by walk_at "v")(I:Ah x:=by ext)
  (q:(x==("__classdict__" : Str))=false:=by ext):JE X Pn M false (.Name x pos) (zrk i):=⟨_,qv i B F I q,zsr hi⟩
def zuu(i:Nat)(B:X.N[i]?=some x:=by rfl)(F:Vis X.env.scope x:=by walk_at "v")(I:Ah x:=by ext)(q:(x==("__classdict__" : Str))=false:=by ext):JB X Pn M (.Name x pos) (zrk i):=⟨_,qv i B F I q,zso⟩
def zvi(h:∀G,Is G x v):RE Pn M false (tC v) (mC (.d x)):=⟨λA σ H ρ n Q R E P q k=>k _ n v H q (Val.of (h _)) (Go.refl P) λz=>by cases z⟩
def zq{i:Int}:JE X Pn M false (.Constant (.int i) j pos) (mC (.d (.int i))):=⟨_,yu,zvi λ_=>rfl⟩
def zgQ:JE X Pn M false (.Constant (.bool k) j pos) (mC (.d (.bl k))):=⟨_,zvc,zvi λ_=>rfl⟩
def zf2:JE X Pn M false (.Constant (.str x) j pos) (mC (.d (.str x))):=⟨_,xL,zvi λ_=>rfl⟩
def Al.new {A:AL}{H:Hp}(h:Al A H){p:Addr}(e:H p=none):¬ A p:=λz=>by
 obtain⟨o,h1,_⟩:=h p z;grind
def Al.stay(h:Al A H)(s:zu H H'):Al A H':=λa z=>by obtain⟨o,h1,h2,q⟩:=h a z;exact⟨o,s _ _ h1 h2,h2,q⟩
def Al.noT(h:Al A H):∀a xs,A a->H a≠some (.tup xs):=λa xs z e=>by
 obtain⟨o,h1,_,q⟩:=h a z;have:=q.tup;grind
def Al.noT' {A:AL}{H H':Hp}(h:Al A H)(s:zu H H'){p:Addr}{xs:AT}(e:H' p=some (.tup xs)):¬ A p:=λz=>(h.stay s).noT p xs z e
structure F2 (Pn:PN)(fr:Bool)(r:R2)(F:W->W->Mo W):Prop where
 run:∀A H x y wx wy n Q R,Al A H->Bor A H wx x->Bor A H wy y->ua Pn A n H->F wx wy n R->(∀w m v H',R w m->Val A H' w v->Go Pn A H m H'->(fr=true->FrV A H H' w v)->Q v H')->r x y H Q
structure FL (Pn:PN)(fr:Bool)(r:AT->Hp->VK->Prop)(F:AU->Mo W):Prop where
 run:∀A H xs ws n Q R,Al A H->zqb A H ws xs->ua Pn A n H->F ws n R->(∀w m v H',R w m->Val A H' w v->Go Pn A H m H'->(fr=true->FrV A H H' w v)->Q v H')->r xs H Q
def zmb(B:F2 Pn fr r F)(I:RB Pn M ta fa)(J:RB Pn M tb fb):RE Pn M fr (tOp r ta tb) (zly F fa fb):=⟨λA σ H ρ n Q R E P L k=>by show I.run A σ H ρ n _ _ E P L λx O U H1 Y Z q=>?_;show J.run A σ H1 ρ O _ _ (E.stay q.st) q.pn Y λy n2 v2 H2 r2 b2 g2=>?_;have g:=q.trans g2;exact B.run A H2 U v2 x y n2 _ _ (E.stay g.st).al (Z.stay g2.st) b2 g2.pn r2 λw m v H' h1 h2 h3 h4=>k w m v H' h1 h2 (g.trans h3) λz=>(h4 z).back g.st⟩
def zsp {r:AT->Hp->VK->Prop}{F:AU->Mo W}{ta:TA}{fa:AC}(B:FL Pn fr r F)(I:RAB Pn M ta fa):RE Pn M fr (tCB r ta) (zuF F fa):=⟨λA σ H ρ n Q R E P J k=>by show I.run A σ H ρ n _ _ E P J λx L O H1 U Y q=>?_;exact B.run A H1 O x L _ _ (E.stay q.st).al Y q.pn U λw m v H' h1 h2 Z h4=>k w m v H' h1 h2 (q.trans Z) λz=>(h4 z).back q.st⟩
def zaB(B:OpQ X (binaryOp q) r)(I:F2 Pn fr r F)(J:JB X Pn M a fa)(L:JB X Pn M b fb):JE X Pn M fr (.BinOp a q b pos) (zly F fa fb):=by obtain⟨ta,O,U⟩:=J.ex;obtain⟨tb,Y,Z⟩:=L.ex;exact⟨_,yW B O Y,zmb I U Z⟩
def zoi(B:OpQ X (compareOp q) r)(I:F2 Pn fr r F)(J:JB X Pn M a fa)(L:JB X Pn M b fb)(O:behindInMarks q b=false):JE X Pn M fr (.Compare a [q] [b] pos) (zly F fa fb):=by obtain⟨ta,U,Y⟩:=J.ex;obtain⟨tb,Z,rb⟩:=L.ex;exact⟨_,zph B U Z O,zmb I Y rb⟩
def znj(h:RB Pn M ta fa):RT Pn M (zpZ ta) (zoH fa):=⟨λA σ H ρ n Q R E P B k=>by show h.run A σ H ρ n _ _ E P B  ?_;rintro x F I H1 ⟨c,e,r⟩ J L;subst e;have q:I = .bl c:=J;exact⟨c,q,k c F H1 r L⟩⟩
def zz(B:OpQ X (compareOp q) r)(I:F2 Pn fr r F)(J:JB X Pn M a fa)(L:JB X Pn M b fb)(O:behindInMarks q b=false):JT X Pn M (.Compare a [q] [b] pos) (zoH (zly F fa fb)):=by obtain⟨ta,U,Y⟩:=J.ex;obtain⟨tb,Z,rb⟩:=L.ex;exact⟨_,zcm B U Z O,znj (zmb I Y rb).rb⟩
def uW (h:JB X Pn M e f)(he:∀whole,isTrue e X.env whole=(do let v <- whole;standAt e.pos;holding [v] (truthy v)):=by intro _;rfl):JT X Pn M e (zoH f):=by obtain⟨ta,qa,ra⟩:=h.ex;exact⟨_,zsk qa he,znj ra⟩
def zaO(h:JT X Pn M a t):JT X Pn M (.UnaryOp .Not a pos) (zuN t):=by obtain⟨ta,q,B⟩:=h.ex;exact⟨_,zsj q,⟨λA σ H ρ n Q R E P F k=>B.run A σ H ρ n _ _ E P F λb m H' r g=>k _ m H' r g⟩⟩
def xR(B:q = .And\/q = .Or)(h:JT X Pn M a t):JW X Pn M (.BoolOp q [a] pos) t:=by
 obtain⟨ta,F,I⟩:=h.ex;rcases B with rfl | rfl;exact⟨_,zjY F,I⟩;exact⟨_,zsl F,I⟩
def zsC(h:RT Pn M t q)(h':RT Pn M u B):RT Pn M (zvp t u) (ztz q B):=⟨λA σ H ρ n Q R E P F k=>by
 show h.run A σ H ρ n _ _ E P F λc m H1 r g=>?_
 cases c with
 | true=>exact h'.run A σ H1 ρ m _ _ (E.stay g.st) g.pn (by simpa using r) λb I H' J g'=>k b I H' J (g.trans g')
 | false=>exact k false m H1 (by simpa using r) g⟩
def zvl(h:RT Pn M t q)(h':RT Pn M u B):RT Pn M (tOr t u) (mOr q B):=⟨λA σ H ρ n Q R E P F k=>by
 show h.run A σ H ρ n _ _ E P F λc m H1 r g=>?_
 cases c with
 | false=>exact h'.run A σ H1 ρ m _ _ (E.stay g.st) g.pn (by simpa using r) λb I H' J g'=>k b I H' J (g.trans g')
 | true=>exact k true m H1 (by simpa using r) g⟩
def zaP {zQ:AO}{t u:Ev->Mo Bool}(h:JT X Pn M a t)(h':JW X Pn M (.BoolOp .And (b::zQ) pos) u):JW X Pn M (.BoolOp .And (a::b::zQ) pos) (ztz t u):=by obtain⟨ta,q,B⟩:=h.ex;obtain⟨tb,F,I⟩:=h'.ex;exact⟨_,znc q F,zsC B I⟩
def zeZ {zQ:AO}{t u:Ev->Mo Bool}(h:JT X Pn M a t)(h':JW X Pn M (.BoolOp .Or (b::zQ) pos) u):JW X Pn M (.BoolOp .Or (a::b::zQ) pos) (mOr t u):=by obtain⟨ta,q,B⟩:=h.ex;obtain⟨tb,F,I⟩:=h'.ex;exact⟨_,zvd q F,zvl B I⟩
def JW.t {t:Ev->Mo Bool}(h:JW X Pn M e t):JT X Pn M e t:=let ⟨te,h1,h2⟩:=h.ex;⟨te,h1.pt,h2⟩
def zuy(h:JE X Pn M false a fa):JE X Pn M false (.BoolOp q [a] pos) fa:=let ⟨te,h1,h2⟩:=h.ex;⟨te,zsf h1,h2⟩
def zut {zQ:AO}(h:JB X Pn M a fa)(h':JE X Pn M false (.BoolOp .And (b::zQ) pos) fb):JE X Pn M false (.BoolOp .And (a::b::zQ) pos) (zos fa fb):=by
 obtain⟨ta,B,F⟩:=h.ex;obtain⟨tb,I,J⟩:=h'.ex;show⟨_,zsa B I,⟨λA σ H ρ n Q R E P L k=>?_⟩⟩;show F.run A σ H ρ n _ _ E P L  ?_;rintro x m v H1 ⟨c,O,r⟩ U g;subst O;have q:v = .bl c:=U;show⟨c,q,?_⟩
 cases c with
 | true=>
  rw[if_pos rfl] at r ⊢;exact J.run A σ H1 ρ m _ _ (E.stay g.st) g.pn r λw Y Z H' r' a' g' _=>k w Y Z H' r' a' (g.trans g') λz=>by cases z
 | false=>
  rw[if_neg (by ext)] at r ⊢;exact k _ m _ H1 r (Val.of rfl) g λz=>by cases z
def zoB (fa:AD):AD:=λρ n Q=>fa ρ n λx q=>∃c,x = .d (.bl c)/\Q (.d (.bl (!c))) q
def zux (h:JB X Pn M a fa):JE X Pn M false (.UnaryOp .Not a pos) (zoB fa):=by obtain⟨ta,B,F⟩:=h.ex;show⟨_,zse B,⟨λA σ H ρ n Q R E P I k=>?_⟩⟩;show F.run A σ H ρ n _ _ E P I  ?_;rintro x m v H1 ⟨c,J,r⟩ L g;subst J;have q:v = .bl c:=L;exact⟨c,q,k _ m _ H1 r (Val.of rfl) g λz=>by cases z⟩
def j_if(L:JT X Pn M c t)(O:JE X Pn M fr a fa)(U:JE X Pn M fr b fb):JE X Pn M fr (.IfExp c a b pos) (mIf t fa fb):=by
 obtain⟨tc,Y,Z⟩:=L.ex;obtain⟨ta,qa,ra⟩:=O.ex;obtain⟨tb,qb,rb⟩:=U.ex;show⟨_,zl3 Y qa qb,⟨λA σ H ρ n Q R E P hf k=>?_⟩⟩;show Z.run A σ H ρ n _ _ E P hf λc m H1 r g=>?_
 cases c with
 | true=>
  rw[if_pos rfl] at r ⊢;exact ra.run A σ H1 ρ m _ _ (E.stay g.st) g.pn r λw q B H' F I g' J=>k w q B H' F I (g.trans g') λz=>(J z).back g.st
 | false=>
  rw[if_neg (by ext)] at r ⊢;exact rb.run A σ H1 ρ m _ _ (E.stay g.st) g.pn r λw q B H' F I g' J=>k w q B H' F I (g.trans g') λz=>(J z).back g.st
abbrev isNon:W->Bool
 | .d .non=>true
 | _=>false
def Bor.isNon(h:Bor A H w v):decide (v = .non)=isNon w:=by
 cases w with
 | d x=>
  cases x with
  | non=>have:v = .non:=h;subst this;rfl
  | bl c=>have:v = .bl c:=h;subst this;rfl
  | int c=>have:v = .int c:=h;subst this;rfl
  | str c=>have:v = .str c:=h;subst this;rfl
  | tup l=>obtain⟨a,_,rfl,_⟩:=h;rfl
  | lst l=>obtain⟨a,_,rfl,_⟩:=h;rfl
  | dct=>obtain⟨a,_,rfl,_⟩:=h;rfl
 | pen p=>have:v = .ref p:=h;subst this;rfl
 | dk k=>obtain⟨a,_,rfl,_⟩:=h;rfl
 | dt k=>obtain⟨a,_,rfl,_⟩:=h;rfl
 | ss P w k=>obtain⟨a,_,rfl,_⟩:=h;rfl
 | df k=>obtain⟨a,_,_,rfl,_⟩:=h;rfl
 | kf k=>obtain⟨a,_,_,rfl,_⟩:=h;rfl
 | fl k=>obtain⟨a,_,_,rfl,_⟩:=h;rfl
abbrev mIsN (fa:AD):AD:=λρ n Q=>fa ρ n λx q=>Q (.d (.bl (isNon x))) q
abbrev mNotN (fa:AD):AD:=λρ n Q=>fa ρ n λx q=>Q (.d (.bl (!isNon x))) q
def zsq(h:RB Pn M ta fa):RE Pn M false (zvs ta) (mIsN fa):=⟨λA σ H ρ n Q R E P q k=>by show h.run A σ H ρ n _ _ E P q λx m v H1 r B g=>?_;exact k _ m _ H1 r (Val.of (by rw[B.isNon];rfl)) g λz=>by cases z⟩
def zvm(h:RB Pn M ta fa):RT Pn M (tB ta) (zoH fa):=⟨λA σ H ρ n Q R E P B k=>by show h.run A σ H ρ n _ _ E P B  ?_;rintro x F I H1 ⟨c,e,r⟩ J L;subst e;have q:I = .bl c:=J;exact⟨c,q,k c F H1 r L⟩⟩
def zq8(h:JB X Pn M a fa):JT X Pn M (.Compare a [.Is] [.Constant .none j pos'] pos) (zoH (mIsN fa)):=by obtain⟨ta,q,B⟩:=h.ex;exact⟨_,zsi (zr9 q),zvm (zsq B).rb⟩
def zg:JA X Pn M [] zrh:=⟨_,yk,⟨λA σ H ρ n Q R E P q k=>k [] n [] H q rfl (Go.refl P)⟩⟩
def za(B:JE X Pn M fr e f)(F:JA X Pn M es fs)(hs:starEach (e::es) X.env=(false,eval e X.env)::starEach es X.env:=by rfl):JA X Pn M (e::es) (ze7 f fs):=by obtain⟨ta,I,J⟩:=B.ex;obtain⟨tb,L,O⟩:=F.ex;show⟨_,zG I L hs,⟨λA σ H ρ n Q R E P U k=>?_⟩⟩;show J.run A σ H ρ n _ _ E P U λx Y Z H1 r1 b1 q _=>?_;exact O.run A σ H1 ρ Y _ _ (E.stay q.st) q.pn r1 λxs n2 vs H2 r2 b2 g2=>k _ n2 _ H2 r2 ⟨Z,vs,rfl,b1.stay g2.st,b2⟩ (q.trans g2)
def zo:JAB X Pn M [] zrh:=zg.bo
def zl(B:JB X Pn M e f)(F:JAB X Pn M es fs)(hs:starEach (e::es) X.env=(false,eval e X.env)::starEach es X.env:=by rfl):JAB X Pn M (e::es) (ze7 f fs):=by obtain⟨ta,I,J⟩:=B.ex;obtain⟨tb,L,O⟩:=F.ex;show⟨_,zG I L hs,⟨λA σ H ρ n Q R E P U k=>?_⟩⟩;show J.run A σ H ρ n _ _ E P U λx Y Z H1 r1 b1 q=>?_;exact O.run A σ H1 ρ Y _ _ (E.stay q.st) q.pn r1 λxs n2 vs H2 r2 b2 g2=>k _ n2 _ H2 r2 ⟨Z,vs,rfl,b1.stay g2.st,b2⟩ (q.trans g2)
def lim:Nat:=500000
def zc3(h:n<=lim):n<=sizeLine:=aw h (by ext)
def zc4(h:n<=lim):n<sizeLine:=aM h (by ext)
def dts:AU->Option AS
 | []=>some []
 | .d x::r=>(dts r).map (x::·)
 | _::_=>none
def zbH.dts:∀ {q:AU} {vs:AT} {l:AS},zbH A H q vs->dts q=some l->IsL (z5 A H) l vs
 | [],vs,l,h,e=>by cases e;exact h
 | .d x::q,vs,l,⟨v,r,B,h1,h2⟩,e=>by obtain⟨l',F,rfl⟩:=aA.mp e;exact⟨v,r,B,h1.is,zbH.dts h2 F⟩
 | .pen _::_,_,_,_,e=>by cases e
 | .dk _::_,_,_,_,e=>by cases e
 | .dt _::_,_,_,_,e=>by cases e
 | .ss _ _ _::_,_,_,_,e=>by cases e
 | .df _::_,_,_,_,e=>by cases e
 | .kf _::_,_,_,_,e=>by cases e
 | .fl _::_,_,_,_,e=>by cases e
def zbH.len:∀ {q:AU} {vs:AT},zbH A H q vs->vs.length=q.length
 | [],_,h=>by cases h;rfl
 | _::q,vs,⟨v,r,e,_,h2⟩=>by rw[e,aO,aO,zbH.len h2]
def zeo {A:AL}{H H':Hp}{p:Addr}{xs:AT}{l:AS}(q:IsL (z5 A H) l xs)(s:zu H H')(n:¬ A p)(g:H' p=some (.tup xs)):Val A H' (.d (.tup l)) (.ref p):=
 Val.of ⟨p,xs,rfl,zy n g,q.stay (zM s)⟩
def x8 {A:AL}{H H':Hp}{p:Addr}{xs:AT}{l:AS}(q:IsL (z5 A H) l xs)(s:zu H H')(n:¬ A p)(g:H' p=some (.lst xs)):Val A H' (.d (.lst l)) (.ref p):=
 Val.of ⟨p,xs,rfl,zy n g,q.stay (zM s)⟩
def uu {A:AL}{H H':Hp}{p:Addr}{xs:AT}{l:AS}(q:IsL (z5 A H) l xs)(s:y3 H H')(n:H p=none)(g:H' p=some (.lst xs)):FrV A H H' (.d (.lst l)) (.ref p):=
 ⟨p,rfl,.of n,p,xs,rfl,g,q.stay (yG (zu.same s) (.of n))⟩
abbrev ztE:Nat->AU->(AS->Prop)->Prop
 | _,[],P=>P []
 | k+1,.d x::r,P=>ztE k r λl=>P (x::l)
 | _,_,_=>False
def zdZ:∀ {k:Nat} {l:AU} {P:AS->Prop},ztE k l P->∃ds,dts l=some ds/\P ds/\l.length<=k
 | 0,[],P,h=>⟨[],rfl,h,aK _⟩
 | k+1,[],P,h=>⟨[],rfl,h,aK _⟩
 | 0,.d x::r,P,h=>h.elim
 | k+1,.d x::r,P,h=>by obtain⟨ds,e,h2,q⟩:=zdZ (k:=k) (l:=r) (P:=λl=>P (x::l)) h;exact⟨x::ds,by simp[dts,e],h2,Nat.succ_le_succ q⟩
 | 0,.pen _::r,P,h=>h.elim
 | k+1,.pen _::r,P,h=>h.elim
 | 0,.dk _::r,P,h=>h.elim
 | k+1,.dk _::r,P,h=>h.elim
 | 0,.dt _::r,P,h=>h.elim
 | 0,.ss _ _ _::r,P,h=>h.elim
 | 0,.df _::r,P,h=>h.elim
 | 0,.kf _::r,P,h=>h.elim
 | 0,.fl _::r,P,h=>h.elim
 | k+1,.dt _::r,P,h=>h.elim
 | k+1,.ss _ _ _::r,P,h=>h.elim
 | k+1,.df _::r,P,h=>h.elim
 | k+1,.kf _::r,P,h=>h.elim
 | k+1,.fl _::r,P,h=>h.elim
abbrev zrj (fa:AC):AD:=λρ n Q=>fa ρ n λq m=>ztE 200 q λl=>Q (.d (.tup l)) m
def xq{x1}(h:JA X Pn M es fs):JE X Pn M false (.Tuple es x1 pos) (zrj fs):=by obtain⟨ta,q,B⟩:=h.ex;show⟨_,zgj q,⟨λA σ H ρ n Q R E P F k=>?_⟩⟩;show B.run A σ H ρ n _ _ E P F λU m vs H1 I b g=>?_;obtain⟨l,e,r,J⟩:=zdZ I;show⟨zc3 (by rw[b.len];exact aw J (by ext)),λp H2 L O S=>?_⟩;exact k _ m _ H2 r (zeo (b.dts e) (zu.same S) ((E.stay g.st).new L) O) (g.trans (Go.same g.pn S)) λz=>by cases z
abbrev zuM (fa:AC):AD:=λρ n Q=>fa ρ n λq m=>ztE 200 q λl=>Q (.d (.lst l)) m
def uR(h:JA X Pn M es fs):JE X Pn M true (.List es pos) (zuM fs):=by obtain⟨ta,F,I⟩:=h.ex;show⟨_,zjU F,⟨λA σ H ρ n Q R E P J k=>?_⟩⟩;show I.run A σ H ρ n _ _ E P J λU m vs H1 L b g=>?_;obtain⟨l,e,r,O⟩:=zdZ L;show⟨zc3 (by rw[b.len];exact aw O (by ext)),λp H2 q B S=>?_⟩;exact k _ m _ H2 r (x8 (b.dts e) (zu.same S) ((E.stay g.st).new q) B) (g.trans (Go.same g.pn S)) λ_=>(uu (b.dts e) S q B).back g.st
def zO {id:String}{r:AT->Hp->VK->Prop}{F:AU->Mo W}{x:Str}{fs:AC}(I:CallQ X (.builtin id) r)(J:FL Pn fr r F)(L:Gl X x)(O:X.mg x=none)(U:bootBuiltins x=some (.builtin id))(Y:JAB X Pn M (e::es) fs)(Z:x ≠ "__name__" := by ext)(q:Ah x:=by ext)
  (he:starEach (e::es) X.env=(false,eval e X.env)::starEach es X.env:=by rfl) (B:(backTo pos (starEach es X.env)).any (·.1)=false:=by rfl):JE X Pn M fr (.Call (.Name x p) (e::es) [] pos) (zuF F fs):=by
 obtain⟨ta,qa,ra⟩:=Y.ex;exact⟨_,y0 I L O U qa Z q he B,zsp J ra⟩
def xy(I:CallQ X (.type T) r)(J:FL Pn fr r F)(L:Gl X x)(O:X.mg x=none)(U:bootBuiltins x=some (.type T))(Y:JAB X Pn M (e::es) fs)(Z:x ≠ "__name__" := by ext)(q:Ah x:=by ext)(he:starEach (e::es) X.env=(false,eval e X.env)::starEach es X.env:=by rfl)(B:(backTo pos (starEach es X.env)).any (·.1)=false:=by rfl):JE X Pn M fr (.Call (.Name x p) (e::es) [] pos) (zuF F fs):=by
 obtain⟨ta,qa,ra⟩:=Y.ex;exact⟨_,zaa I L O U qa Z q he B,zsp J ra⟩
end
section
variable {Pn:PN}{K:AH}{A:AL}{H:Hp}
def yv{i:Int}(h:Bor A H (.d (.int i)) v):v = .int i:=h
def zqs(h:Bor A H (.d (.bl i)) v):v = .bl i:=h
def xb(h:Bor A H (.d (.tup l)) v):∃a xs,v = .ref a/\H a=some (.tup xs)/\IsL (z5 A H) l xs:=by obtain⟨a,xs,e,h1,h2⟩:=h;exact⟨a,xs,e,zn _ _ h1,h2⟩
def yM(h:Bor A H (.d (.lst l)) v):∃a xs,v = .ref a/\H a=some (.lst xs)/\IsL (z5 A H) l xs:=h
def zia(h:Bor A H (.d (.lst l)) v\/Bor A H (.d (.tup l)) v):∃a xs,v = .ref a/\(SqL K H a xs\/SqT K H a xs)/\IsL (z5 A H) l xs:=by
 rcases h with h | h;obtain⟨a,xs,e,h1,h2⟩:=yM h;exact⟨a,xs,e,.inl (.of h1),h2⟩;obtain⟨a,xs,e,h1,h2⟩:=xb h;exact⟨a,xs,e,.inr (.of h1),h2⟩
def fI (C:Int->Int->Prop)(g:Int->Int->Dt):W->W->Mo W:=λx y n Q=>∃i j,x = .d (.int i)/\y = .d (.int j)/\C i j/\Q (.d (g i j)) n
def fI0 (g:Int->Int->Dt):W->W->Mo W:=λx y n Q=>∃i j,x = .d (.int i)/\y = .d (.int j)/\Q (.d (g i j)) n
def f2_I {C:Int->Int->Prop}{g:Int->Int->V}{g':Int->Int->Dt}(B:∀i j G,Is G (g' i j) (g i j)):F2 Pn false (rI C g) (fI C g'):=⟨by
 rintro A H x y L O n Q R U F q P ⟨i,j,I,J,c,r⟩ k;subst I J;exact⟨i,j,yv F,yv q,c,k _ n _ H r (Val.of (B _ _ _)) (Go.refl P) λz=>by cases z⟩⟩
def ziD {g:Int->Int->V}{g':Int->Int->Dt}(B:∀i j G,Is G (g' i j) (g i j)):F2 Pn false (rI0 g) (fI0 g'):=⟨by
 rintro A H x y L O n Q R U F q P ⟨i,j,I,J,r⟩ k;subst I J;exact⟨i,j,yv F,yv q,k _ n _ H r (Val.of (B _ _ _)) (Go.refl P) λz=>by cases z⟩⟩
abbrev fAdd:=fI0 λi j=>.int (i+j)
abbrev fSub:=fI0 λi j=>.int (i - j)
abbrev fDiv:=fI zqc λi j=>.int (i / j)
abbrev fMod:=fI (λ_ j=>0<j) λi j=>.int (i % j)
abbrev fLt:=fI0 λi j=>.bl (decide (i<j))
abbrev fLe:=fI0 λi j=>.bl (decide (i<=j))
abbrev fGt:=fI0 λi j=>.bl (decide (j<i))
def zvx:F2 Pn false (rI0 λi j=>.int (i+j)) fAdd:=ziD λ_ _ _=>rfl
def zvH:F2 Pn false (rI0 λi j=>.int (i - j)) fSub:=ziD λ_ _ _=>rfl
def ztb:F2 Pn false (rI zqc λi j=>.int (i / j)) fDiv:=f2_I λ_ _ _=>rfl
def zvF:F2 Pn false (rI (λ_ j=>0<j) λi j=>.int (i % j)) fMod:=f2_I λ_ _ _=>rfl
def v_lt:F2 Pn false (rI0 λi j=>.bl (decide (i<j))) fLt:=ziD λ_ _ _=>rfl
def v_le:F2 Pn false (rI0 λi j=>.bl (decide (i<=j))) fLe:=ziD λ_ _ _=>rfl
def v_gt:F2 Pn false (rI0 λi j=>.bl (decide (j<i))) fGt:=ziD λ_ _ _=>rfl
abbrev sEq:Dt->Dt->Option Bool
 | .int i,.int j=>some (decide (i=j))
 | .bl i,.bl j=>some (decide (i=j))
 | .str i,.str j=>some (decide (i=j))
 | .non,.non=>some true
 | .non,.int _=>some false
 | .int _,.non=>some false
 | .non,.bl _=>some false
 | .bl _,.non=>some false
 | .non,.str _=>some false
 | .str _,.non=>some false
 | .int _,.str _=>some false
 | .str _,.int _=>some false
 | _,_=>none
def plain:Dt->Option V
 | .int i=>some (.int i)
 | .bl i=>some (.bl i)
 | .str i=>some (.str i)
 | .non=>some .non
 | _=>none
def znl(h:sEq a b=some r):∃x y,plain a=some x/\plain b=some y/\zvo x y=true/\decide (x=y)=r:=by cases a <;> cases b <;> cases h <;> show⟨_,_,rfl,rfl,rfl,?_⟩ <;> first | rfl | exact bc (by lia) | exact decide_eq_decide.mpr (by simp)
def zaE(h:Bor A H (.d a) v)(e:plain a=some x):v=x:=by cases a <;> cases e <;> exact h
def fEq:W->W->Mo W:=λx y n Q=>∃a b r,x = .d a/\y = .d b/\sEq a b=some r/\Q (.d (.bl r)) n
def fNe:W->W->Mo W:=λx y n Q=>∃a b r,x = .d a/\y = .d b/\sEq a b=some r/\Q (.d (.bl (!r))) n
def v_eq:F2 Pn false rEq fEq:=⟨by
 rintro A H x y L O n Q R U B q P ⟨a,b,r,F,I,e,h⟩ k;subst F I;obtain⟨Y,Z,J,p2,s,d⟩:=znl e;obtain rfl:=zaE B J;obtain rfl:=zaE q p2;exact⟨s,k _ n _ H h (Val.of (by rw[d];rfl)) (Go.refl P) λz=>by cases z⟩⟩
def v_ne:F2 Pn false rNe fNe:=⟨by
 rintro A H x y L O n Q R U B q P ⟨a,b,r,F,I,e,h⟩ k;subst F I;obtain⟨Y,Z,J,p2,s,d⟩:=znl e;obtain rfl:=zaE B J;obtain rfl:=zaE q p2;exact⟨s,k _ n _ H h (Val.of (by rw[d];rfl)) (Go.refl P) λz=>by cases z⟩⟩
def zug:W->W->Mo W:=λx y n Q=>∃a b,x = .d a/\y = .d b/\a.eqOk/\b.eqOk/\∀r:Bool,(r=true↔a=b)->Q (.d (.bl r)) n
def zum:W->W->Mo W:=λx y n Q=>∃a b,x = .d a/\y = .d b/\a.eqOk/\b.eqOk/\∀r:Bool,(r=true↔a=b)->Q (.d (.bl (!r))) n
def zvz:F2 Pn false ztG zug:=⟨by
 rintro A H x y U Y n Q R Z B q P ⟨a,b,F,I,J,L,h⟩ k;subst F I;exact⟨a,b,B.is,q.is,J,L,λr O=>k _ n _ H (h r O) (Val.of rfl) (Go.refl P) λz=>by cases z⟩⟩
def zvG:F2 Pn false ztJ zum:=⟨by
 rintro A H x y U Y n Q R Z B q P ⟨a,b,F,I,J,L,h⟩ k;subst F I;exact⟨a,b,B.is,q.is,J,L,λr O=>k _ n _ H (h r O) (Val.of rfl) (Go.refl P) λz=>by cases z⟩⟩
def zfP:W->W->Mo W:=λx y n Q=>∃ (b:Int) (ns:AG),x = .d (.int b)/\(y = .d (.lst (ns.map .int))\/y = .d (.tup (ns.map .int)))/\Q (.d (.bl (!ns.contains b))) n
def zms:F2 Pn false (rIn K true) zfP:=⟨by
 rintro A H x y L O n Q R U q B P ⟨b,ns,F,Y,h⟩ k;subst F;have I:Bor A H (.d (.lst (ns.map .int))) y\/Bor A H (.d (.tup (ns.map .int))) y:=by grind
 obtain⟨a,xs,e,hs,J⟩:=zia (K:=K) I;obtain rfl:=J.of_ints;obtain rfl:=yv q;exact⟨a,_,e,hs,rfl,ziI ns,k _ n _ H h (Val.of (by rw[zlb];rfl)) (Go.refl P) λz=>by cases z⟩⟩
def zuh (q:Bool):W->W->Mo W:=λx y n Q=>∃d ds,x = .d d/\(y = .d (.lst ds)\/y = .d (.tup ds))/\d.eqOk/\(Dt.lst ds).eqOk/\∀b:Bool,(b=true↔d∈ds)->Q (.d (.bl (if q then !b else b))) n
def zvA:F2 Pn false (ztH q) (zuh q):=⟨by
 rintro A H x y Y Z n Q R al F B P ⟨d,ds,I,J,L,O,h⟩ k;subst I;show⟨d,ds,F.is,?_,L,O,λb U=>k _ n _ H (h b U) (Val.of rfl) (Go.refl P) λz=>by cases z⟩;rcases J with rfl | rfl;exact .inl B.is;exact .inr B.is⟩
def zmS{i:Int}(h:IsL G l xs)(e:atI l i=some d):∃v,atI xs i=some v/\Is G d v:=by
 unfold atI at e ⊢;rw[h.length];obtain⟨j,h1,h2⟩:=dF.mp e;obtain⟨v,q,B⟩:=h.getD h2;right
def zuj:W->W->Mo W:=λx y n Q=>∃l i d,x = .d (.tup l)/\y = .d (.int i)/\atI l i=some d/\Q (.d d) n
def zui:W->W->Mo W:=λx y n Q=>∃l i d,x = .d (.lst l)/\y = .d (.int i)/\atI l i=some d/\Q (.d d) n
def zvC:F2 Pn false (zsm K) zuj:=⟨by
 rintro A H x y U Y n Q R Z B q P ⟨l,i,d,F,I,e,h⟩ k;subst F I;obtain⟨a,xs,J,L,O⟩:=xb B;obtain⟨v,h1,h2⟩:=zmS O e;exact⟨a,xs,i,v,J,yv q,.of L,h1,k _ n _ H h (Val.of h2) (Go.refl P) λz=>by cases z⟩⟩
def zvB:F2 Pn false (ztI K) zui:=⟨by
 rintro A H x y U Y n Q R Z B q P ⟨l,i,d,F,I,e,h⟩ k;subst F I;obtain⟨a,xs,J,L,O⟩:=yM B;obtain⟨v,h1,h2⟩:=zmS O e;exact⟨a,xs,i,v,J,yv q,.of L,h1,k _ n _ H h (Val.of h2) (Go.refl P) λz=>by cases z⟩⟩
def zfO:W->W->Mo W:=λx y n Q=>∃l m,x = .d (.tup l)/\y = .d (.tup m)/\l.length+m.length<=lim/\Q (.d (.tup (l++m))) n
def zta:F2 Pn false (zjZ K) zfO:=⟨by
 rintro A H x y wx wy n Q R I J q P ⟨l,m,L,O,z,h⟩ k;subst L O;obtain⟨a,xs,U,Y,B⟩:=xb J;obtain⟨b,ys,Z,hb,F⟩:=xb q;show⟨a,b,xs,ys,U,Z,Y,hb,zc3 (by rw[B.length,F.length];exact z),λp H' g S=>?_⟩;exact k _ n _ H' h (zeo (B.append F) (zu.same S) (I.noT' (zu.same S) g) g) (Go.same P S) λz=>by cases z⟩
def znW:W->W->Mo W:=λx y n Q=>∃l m,x = .d (.lst l)/\y = .d (.lst m)/\l.length+m.length<=lim/\Q (.d (.lst (l++m))) n
def zs9:F2 Pn true zpx znW:=⟨by
 rintro A H x y wx wy n Q R J L q P ⟨l,m,O,U,z,h⟩ k;subst O U;obtain⟨a,xs,Y,Z,B⟩:=yM L;obtain⟨b,ys,eb,hb,F⟩:=yM q;show⟨a,b,xs,ys,Y,eb,Z,hb,zc3 (by rw[B.length,F.length];exact z),λp H' I g S=>?_⟩;exact k _ n _ H' h (x8 (B.append F) (zu.same S) (J.new I) g) (Go.same P S) λz=>uu (B.append F) S I g⟩
def zfY(h:IsL G l xs):∀k:Nat,IsL G (List.replicate k l).flatten (List.replicate k xs).flatten
 | 0=>rfl
 | k+1=>by rw[cQ,cQ,dL,dL];exact h.append (zfY h k)
abbrev lenD:W->Option Nat
 | .d (.lst l)=>some l.length
 | .d (.tup l)=>some l.length
 | _=>none
def zuk:AU->Mo W:=λq n Q=>∃x k,q=[x]/\lenD x=some k/\Q (.d (.int (k:Int))) n
def za9(h:zqb A H [w] vs):∃v,vs=[v]/\Bor A H w v:=by obtain⟨v,r,e,h1,h2⟩:=h;cases h2;exact⟨v,e,h1⟩
def ztZ(h:zqb A H [w,u] vs):∃v y,vs=[v,y]/\Bor A H w v/\Bor A H u y:=by obtain⟨v,r,e,h1,h2⟩:=h;obtain⟨y,rfl,q⟩:=za9 h2;exact⟨v,y,e,h1,q⟩
def zvD:FL Pn false (λxs H Q=>∃x n,xs=[x]/\zqh K x H n/\Q (.int n) H) zuk:=⟨by
 rintro A H xs L n Q R O b P ⟨x,j,J,q,h⟩ k;subst J;obtain⟨v,rfl,I⟩:=za9 b;show⟨v,j,rfl,?_,k _ n _ H h (Val.of rfl) (Go.refl P) λz=>by cases z⟩
 cases x with
 | d x=>
  cases x with
  | lst l=>
   cases q;obtain⟨a,ys,rfl,B,F⟩:=yM I;exact .inl ⟨ys,.of B,F.length.symm⟩
  | tup l=>
   cases q;obtain⟨a,ys,rfl,B,F⟩:=xb I;exact .inr ⟨ys,.of B,F.length.symm⟩
  | _=>cases q
 | _=>cases q⟩
def zul:AU->Mo W:=λq n Q=>∃i j,q=[.d (.int i),.d (.int j)]/\Q (.d (.int (if j > i then j else i))) n
def zvE:FL Pn false (λxs H Q=>∃i j,xs=[.int i,.int j]/\Q (.int (if j > i then j else i)) H) zul:=⟨by
 rintro A H xs I n Q R J b P ⟨i,j,q,h⟩ k;subst q;obtain⟨v,y,rfl,B,F⟩:=ztZ b;exact⟨i,j,by rw[yv B,yv F],k _ n _ H h (Val.of rfl) (Go.refl P) λz=>by cases z⟩⟩
def ziX:∀ {q:List Bool} {xs:AT},IsL G (q.map .bl) xs->xs=q.map V.bl
 | [],_,h=>h
 | b::q,xs,h=>by obtain⟨y,r,rfl,h1,h2⟩:=h;cases h1;rw[ziX h2];rfl
def zuf:AU->Mo W:=λB n Q=>∃q:List Bool,B=[.d (.lst (q.map .bl))]/\Q (.d (.bl (q.all id))) n
def zvy:FL Pn false (λxs H Q=>∃ (p:Addr) (q:List Bool),xs=[.ref p]/\H p=some (.lst (q.map V.bl))/\Q (.bl (q.all id)) H) zuf:=⟨by
 rintro A H xs L n Q R O b P ⟨q,B,h⟩ k;subst B;obtain⟨v,rfl,F⟩:=za9 b;obtain⟨a,ys,rfl,I,J⟩:=yM F;obtain rfl:=ziX J;exact⟨a,q,rfl,I,k _ n _ H h (Val.of rfl) (Go.refl P) λz=>by cases z⟩⟩
def zqR:AU->Mo W:=λq n Q=>∃l,(q=[.d (.lst l)]\/q=[.d (.tup l)])/\Q (.d (.lst l)) n
def ztc:FL Pn true (zj1 K) zqR:=⟨by
 rintro A H xs L n Q R F b P ⟨l,I,h⟩ k
 obtain⟨v,rfl,J⟩:∃v,xs=[v]/\(Bor A H (.d (.lst l)) v\/Bor A H (.d (.tup l)) v):=by
  rcases I with rfl | rfl;obtain⟨v,e,h⟩:=za9 b;exact⟨v,e,.inl h⟩;obtain⟨v,e,h⟩:=za9 b;exact⟨v,e,.inr h⟩
 obtain⟨a,ys,rfl,hs,q⟩:=zia (K:=K) J;exact⟨a,ys,rfl,hs,λp H' B g S=>k _ n _ H' h (x8 q (zu.same S) (F.new B) g) (Go.same P S) λz=>uu q S B g⟩⟩
def zmO:AU->Mo W:=λq n Q=>∃l,(q=[.d (.lst l)]\/q=[.d (.tup l)])/\Q (.d (.tup l)) n
def zp8:FL Pn false (zgl K) zmO:=⟨by
 rintro A H xs O n Q R I b P ⟨l,J,h⟩ k;rcases J with rfl | rfl;obtain⟨v,rfl,B⟩:=za9 b;obtain⟨a,ys,rfl,q,F⟩:=yM B;exact⟨a,ys,rfl,.inl ⟨.of q,λp H' L g S=>k _ n _ H' h (zeo F (zu.same S) (I.new L) g) (Go.same P S) λz=>by cases z⟩⟩;obtain⟨v,rfl,B⟩:=za9 b;obtain⟨a,ys,e,q,F⟩:=id B;subst e;exact⟨a,ys,rfl,.inr ⟨.of (zn _ _ q),k _ n _ H h (Val.of ⟨a,ys,rfl,q,F⟩) (Go.refl P) λz=>by cases z⟩⟩⟩
def ub {α:Type}(xs:List α)(lo hi:AQ):List α:=(xs.drop (HT.sIx xs.length 0 lo)).take (HT.sIx xs.length xs.length hi - HT.sIx xs.length 0 lo)
def zfX{lo hi:AQ}(h:IsL G l xs):IsL G (ub l lo hi) (zcK xs lo hi):=by unfold ub zcK;rw[h.length];exact (h.drop _).take _
def yy {κ:Type}[DecidableEq κ](kvs:List (κ×Dt))(k:κ):Option Dt:=(kvs.find? λq=>decide (q.1=k)).map (·.2)
def uH.look {κ:Type}[DecidableEq κ]{G:Hp}{k:κ}:∀ {kvs:List (κ×Dt)} {ks:List (κ×V)},uH G kvs ks->(yy kvs k=none->za6 ks k=none)/\∀d,yy kvs k=some d->∃v,za6 ks k=some v/\Is G d v
 | [],_,h=>by cases h;exact⟨λ_=>rfl,λd e=>by cases e⟩
 | q::r,ks,⟨v,s,e,h1,h2⟩=>by
  subst e;have F:=uH.look (k:=k) h2;by_cases B:q.1=k;show⟨λz=>?_,λd z=>?_⟩;simp[yy,bI,B] at z;simp[yy,bI,B] at z;subst z;exact⟨v,xg B,h1⟩;have I:yy (q::r) k=yy r k:=by simp[yy,bI,B]
  rw[I,xz B];exact F
end
section
variable {X:Cx}{Pn:PN}{M S:AR}{fr:Bool}{e a b c:Expr}{es:AO}{f fa fb fc:AD}{pos p:Pos}
def zah(q:IxQ X r)(B:F2 Pn fr r F)(I:JB X Pn M a fa)(J:JB X Pn M b fb)(hs:zfD b):JE X Pn M fr (.Subscript a b pos) (zly F fa fb):=by obtain⟨ta,L,O⟩:=I.ex;obtain⟨tb,U,Y⟩:=J.ex;exact⟨_,zpk q L U hs,zmb B O Y⟩
abbrev zoA:Ev->Mo AQ:=λ_ n Q=>Q none n
def zoC (fa:AD):Ev->Mo AQ:=λρ n Q=>fa ρ n λx m=>∃i,x = .d (.int i)/\Q (some i) m
def yN:JO X Pn M none zoA:=⟨_,zjV,λA σ H ρ n Q R E P q k=>k none n H q (Go.refl P)⟩
def yO (h:JB X Pn M e f):JO X Pn M (some e) (zoC f):=by obtain⟨te,q,r⟩:=h.ex;show⟨_,zjW q,λA σ H ρ n Q R E P B k=>?_⟩;show r.run A σ H ρ n _ _ E P B  ?_;rintro w m v H' ⟨i,e,r⟩ F g;subst e;exact⟨i,yv F,k (some i) m H' r g⟩
def zuQ (fa:AD)(fl q:Ev->Mo AQ):AD:=λρ n Q=>fa ρ n λx B=>fl ρ B λlo F=>q ρ F λhi I=>∃l,x = .d (.tup l)/\Q (.d (.tup (ub l lo hi))) I
def zuP (fa:AD)(fl q:Ev->Mo AQ):AD:=λρ n Q=>fa ρ n λx B=>fl ρ B λlo F=>q ρ F λhi I=>∃l,x = .d (.lst l)/\Q (.d (.lst (ub l lo hi))) I
def zeY{fl I:Ev->Mo AQ}(L:JB X Pn M e f)(B:JO X Pn M lo fl)(O:JO X Pn M hi I):JE X Pn M false (.Subscript e (.Slice lo hi none p2) pos) (zuQ f fl I):=by obtain⟨te,U,Y⟩:=L.ex;obtain⟨tl,Z,rl⟩:=B.ex;obtain⟨th,qh,rh⟩:=O.ex;show⟨_,zd5 zpT U Z qh,⟨λA σ H ρ n Q R E P hf k=>?_⟩⟩;show Y.run A σ H ρ n _ _ E P hf λw m v H1 r1 bb q=>?_;show rl A σ H1 ρ m _ _ (E.stay q.st) q.pn r1 λo m2 H2 r2 g2=>?_;show rh A σ H2 ρ m2 _ _ ((E.stay q.st).stay g2.st) g2.pn r2  ?_;rintro o3 m3 H3 ⟨l,e,r3⟩ F;subst e;have g:=(q.trans g2).trans F;obtain⟨ad,xs,rfl,ha,B⟩:=xb (bb.stay (g2.trans F).st);exact⟨ad,xs,rfl,ha,λp H' J S=>k _ m3 _ H' r3 (zeo (zfX B) (zu.same S) (Al.noT' (E.stay g.st).al (zu.same S) J) J) (g.trans (Go.same F.pn S)) λz=>by cases z⟩
def zeX{fl J:Ev->Mo AQ}(L:JB X Pn M e f)(q:JO X Pn M lo fl)(O:JO X Pn M hi J):JE X Pn M true (.Subscript e (.Slice lo hi none p2) pos) (zuP f fl J):=by obtain⟨te,U,Y⟩:=L.ex;obtain⟨tl,Z,rl⟩:=q.ex;obtain⟨th,qh,rh⟩:=O.ex;show⟨_,zd5 zki U Z qh,⟨λA σ H ρ n Q R E P hf k=>?_⟩⟩;show Y.run A σ H ρ n _ _ E P hf λw m v H1 r1 bb B=>?_;show rl A σ H1 ρ m _ _ (E.stay B.st) B.pn r1 λo m2 H2 r2 g2=>?_;show rh A σ H2 ρ m2 _ _ ((E.stay B.st).stay g2.st) g2.pn r2  ?_;rintro o3 m3 H3 ⟨l,e,r3⟩ F;subst e;have g:=(B.trans g2).trans F;obtain⟨ad,xs,rfl,ha,q⟩:=yM (bb.stay (g2.trans F).st);show⟨ad,xs,rfl,.of ha,λp I=>?_⟩;have S:=y3.upd (o:=.lst (zcK xs o o3)) I;exact k _ m3 _ _ r3 (x8 (zfX q) (zu.same S) ((E.stay g.st).new I) zj) (g.trans (Go.same F.pn S)) λz=>(uu (zfX q) S I zj).back g.st
def zfZ:∀ {ds:AS} {xs:AT},IsL G ds xs->IsL G ds.reverse xs.reverse
 | [],_,h=>by cases h;rfl
 | d::ds,xs,h=>by obtain⟨x,r,rfl,h1,h2⟩:=h;rw[cJ,cJ];exact (zfZ h2).append (IsL.one h1)
def zoF (fa:AD):AD:=λρ n Q=>fa ρ n λx m=>∃l,x = .d (.lst l)/\Q (.d (.lst l.reverse)) m
def zmV(I:JB X Pn M e f):JE X Pn M true (.Subscript e (.Slice none none (some (.UnaryOp .USub (.Constant (.int 1) j p4) p3)) p2) pos) (zoF f):=by obtain⟨te,J,L⟩:=I.ex;show⟨_,zpm J,⟨λA σ H ρ n Q R E P O k=>?_⟩⟩;show L.run A σ H ρ n _ _ E P O  ?_;rintro w m v H1 ⟨l,e,r⟩ U g;subst e;obtain⟨Y,xs,rfl,Z,q⟩:=yM U;exact⟨Y,xs,rfl,Z,λp H' B F S=>k _ m _ H' r (x8 (zfZ q) (zu.same S) ((E.stay g.st).new B) F) (g.trans (Go.same g.pn S)) λz=>(uu (zfZ q) S B F).back g.st⟩
abbrev zuD:W->Option Key
 | .d (.int i)=>some (Sum.inl i)
 | .d (.str x)=>some (Sum.inr x)
 | _=>none
abbrev prD (q:Int×Dt):Dt:=.tup [.int q.1,q.2]
def kvD (q:Int×Dt):Key×Dt:=(Sum.inl q.1,q.2)
def spV (k:Nat)(fr:Bool)(F:PN->AU->Mo W):Sp:=λvs H Q _=>∃Pn A q n R,Al A H/\zbH A H q vs/\q.length=k/\ua Pn A n H/\F Pn q n R/\∀w m v H',R w m->Val A H' w v->Go Pn A H m H'->(fr=true->FrV A H H' w v)->Q v H'
def mFn (k:Nat)(F:AU->Mo W)(fa:AC):AD:=λρ n Q=>fa ρ n λq m=>q.length=k/\F q m Q
def zvj(q:RA Pn M ta fs):RE Pn M fr (zfv (spV k fr F) [] E0 ta) (mFn k (F Pn) fs):=⟨λA σ H ρ n Q R E P B I=>by show q.run A σ H ρ n _ _ E P B  ?_;rintro J m vs H1 ⟨L,r⟩ b g;rw[eo];exact⟨Pn,A,J,m,R,(E.stay g.st).al,b,L,g.pn,r,λw O v H' h1 h2 U Y=>I w O v H' h1 h2 (g.trans U) λz=>(Y z).back g.st⟩⟩
def yX(D:Dfn X.K X.mg x st ps fA fd)(G:FnOk X.prog X.w X.K X.mg X.base CX0 j fA fd ps (spV k fr F))(L:Room J X.A)(O:JA X Pn M (e::es) fs)(q:j<=J:=by ext)(U:Gl X x:=by rfl)(B:Ah x:=by ext)(Y:starEach (e::es) X.env=(false,eval e X.env)::starEach es X.env:=by rfl)(I:(backTo pos (starEach es X.env)).any (·.1)=false:=by rfl) :
  JE X Pn M fr (.Call (.Name x p) (e::es) [] pos) (mFn k (F Pn) fs):=by
 obtain⟨ta,Z,ra⟩:=O.ex;exact⟨_,zl2 D G L Z q U B Y I,zvj ra⟩
abbrev W.flat (fr:Bool):W->Bool
 | .d (.lst l)=>fr&&Dt.noLs l
 | .d x=>x.noL
 | .pen _=>true
 | .dk _=>false
 | .dt _=>false
 | .ss _ _ _=>false
 | .df _=>false
 | .kf _=>false
 | .fl _=>false
def ua.less(h:ua Pn A n H)(s:∀a,A' a->A a):ua Pn A' n H:=by
 show⟨?_,Pn.J.grow h.2 λa z=>.inl (s a z)⟩;have h:=h.1;split at h;trivial;exact⟨h.1,λz=>h.2.1 (s _ z),λz=>h.2.2 (s _ z)⟩
end
structure JG (X:Cx)(S M:AR)(e:Expr)(mg:W->Ev->(Ev->Prop)->Prop):Prop where
 ex:∃g,QG X e g/\RG S M g mg
structure JGs (X:Cx)(S M:AR)(es:AO)(mg:AS->Ev->(Ev->Prop)->Prop):Prop where
 ex:∃g,QGs X es g/\RGs S M g mg
structure JI (X:Cx)(Pn:PN)(M:AR)(ow:Bool)(tg e:Expr)(f:AC):Prop where
 ex:∃wi,QI X tg e wi/\RI Pn M ow wi f
structure JTs (X:Cx)(Pn:PN)(M:AR)(es:AO)(f:Ev->Mo Bool):Prop where
 ex:∃t,QTs X es t/\RT Pn M t f
section
variable {X:Cx}{Pn:PN}{M S:AR}{fr:Bool}{e a b c:Expr}{es:AO}{f fa fb fc:AD}{pos p:Pos}
def gN (i:Nat):W->Ev->(Ev->Prop)->Prop:=λw ρ Q=>Q (ρ.set i (some w))
def gNl:AS->Ev->(Ev->Prop)->Prop:=λds ρ Q=>ds=[]/\Q ρ
def gCn (g:W->Ev->(Ev->Prop)->Prop)(u:AS->Ev->(Ev->Prop)->Prop):AS->Ev->(Ev->Prop)->Prop:=λds ρ Q=>∃d r,ds=d::r/\g (.d d) ρ λq=>u r q Q
def gTp (n:Nat)(u:AS->Ev->(Ev->Prop)->Prop):W->Ev->(Ev->Prop)->Prop:=λw ρ Q=>∃ds,w = .d (.tup ds)/\ds.length=n/\u ds ρ Q
def EnvR.set(E:EnvR A M σ H ρ)(hi:i∉M)(h:Val A H w v):EnvR A M (σ.set i (some v)) H (ρ.set i (some w)) where
 len:=by rw[a8,a8];exact E.len
 val:=λj u e=>by
  by_cases q:j=i;subst q
  have J:j<ρ.length:=by
   have:=(ac.mp e).1;right
  rw[aJ J] at e;cases e;exact⟨v,aJ (by rw[E.len];exact J),λ_=>h,λz=>absurd z hi⟩;rw[ao (Ne.symm q)] at e ⊢;exact E.val j u e
 dis:=λj k u Z ad q L B O U Y=>by have F:i≠j:=λz=>hi (z ▸ q);have I:i≠k:=λz=>hi (z ▸ L);rw[ao F] at O Y;rw[ao I] at U ⊢;exact E.dis j k u Z ad q L B O U Y
 al:=E.al
def zeb(hi:i∉M)(hs:i∉S):RG S M (uT i) (gN i):=⟨λA σ H ρ v w Q R E h r k=>k _ _ r (E.set hi h) λj q=>⟨ao λ(z:i=j)=>hs (by rw[z];exact q),ao λ(z:i=j)=>hs (by rw[z];exact q)⟩⟩
def zi(q:X.N.Nodup)(B:X.N[i]?=some x:=by rfl)(F:Loc X.env.scope x:=by first | exact Or.inl rfl | exact Or.inr rfl)(hi:i∉M:=by ext)(hs:i∉S:=by ext)(I:X.fn x=true\/X.env.scope.names.lookup x=some .local:=by walk_at "l"):JG X S M (.Name x pos) (gN i):=⟨_,zck q B F I,zeb hi hs⟩
def xt:JGs X S M [] gNl:=⟨_,zpp,⟨by
 rintro A σ H ρ vs ds Q R E h ⟨e,r⟩ k;subst e;exact⟨h,k σ ρ r E λ_ _=>⟨rfl,rfl⟩⟩⟩⟩
def zw(h1:JG X S M e g)(h2:JGs X S M es u)(hs:(assignEach (e::es) X.env).map (·.2)=assign e X.env::(assignEach es X.env).map (·.2):=by rfl):JGs X S M (e::es) (gCn g u):=by obtain⟨t1,O,U⟩:=h1.ex;obtain⟨t2,Y,Z⟩:=h2.ex;show⟨_,zl4 O Y hs,⟨ ?_⟩⟩;rintro A σ H ρ vs ds Q R E h ⟨d,r,e,hg⟩ k;subst e;obtain⟨v,s,rfl,hv,hr⟩:=h;show⟨v,s,rfl,?_⟩;show U.run A σ H ρ v _ _ _ E (Val.of hv) hg λq B hu E' J=>?_;exact Z.run A q H B s _ _ _ E' hr hu λF I hR E2 L=>k F I hR E2 λi hi=>⟨(L i hi).1.trans (J i hi).1,(L i hi).2.trans (J i hi).2⟩
def uL {k n:Nat}{u:AS->Ev->(Ev->Prop)->Prop}(K:AH)(I:X.K=K)(J:X.calm=true)(h:JGs X S M es u)(L:(assignEach es X.env).length=n:=by rfl)(q:(assignEach es X.env).findIdx? (·.1)=none:=by rfl):JG X S M (.Tuple es k pos) (gTp n u):=by obtain⟨t1,O,U⟩:=h.ex;show⟨_,zpo K I J O L q,⟨ ?_⟩⟩;rintro A σ H ρ v w Q R E h ⟨ds,e,Y,Z⟩ kk;subst e;obtain⟨ad,xs,rfl,B,F⟩:=h;exact⟨ad,xs,rfl,.of (zn _ _ B),by rw[F.length];exact Y,U.run A σ H ρ xs ds _ _ E F Z kk⟩
def zuK (fa:AD):AC:=λρ n Q=>fa ρ n λx m=>∃l,x = .d (.lst l)/\Q (l.map W.d) m
def zuL (fa:AD):AC:=λρ n Q=>fa ρ n λx m=>∃l,x = .d (.tup l)/\Q (l.map W.d) m
def zi5 {G G':Hp}{l:AS}{xs:AT}{i:Nat}{w:W}(h:IsL G l xs)(e:(l.map W.d)[i]?=some w)(s:zu G G'):∃d x,w = .d d/\xs[i]?=some x/\Is G' d x:=by rw[aj] at e;obtain⟨d,h1,rfl⟩:=aA.mp e;obtain⟨x,h2,q⟩:=h.getD h1;exact⟨d,x,rfl,h2,q.stay s⟩
def zlh(h:z5 A H q=some (.lst xs))(B:IsL (z5 A H) l xs):ItV false A H (Itl K q) (l.map W.d) where
 one:=λi w A2 H2 e s _ _=>by obtain⟨d,x,rfl,F,I⟩:=zi5 B e s;have g:=zn _ _ (s.lst h);show⟨⟨xs,x,.of g,F⟩,?_⟩;rintro y H3 ⟨J,L⟩;subst J;have:=L xs (.of g);rw[F] at this;cases this;exact⟨λ_ _ z=>z,Val.of I⟩
 stop:=λA2 H2 s _=>⟨xs,.of (zn _ _ (s.lst h)),by rw[ab,B.length];exact ai _⟩
def zog(h:z5 A H q=some (.tup xs))(B:IsL (z5 A H) l xs):ItV false A H (Itt K q) (l.map W.d) where
 one:=λi w A2 H2 e s _ _=>by obtain⟨d,x,rfl,F,I⟩:=zi5 B e s;have g:=zn _ _ (s.tup h);show⟨⟨xs,x,.of g,F⟩,?_⟩;rintro y H3 ⟨J,L⟩;subst J;have:=L xs (.of g);rw[F] at this;cases this;exact⟨λ_ _ z=>z,Val.of I⟩
 stop:=λA2 H2 s _=>⟨xs,.of (zn _ _ (s.tup h)),by rw[ab,B.length];exact ai _⟩
def yw(K:AH)(F:X.K=K)(h:JE X Pn M fr e f):JI X Pn M false tg e (zuK f):=by obtain⟨te,q,r⟩:=h.ex;show⟨_,zhb K F q,⟨λA σ H ρ n Q R E P I k=>?_⟩⟩;show r.run A σ H ρ n _ _ E P I  ?_;rintro w m v H1 ⟨l,e,r⟩ J g _;subst e;obtain⟨L,xs,rfl,B,O⟩:=J;exact⟨L,rfl,⟨xs,.of (zn _ _ B)⟩,k _ m _ H1 r (zlh B O) g⟩
def zaN(K:AH)(F:X.K=K)(h:JE X Pn M fr e f):JI X Pn M false tg e (zuL f):=by obtain⟨te,q,r⟩:=h.ex;show⟨_,zpr K F q,⟨λA σ H ρ n Q R E P I k=>?_⟩⟩;show r.run A σ H ρ n _ _ E P I  ?_;rintro w m v H1 ⟨l,e,r⟩ J g _;subst e;obtain⟨L,xs,rfl,B,O⟩:=J;exact⟨L,rfl,⟨xs,.of (zn _ _ B)⟩,k _ m _ H1 r (zog B O) g⟩
def zev (lo:Int)(n:Nat):AU:=(List.range n).map λi:Nat=>W.d (.int (lo+i))
def zof{lo:Int}:ItV false A H (Itr lo n) (zev lo n) where
 one:=λi w A2 H2 e s _ _=>by unfold zev at e;rw[aj] at e;obtain⟨j,h1,rfl⟩:=aA.mp e;obtain⟨hi,h2⟩:=ac.mp h1;rw[bF] at h2;subst h2;rw[az] at hi;show⟨hi,?_⟩;rintro y H3 ⟨q,B⟩;subst q B;exact⟨λ_ _ z=>z,Val.of rfl⟩
 stop:=λA2 H2 s _=>by
  change n<=(zev lo n).length;unfold zev;right
def ztC (fa:AC):AC:=λρ n Q=>fa ρ n λq m=>∃j:Int,q=[.d (.int j)]/\j<=1000000/\-1000000<=j/\Q (zev 0 j.toNat) m
def yR(B:Gl X "range")(F:X.mg "range" = none)(I:JAB X Pn M [a] fs)(hs:starEach [a] X.env=[(false,eval a X.env)]:=by rfl):JI X Pn M false tg (.Call (.Name "range" p) [a] [] pos) (ztC fs):=by obtain⟨te,q,r⟩:=I.ex;show⟨_,zfk B F q hs,⟨λA σ H ρ n Q R E P J k=>?_⟩⟩;show r.run A σ H ρ n _ _ E P J  ?_;rintro U m vs H1 ⟨j,e,Y,Z,r⟩ L g;subst e;obtain⟨v,rfl,O⟩:=za9 L;obtain rfl:=yv O;exact⟨j,rfl,by lia,by lia,k _ m _ H1 r zof g⟩
def enW:Nat->AS->AU
 | _,[]=>[]
 | k,x::r=>.d (.tup [.int k,x])::enW (k+1) r
def zdE:∀ (l:AS) (k i:Nat),(enW k l)[i]?=(l[i]?).map λx=>W.d (.tup [.int ((k+i:Nat):Int),x])
 | [],_,_=>by simp[enW]
 | x::r,k,0=>by simp[enW]
 | x::r,k,i+1=>by have:=zdE r (k+1) i;simp only[enW,bt,this];rw[show k+1+i=k+(i+1) by lia]
def ziy:∀ (l:AS) (k:Nat),(enW k l).length=l.length
 | [],_=>rfl
 | x::r,k=>by rw[enW,aO,aO,ziy r]
def ziW:AS->AS->AU
 | x::r,y::s=>.d (.tup [x,y])::ziW r s
 | _,_=>[]
def zkD:∀ (l k:AS) (i:Nat),l.length=k.length->(ziW l k)[i]?=(l[i]?).bind λx=>(k[i]?).map λy=>W.d (.tup [x,y])
 | [],[],_,_=>by simp[ziW]
 | [],_::_,_,h=>by simp at h
 | _::_,[],_,h=>by simp at h
 | x::r,y::s,0,_=>by simp[ziW]
 | x::r,y::s,i+1,h=>by have:=zkD r s i (by simpa using h);simp only[ziW,bt,this]
def zkE:∀ (l k:AS),l.length=k.length->(ziW l k).length=l.length
 | [],[],_=>rfl
 | [],_::_,h=>by simp at h
 | _::_,[],h=>by simp at h
 | x::r,y::s,h=>by rw[ziW,aO,aO,zkE r s (by simpa using h)]
def zli(q:l.length=k.length)(h:∀ {A2:AL} {H2:Hp},zu (z5 A H) (z5 A2 H2)->SqV kb K H2 J xs)(O:IsL (z5 A H) l xs)(h':z5 A H L=some (.tup ys))(hk:IsL (z5 A H) k ys):ItV false A H (Izg kb K J L) (ziW l k) where
 one:=λi w A2 H2 e s _ hA=>by rw[zkD _ _ _ q] at e;obtain⟨d,h1,e⟩:=dF.mp e;obtain⟨d',B,rfl⟩:=aA.mp e;obtain⟨x,U,hd⟩:=O.getD h1;obtain⟨y,Y,F⟩:=hk.getD B;have g:=h s;have g':=zn _ _ (s.tup h');show⟨⟨xs,ys,x,y,g,.of g',U,Y⟩,?_⟩;rintro v H3 ⟨T,z,z',e1,Z,e3,hz,I⟩;subst e1 e3;have q1:=hz xs g;have q2:=I ys (.of g');rw[U] at q1;rw[Y] at q2;cases q1;cases q2;have S:=y3.upd (o:=.tup [x,y]) Z;exact⟨S,Val.of ⟨T,_,rfl,zy (hA T Z) zj,_,_,rfl,(hd.stay s).stay (zu.same (uV S)),_,_,rfl,(F.stay s).stay (zu.same (uV S)),rfl⟩⟩
 stop:=λA2 H2 s _=>⟨xs,h s,by rw[zkE _ _ q,O.length];exact ai _⟩
def zcF (ρ:Ev)(cix:List (Option Nat)):Ev:=cix.map λo=>match o with
 | none=>none
 | some i=>(ρ[i]?).join
def yP (M:AR)(cix:List (Option Nat)):AR:=(List.range cix.length).filter λk=>match cix[k]? with
 | some (some i)=>M.contains i
 | _=>false
def zbN:k∈yP M cix↔∃i,cix[k]?=some (some i)/\i∈M:=by
 unfold yP;rw[bu,aW];constructor;rintro⟨h1,h2⟩;rw[ah h1] at h2 ⊢
 cases e:cix[k] with
 | none=>rw[e] at h2;cases h2
 | some i=>rw[e] at h2;exact⟨i,rfl,by simpa using h2⟩
 rintro⟨i,h1,h2⟩;exact⟨(ac.mp h1).1,by right⟩
def zba {α:Type}{l:List (Option α)}{cix:List (Option Nat)}{k:Nat}{x:α}:(cix.map λo=>match o with | none=>none | some i=>(l[i]?).join)[k]?=some (some x)↔∃i,cix[k]?=some (some i)/\l[i]?=some (some x):=by
 rw[aj]
 cases e:cix[k]? with
 | none=>simp
 | some o=>
  cases o with
  | none=>simp
  | some i=>
   simp only[Option.map_some,Option.some.injEq];constructor;intro h;show⟨i,rfl,?_⟩
   cases q:l[i]? with
   | none=>rw[q] at h;cases h
   | some z=>rw[q] at h;cases z with
    | none=>cases h
    | some y=>cases h;rfl
   right
def EnvR.cap(E:EnvR A M σ H ρ)(U:(cix.filterMap id).Nodup):EnvR A (yP M cix) (zaF σ cix) H (zcF ρ cix) where
 len:=by unfold zaF zcF;rw[ab,ab]
 val:=λk w e=>by
  obtain⟨i,h1,h2⟩:=zba.mp e;obtain⟨v,Y,Z,s3⟩:=E.val i w h2;show⟨v,zba.mpr ⟨i,h1,Y⟩,λz=>Z λy=>z (zbN.mpr ⟨i,h1,y⟩),λz=>?_⟩;obtain⟨j,h3,h4⟩:=zbN.mp z;right
 dis:=λk k' w u ad hk ag an e1 e2 Y Z=>by
  obtain⟨i,h1,h2⟩:=zba.mp e1;obtain⟨i',q,ap⟩:=zba.mp e2;obtain⟨j,h3,h4⟩:=zba.mp Y;obtain⟨j',F,as⟩:=zba.mp Z;rw[h1] at h3;cases h3;rw[q] at F;cases F;obtain⟨m,m1,m2⟩:=zbN.mp hk;rw[h1] at m1;cases m1;obtain⟨m',I,av⟩:=zbN.mp ag;rw[q] at I;cases I;show E.dis _ _ w u ad m2 av (λz=>?_) h2 ap h4 as;subst z
  have key:∀ (l:List (Option Nat)) (a b:Nat) (x:Nat),(l.filterMap id).Nodup->l[a]?=some (some x)->l[b]?=some (some x)->a=b:=by
   intro l
   induction l with
   | nil=>intro a b x _ h;simp at h
   | cons o l ih=>
    intro a b x U J L;have O:∀ (l:List (Option Nat)) (a:Nat),l[a]?=some (some x)->x∈l.filterMap id:=λl a h=>cU.mpr ⟨some x,ak h,rfl⟩
    cases o with
    | none=>
     have a0:(l.filterMap id).Nodup:=by simpa using U
     cases a with
     | zero=>simp at J
     | succ a=>
      cases b with
      | zero=>simp at L
      | succ b=>rw[ih a b x a0 (by simpa using J) (by simpa using L)]
    | some y=>
     have B:y∉l.filterMap id/\(l.filterMap id).Nodup:=by right
     cases a with
     | zero=>
      have a1:y=x:=by simpa using J
      subst a1
      cases b with
      | zero=>rfl
      | succ b=>exact absurd (O l b (by simpa using L)) B.1
     | succ a=>
      cases b with
      | zero=>
       have a2:y=x:=by simpa using L
       subst a2;exact absurd (O l a (by simpa using J)) B.1
      | succ b=>rw[ih a b x B.2 (by simpa using J) (by simpa using L)]
  exact an (key cix k k' _ U h1 q)
 al:=E.al
def EnvR.more {A:AL}{σ:St}{H H':Hp}{ρ:Ev}(E:EnvR A M σ H ρ){p:Addr}{o:HO}(s:zu H H')(n:Fr H p)(g:H' p=some o)(B:NP o)(F:Mt o):EnvR (λb=>A b\/b=p) M σ H' ρ where
 len:=E.len
 val:=λi w e=>by obtain⟨v,h1,h2,q⟩:=E.val i w e;show⟨v,h1,λz=>WAt.up (yG s n) (yG s n) (h2 z),λz=>?_⟩;obtain⟨a,e,I,J,L⟩:=q z;exact⟨a,e,.inl I,WAt.up s (yG s n) J,L⟩
 dis:=E.dis
 al:=λa h=>by
  rcases h with h | h;obtain⟨o,h1,h2,q⟩:=E.al a h;exact⟨o,s _ _ h1 h2,h2,q⟩;subst h;exact⟨o,g,B,F⟩
def EnvR.upd{A:AL}{σ:St}{H:Hp}{ρ:Ev}(E:EnvR A M σ H ρ){p:Addr}(Y:A p)(hn:∀i w,i∈M->ρ[i]?=some (some w)->σ[i]?≠some (some (.ref p)))(np:NP o)(nt:Mt o):EnvR A M σ (L2.upd H p o) ρ where
 len:=E.len
 val:=λi w e=>by
  obtain⟨v,h1,h2,h3⟩:=E.val i w e;show⟨v,h1,λz=>?_,λz=>?_⟩;change WAt _ _ _ _;rw[yp Y];exact h2 z;obtain⟨a,F,h4,L,U⟩:=h3 z;have J:a≠p:=λq=>hn i w z e (by rw[h1,F,q]);show⟨a,F,h4,?_,U⟩;change WAt _ _ _ _;rw[yp Y]
  cases w with
  | d x=>
   cases x with
   | lst l=>obtain⟨O,xs,B,I,g2⟩:=L;rw[F] at B;cases B;exact⟨a,xs,F,by rw[zd J];exact I,g2⟩
   | dct=>obtain⟨O,xs,B,I,g2⟩:=L;rw[F] at B;cases B;exact⟨a,xs,F,by rw[zd J];exact I,g2⟩
   | _=>cases U
  | pen p=>cases U
  | dk k=>obtain⟨O,xs,B,I,g2⟩:=L;rw[F] at B;cases B;exact⟨a,xs,F,by rw[zd J];exact I,g2⟩
  | dt k=>obtain⟨O,xs,B,I,g2⟩:=L;rw[F] at B;cases B;exact⟨a,xs,F,by rw[zd J];exact I,g2⟩
  | ss P w k=>obtain⟨O,xs,B,I,g2⟩:=L;rw[F] at B;cases B;exact⟨a,xs,F,by rw[zd J];exact I,g2⟩
  | df k=>obtain⟨O,ob,xs,B,I,g2⟩:=L;rw[F] at B;cases B;exact⟨a,ob,xs,F,by right,g2⟩
  | kf k=>obtain⟨O,ob,xs,B,I,g2⟩:=L;rw[F] at B;cases B;exact⟨a,ob,xs,F,by right,g2⟩
  | fl k=>obtain⟨O,ob,xs,B,I,g2⟩:=L;rw[F] at B;cases B;exact⟨a,ob,xs,F,by right,g2⟩
 dis:=E.dis
 al:=λa h=>by
  by_cases Z:a=p;subst Z;exact⟨o,zj,np,nt⟩;rw[zd Z];exact E.al a h
def ua.upd{A:AL}{H:Hp}{p:Addr}(h:ua Pn A n H)(B:A p):ua Pn A n (L2.upd H p o):=by
 show⟨?_,Pn.J.upd h.2 B⟩;have h:=h.1;split at h;trivial
 ·show⟨?_,h.2⟩;rename_i q c ns _;obtain⟨h1,h2,F⟩:=h;have I:c≠p:=λz=>h2 (z ▸ B);have L:q≠p:=λz=>F (z ▸ B);obtain⟨a,l,O,g2,U,Y⟩:=h1.ob;exact⟨⟨a,l,by rw[zd L];exact O,g2,U,Y⟩,by rw[zd I];exact h1.ls,h1.len⟩
end
structure JS (X:Cx)(Pn:PN)(S M:AR)(fr:Bool)(st:Stmt)(fs:Ms):Prop where
 ex:∃ts,QS X st ts/\RS Pn S M fr ts fs
structure JSs (X:Cx)(Pn:PN)(S M:AR)(fr:Bool)(st:List Stmt)(fs:Ms):Prop where
 ex:∃ts,QSs X st ts/\RS Pn S M fr ts fs
section
variable {X:Cx}{Pn:PN}{M S:AR}{fr fr':Bool}{e a b c:Expr}{es:AO}{f fa fb fc:AD}{pos p:Pos}
def ua.grow'(h:ua Pn A n H)(h':ua Pn A m H')(F:Fr H q)(g:H' q=some o)(B:NP o)(I:Mt o):ua Pn (λb=>A b\/b=q) m H':=by
 show⟨?_,Pn.J.grow h'.2 λa z=>z.imp_right λe=>⟨o,by rw[e];exact g,B,I⟩⟩;have h:=h.1;have h':=h'.1;revert h h'
 cases Pn.pn with
 | none=>exact λ_ _=>trivial
 | some x=>
  obtain⟨p,c,ns⟩:=x;intro h h';show⟨h'.1,λz=>z.elim h'.2.1 λz=>?_,λz=>z.elim h'.2.2 λz=>?_⟩;subst z;exact F _ h.1.ls NP.lst;subst z;obtain⟨a,l,e,_⟩:=h'.1.ob;rw[e] at g;cases g;have:=B _ rfl;rw[zoW] at this;cases this
def zku(h:∀C s H ex,JE (zt X scope N C s H ex) Pn M fr e f):∃te,(∀C s H ex,QE (zt X scope N C s H ex) e te)/\RE Pn M fr te f:=
 ⟨λσ H Q=>∀C s H0 ex,(h C s H0 ex).ex.choose σ H Q,λC s H0 ex=>⟨λpins s' σ H Q I z=>(h C s H0 ex).ex.choose_spec.1.run pins s' σ H Q I (z C s H0 ex)⟩,
  ⟨λA σ H ρ n Q R E P q k C s H0 ex=>(h C s H0 ex).ex.choose_spec.2.run A σ H ρ n Q R E P q k⟩⟩
def zkw(h:∀C s H ex,JTs (zt X scope N C s H ex) Pn M es q):∃te,(∀C s H ex,QTs (zt X scope N C s H ex) es te)/\RT Pn M te q:=
 ⟨λσ H Q=>∀C s H0 ex,(h C s H0 ex).ex.choose σ H Q,λC s H0 ex=>⟨λpins s' σ H Q I z=>(h C s H0 ex).ex.choose_spec.1.run pins s' σ H Q I (z C s H0 ex)⟩,
  ⟨λA σ H ρ n Q R E P B k C s H0 ex=>(h C s H0 ex).ex.choose_spec.2.run A σ H ρ n Q R E P B k⟩⟩
def zkv(h:∀C s H ex,JG (zt X scope N C s H ex) S M e mg):∃g,(∀C s H ex,QG (zt X scope N C s H ex) e g)/\RG S M g mg:=
 ⟨λv σ H Q=>∀C s H0 ex,(h C s H0 ex).ex.choose v σ H Q,λC s H0 ex=>⟨λpins s' σ H v u Q I q z=>(h C s H0 ex).ex.choose_spec.1.run pins s' σ H v u Q I q (z C s H0 ex)⟩,
  ⟨λA σ H ρ v w Q R E B F k C s H0 ex=>(h C s H0 ex).ex.choose_spec.2.run A σ H ρ v w Q R E B F k⟩⟩
def zeG (mg:W->Ev->(Ev->Prop)->Prop)(O:Ev->Mo Bool)(U:AD)(J:Ev)(Q:AV):AU->Nat->Prop:=λl Y=>l.length<=lim/\∃I:Nat->Ev->Nat->AS->Prop,I 0 J Y []/\
 (∀i w q F acc,l[i]?=some w->I i q F acc->mg w q λB=>O B F λb L=>if b=true then U B L λx Z=>∃d,x = .d d/\I (i+1) B Z (acc++[d]) else I (i+1) B L acc)/\
 ∀ q F acc,I l.length q F acc->Q (.d (.lst acc)) F
abbrev zou (q:AC) (mg:W->Ev->(Ev->Prop)->Prop) (B:Ev->Mo Bool) (F:AD) (cix:List (Option Nat)):AD:=λρ n Q=>q ρ n (zeG mg B F (zcF ρ cix) Q)
def zj4(hn:(cix.filterMap id).Nodup)(hi:RI Pn M ow wi fi)(hg:RG (yP M cix) (yP M cix) g mg)(ht:RT Pn (yP M cix) ti ft)(he:RE Pn (yP M cix) fr' te fe):RE Pn M true (zkk wi g ti te cix) (zou fi mg ft fe cix):=⟨λA σ H ρ n Q R E P hf k=>by
 show hi.run A σ H ρ n _ _ E P hf λl m J H1 ⟨hz,I,i0,it,ie⟩ iv g1=>λacc B=>?_;have E1:=E.stay g1.st;have E2:=(E1.cap hn).more (zu.upd (o:=.lst []) B) (Fr.of B) zj NP.lst rfl;have P2:ua Pn (λb=>A b\/b=acc) m (L2.upd H1 acc (.lst [])):=g1.pn.grow' (g1.pn.same (y3.upd B)) (Fr.of B) zj NP.lst rfl;have a2:∀k w,k∈yP M cix->(zcF ρ cix)[k]?=some (some w)->(zaF σ cix)[k]?≠some (some (.ref acc)):=λk w hk hw z=>by obtain⟨v,s1,_,s3⟩:=(E1.cap hn).val k w hw;obtain⟨a,e,hA,_⟩:=s3 hk;rw[z] at s1;cases s1;cases e;exact E1.new B hA
 have key:∀ L F H',EnvR (λb=>A b\/b=acc) (yP M cix) L H' F->(∀k∈yP M cix,L[k]?=(zaF σ cix)[k]?/\F[k]?=(zcF ρ cix)[k]?)->∀k w,k∈yP M cix->F[k]?=some (some w)->L[k]?≠some (some (.ref acc)):=λL F H' E' ap k w hk hw z=>by right
 show⟨λi mm L H'=>mm=l.length - i/\i<=l.length/\∃ F n' q xs,EnvR (λb=>A b\/b=acc) (yP M cix) L H' F/\ua Pn (λb=>A b\/b=acc) n' H'/\I i F n' q/\H' acc=some (.lst xs)/\IsL (z5 (λb=>A b\/b=acc) H') q xs/\q.length<=i/\zu (z5 A H1) (z5 (λb=>A b\/b=acc) H')/\zu H1 H'/\(∀k∈yP M cix,L[k]?=(zaF σ cix)[k]?/\F[k]?=(zcF ρ cix)[k]?),
  ⟨l.length,by simp,aK _,_,m,[],[],E2,P2,i0,zj,rfl,ai _,yG (zu.upd B) (Fr.of B),zu.upd B,λk hk=>⟨rfl,rfl⟩⟩,?_⟩
 rintro i mm L H' ⟨rfl,a3,F,n',q,xs,E',P',hI,ad,U,a4,st,s1,ap⟩;by_cases av:i<l.length
 show Or.inr ?_;have an:l[i]?=some l[i]:=ah av;obtain⟨go,yl⟩:=iv.one i l[i] _ H' an st (λ_=>s1) λp hp=>E'.new hp
 show⟨go,λas H2=>∃ F n' q xs,EnvR (λb=>A b\/b=acc) (yP M cix) as H2 F/\ua Pn (λb=>A b\/b=acc) n' H2/\I (i+1) F n' q/\H2 acc=some (.lst xs)/\IsL (z5 (λb=>A b\/b=acc) H2) q xs/\q.length<=i+1/\zu (z5 A H1) (z5 (λb=>A b\/b=acc) H2)/\zu H1 H2/\(∀k∈yP M cix,as[k]?=(zaF σ cix)[k]?/\F[k]?=(zcF ρ cix)[k]?),
  λas H2 h=>⟨l.length - (i+1),by lia,rfl,av,h⟩,λx H2 hy=>?_⟩
 obtain⟨S2,V2⟩:=yl x H2 hy;show hg.run _ L H2 F x l[i] _ _ (E'.stay (zu.same S2)) V2 (it i l[i] F n' q an hI) λag O r3 E3 f3=>?_;have Y:∀k∈yP M cix,ag[k]?=(zaF σ cix)[k]?/\O[k]?=(zcF ρ cix)[k]?:=λk hk=>⟨(f3 k hk).1.trans (ap k hk).1,(f3 k hk).2.trans (ap k hk).2⟩;show ht.run _ ag H2 O n' _ _ E3 (P'.same S2) r3 λb m3 H4 r4 g4=>?_;have Z:=(zu.same S2).trans g4.st
 cases b with
 | false=>
  rw[if_neg (by ext)] at r4 ⊢;exact⟨O,m3,q,xs,E3.stay g4.st,g4.pn,r4,Z.lst ad,U.stay (zM Z),by lia,st.trans (zM Z),s1.trans Z,Y⟩
 | true=>
  rw[if_pos rfl] at r4 ⊢;show he.run _ ag H4 O m3 _ _ (E3.stay g4.st) g4.pn r4  ?_;rintro w5 m5 v5 H5 ⟨d,e5,r5⟩ V5 g5 _;subst e5;have al:=Z.trans g5.st;have E5:=(E3.stay g4.st).stay g5.st;have a0:=al.lst ad;show⟨xs,a0,zc4 (by rw[U.length];lia),O,m5,q++[d],xs++[v5],E5.upd (.inr rfl) (key ag O H5 E5 Y) NP.lst rfl,g5.pn.upd (.inr rfl),r5,zj,?_,by right,?_,?_,Y⟩;rw[yp (.inr rfl)];exact (U.stay (zM al)).append (IsL.one V5.is);rw[yp (.inr rfl)];exact st.trans (zM al);exact λb o e nn=>by rw[zd (zc e B)];exact s1.trans al b o e nn
 show Or.inl ?_;have a1:i=l.length:=by lia
 subst a1;show⟨iv.stop _ H' st (λ_=>s1),k _ n' _ H' (ie F n' q hI) (Val.of ⟨acc,xs,rfl,zy (E1.new B) ad,U.stay (zu.same (xi λb z=>.inl z))⟩) (g1.trans ⟨s1,P'.less λa z=>.inl z⟩) λ_=>⟨acc,rfl,(Fr.of B).back g1.st,acc,xs,rfl,ad,U⟩⟩⟩
abbrev ztD:Ev->Mo Bool:=λ_ n Q=>Q true n
def yx:JTs X Pn M [] ztD:=⟨_,zea,⟨λA σ H ρ n Q R E P q k=>k true n H q (Go.refl P)⟩⟩
def zbd(h:JT X Pn M c q):JTs X Pn M [c] q:=let ⟨t,h1,h2⟩:=h.ex;⟨t,zpw h1,h2⟩
def xw(J:X.calm=true)(L:CompOk X scope N cix)(hi:JI X Pn M I tg iter q)(O:∀C s H ex,JG (zt X scope N C s H ex) (yP M cix) (yP M cix) tg mg)(U:∀C s H ex,JTs (zt X scope N C s H ex) Pn (yP M cix) ifs B)(Y:∀C s H ex,JE (zt X scope N C s H ex) Pn (yP M cix) fr' elt F)(Z:(cix.filterMap id).Nodup:=by ext)(hs:∀x,foldedSetIterable iter X.env x=pure x:=by intro _;rfl):JE X Pn M true (.ListComp elt [⟨tg,iter,ifs,0⟩] scope pos) (zou q mg B F cix):=by
 obtain⟨ti,qi,ri⟩:=hi.ex;obtain⟨g,qg,rg⟩:=zkv O;obtain⟨tt,qt,rt⟩:=zkw U;obtain⟨te,qe,re⟩:=zku Y;exact⟨_,zha J L qi qg qt qe hs,zj4 Z ri rg rt re⟩
def zbL{ifs:AO}{scope:Scope}{N:AM}{cix:List (Option Nat)}{L:AC}{mg:W->Ev->(Ev->Prop)->Prop}{O:Ev->Mo Bool}{U:AD}{nx:Str}{px spos:Pos}(q:X.N.Nodup)(B:X.N[ix]?=some nx)(F:X.env.scope.names.lookup nx=some .local)(Z:X.calm=true)(cc:CompOk X scope N cix)(hi:JI X Pn M Y tg iter L)(hg:∀C s H ex,JG (zt X scope N C s H ex) (yP M cix) (yP M cix) tg mg)(ht:∀C s H ex,JTs (zt X scope N C s H ex) Pn (yP M cix) ifs O)(he:∀C s H ex,JE (zt X scope N C s H ex) Pn (yP M cix) fr' elt U)(hn:(cix.filterMap id).Nodup:=by ext)(I:swapsWithSole [.Name nx px] (.ListComp elt [⟨tg,iter,ifs,0⟩] scope pos) spos.line X.env=pure true:=by rfl)(hs:∀x,foldedSetIterable iter X.env x=pure x:=by intro _;rfl)(J:(assignEach [.Name nx px] X.env).map (·.2)=[assign (.Name nx px) X.env]:=by rfl):∃te,QS X (.Assign [.Name nx px] (.ListComp elt [⟨tg,iter,ifs,0⟩] scope pos) spos) (zfC te (uT ix))/\RE Pn M true te (zou L mg O U cix):=by
 obtain⟨ti,qi,ri⟩:=hi.ex;obtain⟨g,qg,rg⟩:=zkv hg;obtain⟨tt,qt,rt⟩:=zkw ht;obtain⟨te,qe,re⟩:=zku he;exact⟨_,zpv q B F Z cc qi qg qt qe I hs J,zj4 hn ri rg rt re⟩
def At3.step(h:At3 Pn B S M A σ H ρ n)(g:Go Pn A H m H'):At3 Pn B S M A σ H' ρ m where
 env:=h.env.stay g.st
 frm:=⟨h.frm.sub,h.frm.new,λb o e n c=>g.st b o (h.frm.st b o e n c) n,h.frm.al,h.frm.cn,λa z=>let ⟨o,e,n⟩:=h.frm.cs a z;⟨o,g.st a o e n,n⟩⟩
 pn:=g.pn
 prot:=h.prot.trans (zM g.st)
 fix:=h.fix
 mine:=h.mine
abbrev mRet (f:AD):Ms:=λρ n k=>f ρ n k.rt
def zsA(h:RE Pn M fr te f):RS Pn S M fr (ztN te) (mRet f):=⟨λB A σ H ρ n k D a F I=>by
 show h.run A σ H ρ n _ _ a.env a.pn I λw m v H' r J g L=>?_;have O:=a.step g;exact F.rt w m v H' (WAt.up (zu.same (xi a.frm.sub)) (zu.same (xi a.frm.sub)) J) O.frm.st (g.pn.less a.frm.sub) (λz=>by obtain⟨b,e,q,U⟩:=L z;exact FrV.less ⟨b,e,a.frm.back q (a.env.newF q),U⟩ a.frm.sub) r⟩
def zN (h:JE X Pn M fr e f):JS X Pn S M fr (.Return (some e) pos) (mRet f):=let ⟨te,q,r⟩:=h.ex;⟨_,zbt q,zsA r⟩
def zoE (i:Nat):Ms:=λρ n k=>∃w,ρ[i]?=some (some w)/\k.rt w n
def zpL(hi:i∈M):RS Pn S M fr (ztN (zkG i)) (zoE i):=⟨by
 rintro B A σ H ρ n k D a kk ⟨w,e,r⟩;obtain⟨v,s1,_,s3⟩:=a.env.val i w e;obtain⟨F,rfl,hA,L,hm⟩:=s3 hi;have Z:=a.mine i w F hi e s1
 have O:¬ B.A0 F:=λz=>by
  rcases Z with Z | Z;obtain⟨o,o1,o2,_⟩:=a.frm.al F z;exact Z o o1 o2;exact a.frm.cn F Z z
 have q:y3 (z5 A H) (z5 B.A0 H):=xi a.frm.sub;have U:y3 (z5 A H) (z5 (λb=>B.A0 b\/b=F) H):=xi λb z=>z.elim (a.frm.sub b) λz=>z ▸ hA;show⟨.ref F,s1,kk.rt w n (.ref F) H ?_ a.frm.st (a.pn.less a.frm.sub) (λz=>⟨F,rfl,Z.resolve_right (kk.fc F),WAt.up (zu.refl _) (zu.same U) L⟩) r⟩
 cases w with
 | d x=>
  cases x with
  | lst l=>obtain⟨Y,xs,I,J,g2⟩:=L;cases I;exact⟨F,xs,rfl,zy O J,g2.stay (zu.same q)⟩
  | dct=>obtain⟨Y,xs,I,J,g2⟩:=L;cases I;exact⟨F,xs,rfl,zy O J,g2⟩
  | _=>cases hm
 | pen p=>cases hm
 | dk kvs=>obtain⟨Y,xs,I,J,g2,g3⟩:=L;cases I;exact⟨F,xs,rfl,zy O J,g2.stay (zu.same q),g3⟩
 | dt kvs=>obtain⟨Y,xs,I,J,g2⟩:=L;cases I;exact⟨F,xs,rfl,zy O J,g2.stay (zu.same q)⟩
 | ss P w kvs=>obtain⟨Y,xs,I,J,g2⟩:=L;cases I;exact⟨F,xs,rfl,zy O J,g2.stay (zu.same q)⟩
 | kf kvs=>obtain⟨Y,ob,xs,I,J,g2⟩:=L;cases I;exact⟨F,ob,xs,rfl,zy O J,g2.stay (zu.same q)⟩
 | fl kvs=>obtain⟨Y,ob,xs,I,J,g2⟩:=L;cases I;exact⟨F,ob,xs,rfl,zy O J,g2.stay (zu.same q)⟩
 | df kvs=>obtain⟨Y,ob,xs,I,J,g2⟩:=L;cases I;exact⟨F,ob,xs,rfl,zy O J,g2.stay (zu.same q)⟩⟩
def zb6 (i:Nat){x:Str}(hi:i∈M:=by ext)(B:X.N[i]?=some x:=by rfl)(F:Vis X.env.scope x:=by walk_at "v")(I:Ah x:=by ext)
  (q:(x==("__classdict__" : Str))=false:=by ext) {pos':Pos}:JS X Pn S M fr (.Return (some (.Name x pos)) pos') (zoE i):=⟨_,zbt (qv i B F I q),zpL hi⟩
abbrev zot (f:AD) (mg:W->Ev->(Ev->Prop)->Prop):Ms:=λρ n k=>f ρ n λw m=>mg w ρ λq=>k.nx q m
def EnvR.mineG(a:At3 Pn B S M A σ H ρ n)(E:EnvR A M q H F)(f:∀i∈S++M,q[i]?=σ[i]?/\F[i]?=ρ[i]?):At3 Pn B S M A q H F n where
 env:=E
 frm:=a.frm
 pn:=a.pn
 prot:=a.prot
 fix:=⟨λi hi=>(f i (aG.mpr (.inl hi))).1.trans (a.fix.1 i hi),a.fix.2⟩
 mine:=λi w I hi e s=>by obtain⟨J,L⟩:=f i (aG.mpr (.inr hi));rw[J] at s;rw[L] at e;exact a.mine i w I hi e s
def zj9(h:RE Pn M fr' te f)(J:RG (S++M) M g mg):RS Pn S M fr (zfC te g) (zot f mg):=⟨λB A σ H ρ n k D a L O=>by show h.run A σ H ρ n _ _ a.env a.pn O λw m v H' r U g' _=>?_;have I:=a.step g';exact J.run A σ H' ρ v w _ _ I.env U r λq F Y E2 Z=>L.nx A q H' F m (EnvR.mineG I E2 Z) Y⟩
def zD {i:Nat}{x:Str}{pos':Pos}(I:X.N.Nodup)(J:JE X Pn M fr' e f)(hi:X.N[i]?=some x:=by rfl)(L:Loc X.env.scope x:=by first | exact Or.inl rfl | exact Or.inr rfl)(B:i∉M:=by ext)(F:i∉S++M:=by ext)(hs:swapsWith e (some (.Name x pos')) pos.line X.env=pure false:=by rfl)(O:X.fn x=true\/X.env.scope.names.lookup x=some .local:=by walk_at "l") :
  JS X Pn S M fr (.Assign [.Name x pos'] e pos) (zot f (gN i)):=let ⟨te,q,r⟩:=J.ex;⟨_,xW I hi L q hs O,zj9 r (zeb B F)⟩
def zjb{st:Stmt}(h:∃te,QS X st (zfC te (uT i))/\RE Pn M true te f)(B:i∉M:=by ext)(F:i∉S++M:=by ext):JS X Pn S M fr st (zot f (gN i)):=let ⟨te,q,r⟩:=h;⟨_,q,zj9 r (zeb B F)⟩
def zmW(B:JE X Pn M fr' e f)(F:JG X (S++M) M tg mg)(hs:swapsWithSole [tg] e pos.line X.env=pure false:=by rfl)(I:swappedStores [tg] e X.env=pure none:=by rfl)(h1:(assignEach [tg] X.env).map (·.2)=[assign tg X.env]:=by rfl):JS X Pn S M fr (.Assign [tg] e pos) (zot f mg):=let ⟨te,q,r⟩:=B.ex;let ⟨g,q2,r2⟩:=F.ex;⟨_,znb q q2 hs I h1,zj9 r r2⟩
def zri (i:Nat)(f:AD):Ms:=λρ n k=>f ρ n λw m=>w.mut=true/\k.nx (ρ.set i (some w)) m
def zjB(h:WAt T G w v)(hm:w.mut=true):∃a o,v = .ref a/\T a=some o/\NP o/\Mt o:=by
 cases w with
 | d x=>
  cases x with
  | lst l=>obtain⟨a,xs,e,g1,_⟩:=h;exact⟨a,_,e,g1,NP.lst,rfl⟩
  | dct=>obtain⟨a,xs,e,g1,g2⟩:=h;exact⟨a,_,e,g1,λk z=>by cases z;exact g2,rfl⟩
  | _=>cases hm
 | pen p=>cases hm
 | dk kvs=>obtain⟨a,xs,e,g1,_,g3⟩:=h;exact⟨a,_,e,g1,λk z=>by cases z;exact g3,rfl⟩
 | dt kvs=>obtain⟨a,xs,e,g1,_⟩:=h;exact⟨a,_,e,g1,(λk z=>by cases z),rfl⟩
 | ss P w kvs=>obtain⟨a,xs,e,g1,_⟩:=h;exact⟨a,_,e,g1,zg0,rfl⟩
 | df kvs=>cases hm
 | kf kvs=>cases hm
 | fl kvs=>cases hm
def zni(h:RE Pn M true te f)(hi:i∈M)(hs:i∉S):RS Pn S M fr (zfC te (uT i)) (zri i f):=⟨λB A σ H ρ n k D a kk hf=>by
 show h.run A σ H ρ n _ _ a.env a.pn hf  ?_;rintro w m v H' ⟨hm,r⟩ hv g' ag;obtain⟨Y,rfl,O,hb⟩:=ag rfl;obtain⟨a2,o,U,ho,np,nt⟩:=zjB hb hm;cases U;have E1:=a.env.more g'.st O ho np nt;have Z:¬ A Y:=a.env.newF O;show kk.nx (λb=>A b\/b=Y) _ H' _ m ⟨⟨?_,?_,?_,E1.al⟩,⟨λb z=>.inl (a.frm.sub b z),λb z=>?_,λb o e n c=>g'.st b o (a.frm.st b o e n c) n,a.frm.al,a.frm.cn,λb z=>let ⟨o,e,n⟩:=a.frm.cs b z;⟨o,g'.st b o e n,n⟩⟩,a.pn.grow' g'.pn O ho np nt,a.prot.trans (yG g'.st O),⟨λj I=>?_,a.fix.2⟩,λj u b I e s=>?_⟩ r;rw[a8,a8];exact a.env.len;intro j u e;by_cases I:j=i;subst I
 have J:j<ρ.length:=by
  have:=(ac.mp e).1;right
 rw[aJ J] at e;cases e;exact⟨.ref Y,aJ (by rw[a.env.len];exact J),λz=>absurd hi z,λ_=>⟨Y,rfl,.inr rfl,hb,hm⟩⟩;rw[ao (Ne.symm I)] at e ⊢;exact E1.val j u e;intro j l u u' b I J L e1 U s1 s2
 have an:∀q u,q∈M->q≠i->ρ[q]?=some (some u)->σ[q]?≠some (some (.ref Y)):=λq u hq av eq sq=>by
  obtain⟨v,s,_,s3⟩:=a.env.val q u eq;obtain⟨c,ec,hc,_⟩:=s3 hq;right
 have ap:∀q (u:W),(ρ.set i (some w))[q]?=some (some u)->q<σ.length:=λq u e=>by have:=(ac.mp e).1;rw[a8] at this;rw[a.env.len];exact this
 by_cases F:j=i;subst F;rw[aJ (ap _ _ e1)] at s1;cases s1;rw[ao L] at U s2;exact an l u' J (Ne.symm L) U s2;rw[ao (Ne.symm F)] at e1 s1;by_cases as:l=i;right;rw[ao (Ne.symm as)] at U s2;exact a.env.dis j l u u' b I J L e1 U s1 s2;rcases z with z | z;exact a.frm.new b z;subst z;exact .inr (.inl (a.frm.back O Z));rw[ao λ(z:i=j)=>hs (by rw[z];exact I)];exact a.fix.1 j I;by_cases F:j=i;subst F
 have J:j<σ.length:=by
  have:=(ac.mp s).1;right
 rw[aJ J] at s;cases s;exact .inl (a.frm.back O Z);rw[ao (Ne.symm F)] at e s;exact a.mine j u b I e s⟩
def xj {i:Nat}{x:Str}{pos':Pos}(I:X.N.Nodup)(J:JE X Pn M true e f)(hi:X.N[i]?=some x:=by rfl)(L:Loc X.env.scope x:=by first | exact Or.inl rfl | exact Or.inr rfl)(B:i∈M:=by ext)(F:i∉S:=by ext)(hs:swapsWith e (some (.Name x pos')) pos.line X.env=pure false:=by rfl)(O:X.fn x=true\/X.env.scope.names.lookup x=some .local:=by walk_at "l") :
  JS X Pn S M fr (.Assign [.Name x pos'] e pos) (zri i f):=let ⟨te,q,r⟩:=J.ex;⟨_,xW I hi L q hs O,zni r B F⟩
def zf4{st:Stmt}(h:∃te,QS X st (zfC te (uT i))/\RE Pn M true te f)(B:i∈M:=by ext)(F:i∉S:=by ext):JS X Pn S M fr st (zri i f):=let ⟨te,q,r⟩:=h;⟨_,q,zni r B F⟩
variable {st:Stmt}{sts:List Stmt}{fs gs:Ms}
abbrev mNx:Ms:=λρ n k=>k.nx ρ n
structure blk (g:Ms)(ρ:Ev)(n:Nat)(k:Kt):Prop where
 go:g ρ n k
def zqr(h:g ρ n k):blk g ρ n k:=⟨h⟩
def zqq:blk g ρ n k=g ρ n k:=propext ⟨λh=>h.go,λh=>⟨h⟩⟩
abbrev mSeq (f g:Ms):Ms:=λρ n k=>f ρ n { k with nx:=λq B=>blk g q B k }
def zuI (t:Ev->Mo Bool)(f g:Ms):Ms:=λρ n k=>t ρ n λc m=>if c=true then blk f ρ m k else blk g ρ m k
def zF:JSs X Pn S M fr [] mNx:=⟨_,zd9,⟨λB A σ H ρ n k D a q F=>q.nx A σ H ρ n a F⟩⟩
def zsB(h1:RS Pn S M fr t fs)(h2:RS Pn S M fr u gs):RS Pn S M fr (zvt t u) (mSeq fs gs):=⟨λB A σ H ρ n k D a F L=>
 h1.run B A σ H ρ n { k with nx:=λq I=>blk gs q I k } _ a ⟨λA' J H' q I O r=>h2.run B A' J H' q I k D O F r.go,F.bk,F.ct,F.fc,F.rt⟩ L⟩
def zb (h1:JS X Pn S M fr st fs)(h2:JSs X Pn S M fr sts gs):JSs X Pn S M fr (st::sts) (mSeq fs gs):=let ⟨t,q,r⟩:=h1.ex;let ⟨u,q2,r2⟩:=h2.ex;⟨_,yb q q2,zsB r r2⟩
def zf (h1:JS X Pn S M fr st fs):JSs X Pn S M fr [st] fs:=let ⟨t,q,r⟩:=h1.ex;⟨_,uC q,r⟩
def yI(I:JT X Pn M c t)(J:JSs X Pn S M fr body fs)(L:JSs X Pn S M fr q gs):JS X Pn S M fr (.If c body q pos) (zuI t fs gs):=by
 obtain⟨tc,O,U⟩:=I.ex;obtain⟨ta,Y,Z⟩:=J.ex;obtain⟨tb,qb,rb⟩:=L.ex;show⟨_,zl6 O Y qb,⟨λB A σ H ρ n k D a F hf=>?_⟩⟩;show U.run A σ H ρ n _ _ a.env a.pn hf λc m H1 r g=>?_
 cases c with
 | true=>rw[if_pos rfl] at r ⊢;exact Z.run B A σ H1 ρ m k D (a.step g) F r.go
 | false=>rw[if_neg (by ext)] at r ⊢;exact rb.run B A σ H1 ρ m k D (a.step g) F r.go
abbrev mDrop (f:AD):Ms:=λρ n k=>f ρ n λ_ m=>k.nx ρ m
def At3.wr(h:At3 Pn B S M A σ H ρ n)(hi:i∈M)(e:ρ[i]?=some (some w))(s:σ[i]?=some (some (.ref O)))(hl:IsL (z5 A H) l xs):At3 Pn B S M A σ (L2.upd H O (.lst xs)) (ρ.set i (some (.d (.lst l)))) n:=by
 obtain⟨v,s1,_,s3⟩:=h.env.val i w e;rw[s] at s1;cases s1;obtain⟨Y,F,hA,_,_⟩:=s3 hi;cases F;have ag:i<ρ.length:=(ac.mp e).1
 have hE:EnvR A M σ (L2.upd H O (.lst xs)) (ρ.set i (some (.d (.lst l)))):=by
  show⟨by rw[a8];exact h.env.len,λj u Z=>?_,λj q u u' b hj hq I e1 F=>?_,λb hb=>?_⟩;by_cases hj:j=i;subst hj;rw[aJ ag] at Z;cases Z;exact⟨.ref O,s,λz=>absurd hi z,λ_=>⟨O,rfl,hA,⟨O,xs,rfl,zj,by rw[yp hA];exact hl⟩,rfl⟩⟩;rw[ao (Ne.symm hj)] at Z;obtain⟨v,t1,t2,t3⟩:=h.env.val j u Z;show⟨v,t1,λz=>?_,λz=>?_⟩;change WAt _ _ _ _;rw[yp hA];exact t2 z;obtain⟨b,rfl,hb,J,hm⟩:=t3 z;have I:b≠O:=λq=>h.env.dis i j w u O hi z (Ne.symm hj) e Z s (by rw[t1,q]);show⟨b,rfl,hb,?_,hm⟩;change WAt _ _ _ _;rw[yp hA]
  cases u with
  | d x=>
   cases x with
   | lst l=>obtain⟨Y,xs,F,L,g2⟩:=J;cases F;exact⟨b,xs,rfl,by rw[zd I];exact L,g2⟩
   | dct=>obtain⟨Y,xs,F,L,g2⟩:=J;cases F;exact⟨b,xs,rfl,by rw[zd I];exact L,g2⟩
   | _=>cases hm
  | pen p=>cases hm
  | dk k=>obtain⟨Y,xs,F,L,g2⟩:=J;cases F;exact⟨b,xs,rfl,by rw[zd I];exact L,g2⟩
  | dt k=>obtain⟨Y,xs,F,L,g2⟩:=J;cases F;exact⟨b,xs,rfl,by rw[zd I];exact L,g2⟩
  | ss P w k=>obtain⟨Y,xs,F,L,g2⟩:=J;cases F;exact⟨b,xs,rfl,by rw[zd I];exact L,g2⟩
  | df k=>obtain⟨Y,ob,xs,F,L,g2⟩:=J;cases F;exact⟨b,ob,xs,rfl,by right,g2⟩
  | kf k=>obtain⟨Y,ob,xs,F,L,g2⟩:=J;cases F;exact⟨b,ob,xs,rfl,by right,g2⟩
  | fl k=>obtain⟨Y,ob,xs,F,L,g2⟩:=J;cases F;exact⟨b,ob,xs,rfl,by right,g2⟩
  have an:∀q (u:W),(ρ.set i (some (.d (.lst l))))[q]?=some (some u)->∃u',ρ[q]?=some (some u'):=λq u z=>by
   by_cases hq:q=i;subst hq;exact⟨w,e⟩;rw[ao (Ne.symm hq)] at z;exact⟨u,z⟩
  obtain⟨v1,f1⟩:=an j u e1;obtain⟨v2,f2⟩:=an q u' F;exact h.env.dis j q v1 v2 b hj hq I f1 f2;by_cases U:b=O;subst U;exact⟨_,zj,NP.lst,rfl⟩;rw[zd U];exact h.env.al b hb
 show⟨hE,⟨h.frm.sub,h.frm.new,λb o eb nn nc=>?_,h.frm.al,h.frm.cn,λb z=>(by
  by_cases U:b=O;subst U;exact⟨_,zj,NP.lst⟩;rw[zd U];exact h.frm.cs b z)⟩,h.pn.upd hA,by rw[yp hA];exact h.prot,h.fix,λj u b hj Z sj=>?_⟩
 have I:b≠O:=λq=>by
  subst q;rcases h.mine i w b hi e s with z | z;exact z o eb nn;exact nc z
 rw[zd I];exact h.frm.st b o eb nn nc;by_cases ap:j=i;subst ap;exact h.mine j w b hj e sj;rw[ao (Ne.symm ap)] at Z;exact h.mine j u b hj Z sj
def ztA (i:Nat)(f:AD):Ms:=λρ n k=>(∃l,ρ[i]?=some (some (.d (.lst l))))/\f ρ n λw m=>∃l d,ρ[i]?=some (some (.d (.lst l)))/\w = .d d/\l.length<lim/\k.nx (ρ.set i (some (.d (.lst (l++[d]))))) m
def zsx(h:RE Pn M fr' te f)(hi:i∈M):RS Pn S M fr (zmm (tBM K "list" zgk (zkG i) (zcB te znq))) (ztA i f):=⟨by
 rintro B A σ H ρ n k D a U ⟨⟨l0,Y⟩,Z⟩;obtain⟨v,q,_,s3⟩:=a.env.val i _ Y;obtain⟨I,rfl,hA,hb,_⟩:=s3 hi;obtain⟨a2,ag,e2,g0,_⟩:=hb;cases e2;show⟨.ref I,q,.inl ⟨rfl,_,SqL.of g0⟩,?_⟩;show h.run A σ H ρ n _ _ a.env a.pn Z  ?_;rintro w m v H' ⟨l,d,e,ed,hz,r⟩ hv g _;subst ed;have J:=a.step g;obtain⟨v2,L,_,t3⟩:=J.env.val i _ e;rw[q] at L;cases L;obtain⟨a3,e3,al,F,_⟩:=t3 hi;cases e3;obtain⟨a4,xs,e4,g4,O⟩:=F;cases e4;exact⟨I,xs,v,rfl,rfl,g4,zc4 (by rw[O.length];exact cg hz),U.nx A σ _ _ m (J.wr hi e q (O.append (IsL.one hv.is))) r⟩⟩
def zbm (i:Nat){x:Str}{Y J sp L:Pos}(he:JE X Pn M fr' e f)(hi:i∈M:=by ext)(hN:X.N[i]?=some x:=by rfl)(hv:Vis X.env.scope x:=by walk_at "v")(hd:Ah x:=by ext)
  (Z:(x==("__classdict__" : Str))=false:=by ext) (O:starEach (e::[]) X.env=(false,eval e X.env)::starEach [] X.env:=by rfl) (hs:swapsWith (.Call (.Attribute (.Name x L) "append" Y) [e] [] J) none sp.line X.env=pure false:=by rfl) (F:attributeBase (.Name x L) "append" X.env (eval (.Name x L) X.env)=eval (.Name x L) X.env:=by rfl) (I:(Y.endLine==J.line)=true:=by rfl)
  (U:((backTo J (starEach [e] X.env)).all (λx=>!x.1)&&(backToKw J (keywordEach [] X.env)).all (λx=>x.1.isSome)&&decide (([e]:AO).length+([]:List Keyword).length+(if ([]:List Keyword).isEmpty then 0 else 1)<30))=true:=by rfl) (B:(backTo J (starEach [] X.env)).any (·.1)=false:=by rfl) :
  JS X Pn S M fr (.Expr (.Call (.Attribute (.Name x L) "append" Y) [e] [] J) sp) (ztA i f):=by
 obtain⟨te,q,r⟩:=he.ex;exact⟨_,zcl (zsb (qv i hN hv hd Z) (zG q yk O) F U I O B) hs,zsx r hi⟩
def zqU (mg:W->Ev->(Ev->Prop)->Prop)(fb:Ms)(ρ:Ev)(k:Kt):AU->Nat->Prop:=λl J=>∃I:Nat->Ev->Nat->Prop,I 0 ρ J/\
 (∀i w q B,l[i]?=some w->I i q B->mg w q λF=>fb F B { k with nx:=I (i+1),ct:=I (i+1),bk:=k.nx })/\∀ q B,I l.length q B->k.nx q B
abbrev ztB (q:AC) (mg:W->Ev->(Ev->Prop)->Prop) (fb:Ms):Ms:=λρ n k=>q ρ n (zqU mg fb ρ k)
def zsy {wi:TI}{g:TG}{tb:TS}{fi:AC}{mg:W->Ev->(Ev->Prop)->Prop}{fb:Ms}(hi:RI Pn M false wi fi)(hg:RG (S++M) M g mg)(hb:RS Pn S M fr tb fb)(hS:9999∉S):RS Pn S M fr (ztM wi g tb) (ztB fi mg fb):=⟨λB A σ H ρ n k D a kk hf=>by
 show hi.run A σ H ρ n _ _ a.env a.pn hf  ?_;rintro l m J H1 ⟨I,i0,it,ie⟩ iv g1;have Z:=a.step g1;have ag:∀ {A':AL} {L:St} {H':Hp} {F:Ev} {O:Nat},At3 Pn { B with G0:=z5 A H1 } S M A' L H' F O->At3 Pn B S M A' L H' F O:=λ{A' L H' F O} q=>⟨q.env,q.frm,q.pn,Z.prot.trans q.prot,⟨q.fix.1,Z.fix.2⟩,q.mine⟩;show⟨λi mm L H'=>mm=l.length - i/\i<=l.length/\∃A' F O,At3 Pn { B with G0:=z5 A H1 } S M A' L H' F O/\I i F O,⟨l.length,by simp,aK _,A,ρ,m,⟨Z.env,Z.frm,Z.pn,zu.refl _,⟨Z.fix.1,λz=>absurd z hS⟩,Z.mine⟩,i0⟩,?_⟩;rintro i mm L H' ⟨rfl,a0,A',F,O,a',hI⟩;by_cases al:i<l.length
 show Or.inr ?_;have Y:l[i]?=some l[i]:=ah al;obtain⟨go,yl⟩:=iv.one i l[i] A' H' Y a'.prot (λz=>by cases z) λp hp=>a'.env.new hp;show⟨go,λan H2=>∃A' F O,At3 Pn { B with G0:=z5 A H1 } S M A' an H2 F O/\I (i+1) F O,λan H2 h=>⟨l.length - (i+1),by lia,rfl,al,h⟩,λx H2 hy=>?_⟩;obtain⟨S2,V2⟩:=yl x H2 hy;have a2:=a'.step (Go.same a'.pn S2);show hg.run A' L H2 F x l[i] _ _ a2.env V2 (it i l[i] F O Y hI) λap as r3 E3 f3=>?_;show hb.run { B with G0:=z5 A H1 } A' ap H2 as O _ _ (EnvR.mineG a2 E3 f3) ⟨?_,?_,?_,kk.fc,?_⟩ r3
 exact λA4 ad H4 U n4 a4 r4=>⟨A4,U,n4,a4,r4⟩;exact λA4 ad H4 U n4 a4 r4=>kk.nx A4 ad H4 U n4 (ag a4) r4;exact λA4 ad H4 U n4 a4 r4=>⟨A4,U,n4,a4,r4⟩;exact kk.rt;show Or.inl ?_;have av:i=l.length:=by lia
 subst av;exact⟨iv.stop A' H' a'.prot (λz=>by cases z),kk.nx A' L H' F O (ag a') (ie F O hI)⟩⟩
def yr {tg iter:Expr}{body:List Stmt}{q:AC}{mg:W->Ev->(Ev->Prop)->Prop}{fb:Ms}(B:PassesOwn (model X.prog X.w) X.A X.env X.xe)(F:X.calm=true)(hi:JI X Pn M false tg iter q)(I:JG X (S++M) M tg mg)(J:JSs X Pn S M fr body fb)(hs:∀x,foldedSetIterable iter X.env x=pure x:=by intro _;rfl)(L:9999∉S:=by ext) :
  JS X Pn S M fr (.For tg iter body [] pos) (ztB q mg fb):=by
 obtain⟨ti,O,U⟩:=hi.ex;obtain⟨Y,Z,rg⟩:=I.ex;obtain⟨tb,qb,rb⟩:=J.ex;exact⟨_,zjX B F O Z qb hs,zsy U rg rb L⟩
def xn (N:AM)(q:AU):Ev:=q.map some++List.replicate (N.length - q.length) none
def zbH.get:∀ {q:AU} {vs:AT} {i:Nat} {w:W},zbH A H q vs->q[i]?=some w->∃v,vs[i]?=some v/\Val A H w v
 | [],_,_,_,_,e=>by simp at e
 | x::q,vs,0,w,⟨v,r,B,h1,_⟩,e=>by right
 | x::q,vs,i+1,w,⟨v,r,B,_,h2⟩,e=>by
  subst B;obtain⟨u,F,I⟩:=zbH.get (i:=i) h2 (by simpa using e);right
def ziB {A:AL}{H:Hp}{N:AM}{ws:AU}{vs:AT}(al:Al A H)(h:zbH A H ws vs)(hM:∀i∈M,ws.length<=i):EnvR A M (L2.y4 N vs) H (xn N ws) where
 len:=by unfold L2.y4 xn;rw[aD,aD,ab,ab,List.length_replicate,List.length_replicate,h.len]
 val:=λi w e=>by
  unfold xn at e
  have hi:i<ws.length:=by
   apply bJ;intro z;rw[bf (by right)] at e;obtain⟨_,q⟩:=ac.mp e;right
  rw[a6 (by right),aj] at e;obtain⟨w',e1,e2⟩:=aA.mp e;cases e2;obtain⟨v,h1,h2⟩:=h.get e1;show⟨v,?_,λ_=>h2,λz=>absurd (hM i z) (by lia)⟩;unfold L2.y4;have hi':i<vs.length:=by rw[h.len];exact hi
  rw[a6 (by right),aj,h1];rfl
 dis:=λi j w u ad hi hj hne e1=>by
  unfold xn at e1;have:=hM i hi;rw[bf (by right)] at e1;obtain⟨_,q⟩:=ac.mp e1;right
 al:=al
def zrp{P:Aa}{w:Ab}{K:AH}{mg:AI}{base:Heap}{J:Str}{f:Addr}{fd:Ac}{N ps:AM}{F:PN->AU->Mo W}(M:AR)(Z:(∀vs H Q E,spV m fr F vs H Q E->vs.length=ps.length)->(∀ (I:Value) (A:Ae) (B:List Env) (s:AZ) (H:Hp) (vs:AT) (Q:VK) (E:XK),Room k (A.deeper (PyProof.Rows.envOfC J (ze st) s.heap.objs.size f I))->spV m fr F vs H Q E->
   ∃t,QSs (zcL CX0 P w K mg base N J (ze st) f I A B s H E).nox (zJ st) t/\t { nx:=λ_ H'=>Q .non H',rt:=Q } (L2.y4 N vs) H)->FnOk P w K mg base CX0 (k+1) f fd ps (spV m fr F))(hm:m=ps.length)(hM:∀i∈M,m<=i)(L:∀ (I:Value) (A:Ae) (B:List Env) (s:AZ) (H:Hp) (E:XK) (Pn:PN),Room k (A.deeper (PyProof.Rows.envOfC J (ze st) s.heap.objs.size f I))->
   ∃fs,JSs (zcL CX0 P w K mg base N J (ze st) f I A B s H E).nox Pn [] M fr (zJ st) fs/\∀O n R,O.length=m->F Pn O n R->fs (xn N O) n { nx:=λ_ Y=>fr=false/\R (.d .non) Y,rt:=R }):FnOk P w K mg base CX0 (k+1) f fd ps (spV m fr F):=by
 show Z (λvs H Q E h=>?_) (λI A B s H vs Q E hr h=>?_);obtain⟨Pn,A,O,n,R,_,hv,hl,_⟩:=h;rw[hv.len,hl,hm];obtain⟨Pn,A3,O,n,R,al,hv,hl,hp,hF,q⟩:=h;obtain⟨fs,⟨t,qs,rs⟩,ad⟩:=L I A B s H E Pn hr;show⟨t,qs,rs.run { A0:=A3,H0:=H,G0:=z5 A3 H,σ0:=L2.y4 N vs } A3 (L2.y4 N vs) H (xn N O) n _ _ ⟨ziB al hv (λi hi=>by right),⟨λ_ z=>z,λ_ z=>.inl z,.of (zu.refl _),al,λ_ z=>z.elim,λ_ z=>z.elim⟩,hp,zu.refl _,⟨λi hi=>rfl,λz=>by cases z⟩,λi w a hi e=>?_⟩ ⟨?_,?_,?_,λ_ z=>z,?_⟩ (ad O n R hl hF)⟩;exact absurd e (by unfold xn;have:=hM i hi;rw[bf (by right)];intro z;obtain⟨_,q⟩:=ac.mp z;rw[List.getElem_replicate] at q;cases q);intro A' an H' ap Y a' ⟨U,r⟩;exact q _ Y .non H' r (Val.of (show Is _ .non .non from rfl)) ⟨a'.frm.st.stay,a'.pn.less a'.frm.sub⟩ λz=>by rw[U] at z;cases z
 right;right;intro w Y v H' ag st pn U r;exact q w Y v H' r ag ⟨st.stay,pn⟩ U
end
section
variable {X:Cx}{Pn:PN}{M S:AR}{fr fr':Bool}{e a b c:Expr}{es:AO}{f fa fb fc:AD}{pos p p2:Pos}
def zmZ (B:Dt->Bool)(f:AD):AD:=λρ n Q=>f ρ n λw m=>∃d,w = .d d/\Q (.d (.bl (B d))) m
def zj5(q:∀d:Dt,PySem.W.kitOne K (.type d.ty) (.type T)=some (B d))(h:RB Pn M te f):RE Pn M false (tCB (λxs H Q=>∃x T t b,xs=[x,.ty T]/\TyOf K H x t/\PySem.W.kitOne K t (.type T)=some b/\Q (.bl b) H) (zcB te (zcB (tC (.ty T)) znq))) (zmZ B f):=⟨λA σ H ρ n Q R E P F k=>by show h.run A σ H ρ n _ _ E P F  ?_;rintro w m v H' ⟨d,e,r⟩ I g;subst e;exact⟨v,T,_,_,rfl,I.is.ty,q d,k _ m _ H' r (Val.of rfl) g λz=>by cases z⟩⟩
abbrev isStr:Dt->Bool
 | .str _=>true
 | _=>false
abbrev isDct:Dt->Bool
 | .dct=>true
 | _=>false
def zll(U:∀d:Dt,PySem.W.kitOne X.K (.type d.ty) (.type T)=some (B d))(Y:bootBuiltins x=some (.type T))(I:Gl X x)(Z:x ≠ "__name__")(hd:(x==("__debug__" : Str))=false)(hg:Gl X "isinstance")(hm:X.mg "isinstance" = none)(J:X.mg x=none)(h:JB X Pn M e f)(F:starEach (e::[.Name x p2]) X.env=(false,eval e X.env)::starEach [.Name x p2] X.env)(L:starEach (.Name x p2::[]) X.env=(false,eval (.Name x p2) X.env)::starEach [] X.env)(O:(backTo pos (starEach [.Name x p2] X.env)).any (·.1)=false):JE X Pn M false (.Call (.Name "isinstance" p) [e,.Name x p2] [] pos) (zmZ B f):=by
 obtain⟨te,q,r⟩:=h.ex;exact⟨_,y0 zij hg hm PyProof.Rows.boot_isinstance (zG q (zG (zpf (v:=.ty T) I J Y rfl Z hd) yk L) F) (by ext) (by ext) F O,zj5 U r⟩
def x3 (L:Gl X "isinstance")(O:X.mg "isinstance" = none)(q:X.mg "tuple" = none)(h:JB X Pn M e f)(B:Gl X "tuple" := by rfl)(F:starEach (e::[.Name "tuple" p2]) X.env=(false,eval e X.env)::starEach [.Name "tuple" p2] X.env:=by rfl)(I:starEach (.Name "tuple" p2::[]) X.env=(false,eval (.Name "tuple" p2) X.env)::starEach [] X.env:=by rfl)(J:(backTo pos (starEach [.Name "tuple" p2] X.env)).any (·.1)=false:=by rfl) :
  JE X Pn M false (.Call (.Name "isinstance" p) [e,.Name "tuple" p2] [] pos) (zmZ Dt.isTup f):=zll (zop _) bV B (by ext) (by ext) L O q h F I J
def zdL (L:Gl X "isinstance")(O:X.mg "isinstance" = none)(q:X.mg "list" = none)(h:JB X Pn M e f)(B:Gl X "list" := by rfl)(F:starEach (e::[.Name "list" p2]) X.env=(false,eval e X.env)::starEach [.Name "list" p2] X.env:=by rfl)(I:starEach (.Name "list" p2::[]) X.env=(false,eval (.Name "list" p2) X.env)::starEach [] X.env:=by rfl)(J:(backTo pos (starEach [.Name "list" p2] X.env)).any (·.1)=false:=by rfl) :
  JE X Pn M false (.Call (.Name "isinstance" p) [e,.Name "list" p2] [] pos) (zmZ Dt.isLst f):=zll (zoo _) cT B (by ext) (by ext) L O q h F I J
def zeW (L:Gl X "isinstance")(O:X.mg "isinstance" = none)(q:X.mg "int" = none)(h:JB X Pn M e f)(B:Gl X "int" := by rfl)(F:starEach (e::[.Name "int" p2]) X.env=(false,eval e X.env)::starEach [.Name "int" p2] X.env:=by rfl)(I:starEach (.Name "int" p2::[]) X.env=(false,eval (.Name "int" p2) X.env)::starEach [] X.env:=by rfl)(J:(backTo pos (starEach [.Name "int" p2] X.env)).any (·.1)=false:=by rfl) :
  JE X Pn M false (.Call (.Name "isinstance" p) [e,.Name "int" p2] [] pos) (zmZ Dt.isInt f):=zll (zon _) PyProof.Rows.boot_int B (by ext) (by ext) L O q h F I J
def zdK (L:Gl X "isinstance")(O:X.mg "isinstance" = none)(q:X.mg "bool" = none)(h:JB X Pn M e f)(B:Gl X "bool" := by rfl)(F:starEach (e::[.Name "bool" p2]) X.env=(false,eval e X.env)::starEach [.Name "bool" p2] X.env:=by rfl)(I:starEach (.Name "bool" p2::[]) X.env=(false,eval (.Name "bool" p2) X.env)::starEach [] X.env:=by rfl)(J:(backTo pos (starEach [.Name "bool" p2] X.env)).any (·.1)=false:=by rfl) :
  JE X Pn M false (.Call (.Name "isinstance" p) [e,.Name "bool" p2] [] pos) (zmZ Dt.isBl f):=zll (zrd _) PyProof.Rows.boot_bool B (by ext) (by ext) L O q h F I J
def zfB (n:Nat):AS:=(List.range n).map λi:Nat=>Dt.int i
def ziZ(n:Nat):IsL G (zfB n) ((List.range n).map λi:Nat=>V.int i):=by
 have q:zfB n=(((List.range n).map λi:Nat=>(i:Int))).map Dt.int:=by unfold zfB;rw[ay];rfl
 have B:((List.range n).map λi:Nat=>V.int i)=(((List.range n).map λi:Nat=>(i:Int))).map V.int:=by rw[ay];rfl
 rw[q,B];exact IsL.ints
def zdQ (fa:AC):AD:=λρ n Q=>fa ρ n λq m=>∃j:Nat,q=[.d (.int (j:Int))]/\j<=1000/\Q (.d (.lst (zfB j))) m
def zaM{q:Pos}{J:Pos}(hm:X.mg "list" = none)(L:X.mg "range" = none)(ha:JAB X Pn M [a] fs)(hc:X.calm=true:=by rfl)(hg:Gl X "list" := by rfl)(O:Gl X "range" := by rfl)(hs:starEach (a::[]) X.env=(false,eval a X.env)::starEach [] X.env:=by rfl)(F:starEach (.Call (.Name "range" J) [a] [] q::[]) X.env=(false,eval (.Call (.Name "range" J) [a] [] q) X.env)::starEach [] X.env:=by rfl)(U:(backTo q (starEach [] X.env)).any (·.1)=false:=by rfl)(Y:(backTo pos (starEach [] X.env)).any (·.1)=false:=by rfl):JE X Pn M true (.Call (.Name "list" p) [.Call (.Name "range" J) [a] [] q] [] pos) (zdQ fs):=by
 obtain⟨ta,qa,ra⟩:=ha.ex;show⟨_,zaa (zfJ hc) hg hm cT (zG (zaa zkT O L PyProof.Rows.boot_range qa (by ext) (by ext) hs U) yk F) (by ext) (by ext) F Y,⟨λA σ H ρ n Q R E P hf k=>?_⟩⟩;show ra.run A σ H ρ n _ _ E P hf  ?_;rintro ws m vs H1 ⟨j,e,hj,r⟩ bb g;subst e;obtain⟨v,rfl,b1⟩:=za9 bb;obtain rfl:=yv b1;show⟨_,rfl,λp1 H2 np g2 S2=>⟨p1,j,rfl,g2,hj,λp3 H3 I Z S3=>?_⟩⟩;have B:=g.trans (Go.same g.pn S2);exact k _ m _ H3 r (x8 (H:=H2) (ziZ j) (zu.same S3) ((E.stay B.st).new I) Z) (B.trans (Go.same B.pn S3)) λ_=>(uu (H:=H2) (ziZ j) S3 I Z).back B.st
abbrev truD:W->Option Bool
 | .d (.lst l)=>some (!l.isEmpty)
 | .d (.tup l)=>some (!l.isEmpty)
 | .d (.bl b)=>some b
 | .d (.int i)=>some (i != 0)
 | .d .non=>some false
 | _=>none
def zuR (f:AD):Ev->Mo Bool:=λρ n Q=>f ρ n λw m=>∃b,truD w=some b/\Q b m
def zeM(h:IsL G l xs):xs.isEmpty=l.isEmpty:=by have:=h.length;cases l <;> cases xs <;> right
def zlo (h:JB X Pn M e f)(he:∀whole,isTrue e X.env whole=(do let v <- whole;standAt e.pos;holding [v] (truthy v)):=by intro _;rfl):JT X Pn M e (zuR f):=by
 obtain⟨te,q,r⟩:=h.ex;show⟨_,zl9 q he,⟨λA σ H ρ n Q R E P hf k=>?_⟩⟩;show r.run A σ H ρ n _ _ E P hf λw m v H1 ⟨b,e,r⟩ bb g=>⟨b,?_,k b m H1 r g⟩
 cases w with
 | d x=>
  cases x with
  | lst l=>cases e;obtain⟨ad,xs,rfl,h1,h2⟩:=yM bb;exact .inl ⟨xs,.of h1,by rw[zeM h2]⟩
  | tup l=>cases e;obtain⟨ad,xs,rfl,h1,h2⟩:=xb bb;exact .inr (.inl ⟨xs,.of h1,by rw[zeM h2]⟩)
  | bl b=>cases e;obtain rfl:=zqs bb;rfl
  | int b=>cases e;obtain rfl:=yv bb;rfl
  | non=>cases e;have:v = .non:=bb;subst this;rfl
  | str _=>cases e
  | dct=>cases e
 | _=>cases e
def At3.own(h:At3 Pn B S M A σ H ρ n)(hi:i∈M)(e:ρ[i]?=some (some (.d (.lst l)))):∃q xs,σ[i]?=some (some (.ref q))/\A q/\H q=some (.lst xs)/\IsL (z5 A H) l xs:=by
 obtain⟨v,J,_,F⟩:=h.env.val i _ e;obtain⟨q,rfl,L,I,_⟩:=F hi;obtain⟨O,xs,U,Y,Z⟩:=I;right
def zi0(q:Is G d v):∀ {ds:AS} {xs:AT} (k:Nat),IsL G ds xs->IsL G (ds.set k d) (xs.set k v)
 | [],_,_,h=>by cases h;rfl
 | x::ds,xs,0,⟨y,r,e,h1,h2⟩=>by subst e;exact⟨v,r,rfl,q,h2⟩
 | x::ds,xs,k+1,⟨y,r,e,h1,h2⟩=>by subst e;exact⟨y,_,rfl,h1,zi0 q k h2⟩
def zuO (i:Nat)(fk f:AD):Ms:=λρ n k=>(∃l,ρ[i]?=some (some (.d (.lst l))))/\f ρ n λw m=>fk ρ m λy q=>∃l d j,ρ[i]?=some (some (.d (.lst l)))/\w = .d d/\y = .d (.int j)/\0<=j/\j<l.length/\k.nx (ρ.set i (some (.d (.lst (l.set j.toNat d))))) q
def zmX (i:Nat){x:Str}{np sp:Pos}(hk:JB X Pn M c fc)(he:JE X Pn M fr' e f)(hi:i∈M:=by ext)(hN:X.N[i]?=some x:=by rfl)(hv:Vis X.env.scope x:=by walk_at "v")(hd:Ah x:=by ext)
  (hcd:(x==("__classdict__" : Str))=false:=by ext) (hs:swapsWithSole [.Subscript (.Name x np) c p] e sp.line X.env=pure false:=by rfl) (hw:swappedStores [.Subscript (.Name x np) c p] e X.env=pure none:=by rfl)
  (h1:(assignEach [.Subscript (.Name x np) c p] X.env).map (·.2)=[assign (.Subscript (.Name x np) c p) X.env]:=by rfl) (ha:∀v,assign (.Subscript (.Name x np) c p) X.env v=(do
   let ov <- holding [v] (eval (.Name x np) X.env)
   let iv <- holding [v,ov] (eval c X.env)
   standAt p
   holding [v,ov,iv] (setItem ov iv v)
   release [v,ov,iv] []):=by intro _;rfl) :
  JS X Pn S M fr (.Assign [.Subscript (.Name x np) c p] e sp) (zuO i fc f):=by
 obtain⟨te,q,r⟩:=he.ex;obtain⟨tk,qk,rk⟩:=hk.ex;show⟨_,znb q (zpn (qv i hN hv hd hcd) qk ha) hs hw h1,⟨ ?_⟩⟩;rintro B A σ H ρ n k D a kk ⟨⟨l0,e0⟩,hf⟩;obtain⟨ad,xs0,s0,hA,_⟩:=a.own hi e0;show r.run A σ H ρ n _ _ a.env a.pn hf λw m v H1 r1 hv1 g1 _=>⟨.ref ad,s0,?_⟩;have a1:=a.step g1;show rk.run A σ H1 ρ m _ _ a1.env a1.pn r1  ?_;rintro y m2 v2 H2 ⟨l,d,j,e,ed,ey,j0,j1,r2⟩ b2 g2;subst ed ey;have a2:=a1.step g2;obtain⟨ad2,xs,s2,_,g,hl⟩:=a2.own hi e;rw[s0] at s2;cases s2;exact⟨ad,xs,j,rfl,yv b2,g,j0,by rw[hl.length];exact j1,kk.nx A σ _ _ m2 (a2.wr hi e s0 (zi0 (hv1.stay g2.st).is _ hl)) r2⟩
end
section
variable {A:AL}{H:Hp}
def zte(h:zbH A H [w] vs):∃v,vs=[v]/\Val A H w v:=by obtain⟨v,r,e,h1,h2⟩:=h;cases h2;exact⟨v,e,h1⟩
def ztf(h:zbH A H [w,u] vs):∃v y,vs=[v,y]/\Val A H w v/\Val A H u y:=by obtain⟨v,r,e,h1,h2⟩:=h;obtain⟨y,rfl,q⟩:=zte h2;exact⟨v,y,e,h1,q⟩
def ztg{st:AG}(h:Val A H (.d (stD st)) v):∃a,v = .ref a/\H a=some (.tup (st.map V.int)):=by obtain⟨a,xs,e,h1,h2⟩:=h;obtain rfl:=h2.of_ints;exact⟨a,e,zn _ _ h1⟩
def zrm (st:AG):(stD st).noL=true:=by have:=xU [st];simpa [Dt.noLs] using this
end
structure RoomOk (rm:AG):Prop where
 ne:rm≠[]
 few:rm.length<=8
 box:∀r∈rm,2<=r/\r<=4
def RoomOk.pos {rm:AG}(h:RoomOk rm):1<=rm.length:=by
 cases rm with
 | nil=>exact absurd rfl h.ne
 | cons _ _=>simp
abbrev FV:=PN->AU->Mo W
def ztt (k:Nat)(fr:Bool)(F:FV)(sp:Sp):Prop:=∀vs H Q E,spV k fr F vs H Q E->sp vs H Q E
def FnOk.lift(h:FnOk P w K mg base CX j f fd ps sp)(l:ztt k fr F sp):FnOk P w K mg base CX j f fd ps (spV k fr F):=h.imp l
def zhW:FV:=λPn q n R=>∃p c ns yh,Pn=⟨some (p,c,ns),J0⟩/\q=[.pen p,.d (.int yh)]/\n<=1000000/\1<=yh/\yh<1073741824/\∀r,0<=r->r<yh->R (.d (.int r)) (n+1)
def zjk:ztt 2 false zhW zkg:=by rintro vs H Q E ⟨Pn,A,ws,n,R,al,F,hl,B,⟨p,c,ns,yh,rfl,rfl,h1,h2,I,J⟩,q⟩;obtain⟨v,y,rfl,L,O⟩:=ztf F;have U:v = .ref p:=L;have Y:y = .int yh:=O;subst U Y;exact⟨p,c,ns,n,yh,rfl,B.1.1,h1,h2,I,λr H' Z r1 P' S'=>q _ (n+1) _ H' (J r Z r1) (Val.of rfl) ⟨S',⟨P',B.1.2⟩,trivial⟩ λz=>by cases z⟩
abbrev ztp:FV:=λPn B n R=>∃p c ns q,Pn=⟨some (p,c,ns),J0⟩/\B=[.pen p,.d (.int q)]/\n+20<=1000000/\4<=q/\q<=256/\∀rm,RoomOk rm->yg rm<=q->R (.d (stD rm)) (n+10)
abbrev zmy:FV:=λPn q n R=>∃p c ns rm,Pn=⟨some (p,c,ns),J0⟩/\q=[.pen p,.d (stD rm)]/\n+20<=1000000/\RoomOk rm/\∀st,st.length=rm.length->(∀b:Int,0<=b->b<rm.length->0<=yh st b/\yh st b<yh rm b)->R (.d (stD st)) (n+10)
def zoI (g:List (Int×Int)):(Dt.tup (g.map x4)).noL=true:=by
 have:∀g:List (Int×Int),Dt.noLs (g.map x4)=true:=by
  intro g
  induction g with
  | nil=>rfl
  | cons q g B=>simp only[aB,Dt.noLs,B,cA];rfl
 exact this g
abbrev zet (g:List (Int×Int)):Dt:=.tup (g.map x4)
abbrev zqf:FV:=λPn F n R=>∃p c ns rm B,Pn=⟨some (p,c,ns),J0⟩/\F=[.pen p,.d (stD rm),.d (.int B)]/\n+40<=1000000/\RoomOk rm/\∀g,Giv rm g->(∀q∈g,q.1≠B)->g.length<=8->R (.d (zet g)) (n+30)
abbrev ztR:FV:=λ_ q n R=>∃d,q=[.d d]/\R (.d (.bl d.isWhole)) n
abbrev ztQ:FV:=λ_ q n R=>∃a b,q=[.d (.bl a),.d (.bl b)]/\R (.d (.bl (a==b))) n
abbrev F_prod:FV:=λ_ q n R=>∃ns:AG,q=[.d (stD ns)]/\(∀n∈ns,2<=n/\n<=4)/\R (.d (.int (yg ns))) n
abbrev ztP:FV:=λ_ B n R=>∃st g,B=[.d (stD st),.d (zet g)]/\(∀q∈g,0<=q.1/\q.1<st.length)/\R (.d (.bl (xS st g))) n
abbrev xf (sts:AF):Dt:=.lst (sts.map stD)
def zpV{sts:AF}(F:Al A H)(s:y3 H H')(n:H a=none)(h:H' a=some (.lst ys))(I:IsL H' (sts.map stD) ys):Val A H' (.d (xf sts)) (.ref a)/\FrV A H H' (.d (xf sts)) (.ref a):=by
 have q:=F.stay (zu.same s);have B:=zaA q.noT (xU sts) I;show⟨Val.of ⟨a,ys,rfl,zy (F.new n) h,B⟩,a,rfl,.of n,a,ys,rfl,h,zaA (λb xs z e=>?_) (xU sts) I⟩;rcases z with z | z;exact q.noT b xs z e;grind
abbrev F_all:FV:=λ_ q n R=>∃rm,q=[.d (stD rm)]/\RoomOk rm/\yg rm<=256/\R (.d (xf (yj (rm.map zk)))) n
abbrev lsD (c:AG):Dt:=.lst (c.map .int)
abbrev zcV:FV:=λ_ q n R=>∃cs:AF,q=[.d (.lst (cs.map lsD))]/\cs.length<=8/\(∀c∈cs,c.length<=4)/\R (.d (xf (yj cs))) n
def zlv(s:y3 G H):∀ {cs:AF} {xs:AT},IsL G (cs.map lsD) xs->zqi H xs cs:=λ{cs xs} h=>by show⟨by rw[h.length,ab],λi c F=>?_⟩;obtain⟨v,h1,h2⟩:=h.getD (i:=i) (d:=lsD c) (by right);obtain⟨a,ys,rfl,q,B⟩:=h2;obtain rfl:=B.of_ints;exact⟨a,h1,s _ _ q⟩
def zdO:ztt 1 true zcV (zdg K):=by rintro vs H Q E ⟨Pn,A,ws,n,R,I,J,hl,L,⟨cs,rfl,h1,h2,O⟩,q⟩;obtain⟨v,rfl,U⟩:=zte J;obtain⟨a,xs,rfl,Y,Z⟩:=U;show⟨a,xs,cs,rfl,zn _ _ Y,zlv zn Z,h1,h2,λa ys H' na B F S=>?_⟩;obtain⟨z1,z2⟩:=zpV I S na B F;exact q _ n _ H' O z1 (Go.same L S) λ_=>z2
def zuV {P:Aa}{w:Ab}{K:AH}{mg:AI}{base:Heap}{x F:Str}{st:Stmt}{f:Addr}{fd:Ac}{N ps:AM}{k r:Nat}{S:AR}(M:AR)(Fu:Fun K x F st f fd)(Sc:FnScope N ps (ze st))(ag:ps.length=1)(hN:N.length=r+2)(hM:∀i∈M,2<=i)
  (U:∀ (J:Value) (A:Ae) (B:List Env) (s:AZ) (H:Hp) (E:XK) (Pn:PN),Room k (A.deeper (PyProof.Rows.envOfC F (ze st) s.heap.objs.size f J))->
   ∃O zQ fs,zJ st=O::zQ/\QS (zcL CX0 P w K mg base N F (ze st) f J A B s H E).nox O (zfC (zfv (zmk K) [] E0 (zcB (zkG 0) znq)) (uT 1))/\
    JSs (zcL CX0 P w K mg base N F (ze st) f J A B s H E).nox Pn S M false zQ fs/\∀p c ns,Pn=⟨some (p,c,ns),J0⟩->fs (none::some (.pen p)::List.replicate r none) 0 { nx:=λ_ _=>False,rt:=λw _=>w = .d (.bl true) }):FnOk P w K mg base CX0 (k+1) f fd ps (zkh K):=by
 show Fun.okQ Fu Sc (λvs H Q E h=>?_) (λJ A B s H vs Q E hr h=>?_);obtain⟨a,ns,rfl,_⟩:=h;exact ag.symm;obtain⟨a,ns,rfl,hS,hl,q⟩:=h;have Y:=λ(Pn:PN)=>U J A B s H E Pn hr;have ad:L2.y4 N [.ref a]=some (.ref a)::none::List.replicate r none:=by unfold L2.y4;rw[hN];rfl
 have hd:∃O zQ,zJ st=O::zQ:=let ⟨O,zQ,_,e,_⟩:=Y ⟨none,J0⟩;⟨O,zQ,e⟩;obtain⟨O,zQ,e0⟩:=hd;rw[e0];have c2:∀Pn,∃fs,JSs (zcL CX0 P w K mg base N F (ze st) f J A B s H E).nox Pn S M false zQ fs/\∀p c ns,Pn=⟨some (p,c,ns),J0⟩->fs (none::some (.pen p)::List.replicate r none) 0 { nx:=λ_ _=>False,rt:=λw _=>w = .d (.bl true) }:=λPn=>by obtain⟨al,Z,fs,e,_,h1,h2⟩:=Y Pn;rw[e0] at e;cases e;exact⟨fs,h1,h2⟩
 have q1:QS (zcL CX0 P w K mg base N F (ze st) f J A B s H E).nox O (zfC (zfv (zmk K) [] E0 (zcB (zkG 0) znq)) (uT 1)):=by
  obtain⟨al,Z,fs,e,h0,_⟩:=Y ⟨none,J0⟩;right
 show⟨_,yb q1 (u:=λD σ H=>∃Pn,(c2 Pn).choose_spec.1.ex.choose D σ H) ⟨λpins s' σ H D I ⟨Pn,z⟩=>(c2 Pn).choose_spec.1.ex.choose_spec.1.run pins s' σ H D I z⟩,?_⟩;show⟨.ref a,by rw[ad];rfl,a,ns,rfl,hS,hl,λp c H1 P1 S1=>⟨⟨some (p,c,ns),J0⟩,?_⟩⟩;have hs:=(c2 ⟨some (p,c,ns),J0⟩).choose_spec.2 p c ns rfl;have e1:(L2.y4 N [.ref a]).set 1 (some (.ref p))=some (.ref a)::some (.ref p)::List.replicate r none:=by rw[ad];rfl
 rw[e1]
 have L:∀i (u:W),(none::some (.pen p)::List.replicate r none:Ev)[i]?=some (some u)->i=1/\u = .pen p:=λi u e=>by
  match i,e with
  | 0,e=>simp at e
  | 1,e=>exact⟨rfl,by simpa using e.symm⟩
  | i+2,e=>
   simp only[bt] at e;obtain⟨_,q⟩:=ac.mp e;right
 show (c2 ⟨some (p,c,ns),J0⟩).choose_spec.1.ex.choose_spec.2.run { A0:=λ_=>False,H0:=λ_=>none,G0:=λ_=>none,σ0:=some (.ref a)::some (.ref p)::List.replicate r none } (λ_=>False) _ H1 _ 0 _ _ ⟨⟨?_,?_,?_,λ_ z=>z.elim⟩,⟨λ_ z=>z,λ_ z=>z.elim,(λb o (z:(none:Option HO)=some o)=>nomatch z),λ_ z=>z.elim,λ_ z=>z.elim,λ_ z=>z.elim⟩,⟨⟨P1,λz=>z,λz=>z⟩,trivial⟩,(λb o (z:(none:Option HO)=some o)=>nomatch z),⟨λi hi=>rfl,λ_=>⟨λb xs (z:(none:Option HO)=some (.lst xs))=>(nomatch z),λb xs (z:(none:Option HO)=some (.lst xs))=>(nomatch z)⟩⟩,?_⟩ ⟨?_,?_,?_,λ_ z=>z,?_⟩ hs;simp;intro i u e;obtain⟨rfl,rfl⟩:=L i u e;exact⟨.ref p,rfl,λ_=>rfl,λz=>absurd (hM 1 z) (by lia)⟩;intro i j u u' b hi hj an e1;obtain⟨rfl,rfl⟩:=L i u e1;exact absurd (hM 1 hi) (by lia);intro i u b hi e;obtain⟨rfl,rfl⟩:=L i u e;exact absurd (hM 1 hi) (by lia);intro _ _ _ _ _ _ z;exact z.elim;intro _ _ _ _ _ _ z;exact z.elim;intro _ _ _ _ _ _ z;exact z.elim;intro w n' v H' hv st pn _ r;have r':w = .d (.bl true):=r;subst r';have:v = .bl true:=hv;subst this;exact q H'
def zig {α:Type}{l:AU}{F:Ev}{n:Nat}{mg:W->Ev->(Ev->Prop)->Prop}{Y:Ev->Mo Bool}{Z:AD}{Q:AV}(xs:List α)(I:α->W)(hl:l=xs.map I)(J:Ev->Prop)(P:α->Bool)(E:α->Dt)(ad:xs.length<=lim)(j0:J F)
  (h:∀a∈xs,∀ B,J B->∀C:Ev->Nat->Option Dt->Prop,(∀ q,J q->C q n (if P a then some (E a) else none))->mg (I a) B λq=>Y q n λb n2=>if b=true then Z q n2 λx L=>∃d,x = .d d/\C q L (some d) else C q n2 none)
  (fin:Q (.d (.lst ((xs.filter P).map E))) n):zeG mg Y Z F Q l n:=by
 subst hl;show⟨by right,λi B O acc=>J B/\O=n/\acc=((xs.take i).filter P).map E,⟨j0,rfl,by simp⟩,?_,?_⟩;rintro i w B O acc hw ⟨hj,rfl,rfl⟩;rw[aj] at hw;obtain⟨a,ha,rfl⟩:=aA.mp hw
 have:=h a (ak ha) B hj (λq L o=>match o with
  | some d=>J q/\L=O/\((xs.take i).filter P).map E++[d]=((xs.take (i+1)).filter P).map E
  | none=>J q/\L=O/\((xs.take i).filter P).map E=((xs.take (i+1)).filter P).map E) (λq U=>by
   rw[zh ha,cV,aF];by_cases hp:P a=true;right;rw[if_neg hp];exact⟨U,rfl,by simp[hp]⟩)
 exact this;grind
def zkS {α:Type}{l:AU}{F:Ev}{n:Nat}{mg:W->Ev->(Ev->Prop)->Prop}{Y:AD}{Q:AV}(xs:List α)(I:α->W)(hl:l=xs.map I)(J:Ev->Prop)(E:α->Dt)(Z:xs.length<=lim)(j0:J F)
  (h:∀a∈xs,∀ B,J B->∀C:Ev->Nat->Dt->Prop,(∀ q,J q->C q n (E a))->mg (I a) B λq=>Y q n λx L=>∃d,x = .d d/\C q L d)
  (fin:Q (.d (.lst (xs.map E))) n):zeG mg ztD Y F Q l n:=by
 subst hl;show⟨by right,λi B O acc=>J B/\O=n/\acc=(xs.take i).map E,⟨j0,rfl,by simp⟩,?_,?_⟩;rintro i w B O acc hw ⟨hj,rfl,rfl⟩;rw[aj] at hw;obtain⟨a,ha,rfl⟩:=aA.mp hw;exact h a (ak ha) B hj (λq L d=>J q/\L=O/\(xs.take i).map E++[d]=(xs.take (i+1)).map E) λq U=>⟨U,rfl,by rw[zh ha,aF];rfl⟩;grind
def zn6(I:Nat->Ev->Nat->Prop)(O:I 0 ρ n)(h:∀i q B,i<r->I i q B->mg (.d (.int (i:Int))) q λF=>fb F B { k with nx:=I (i+1),ct:=I (i+1),bk:=k.nx })(U:∀ q B,I r q B->k.nx q B):zqU mg fb ρ k (zev 0 r) n:=by
 show⟨I,O,λi w q B J L=>?_,λq B L=>U q B ?_⟩;unfold zev at J;rw[aj] at J;obtain⟨j,h1,rfl⟩:=aA.mp J;obtain⟨hi,h2⟩:=ac.mp h1;rw[bF] at h2;right;unfold zev at L;right
def ziJ{α:Type}(xs:List α)(F:α->W)(U:l=xs.map F)(I:Nat->Ev->Nat->Prop)(Y:I 0 ρ n)(h:∀i a q B,xs[i]?=some a->I i q B->mg (F a) q λJ=>fb J B { k with nx:=I (i+1),ct:=I (i+1),bk:=k.nx })(Z:∀ q B,I xs.length q B->k.nx q B):zqU mg fb ρ k l n:=by
 subst U;show⟨I,Y,λi w q B L O=>?_,λq B O=>Z q B (by right)⟩;rw[aj] at L;obtain⟨a,ha,rfl⟩:=aA.mp L;exact h i a q B ha O
def zeQ(I:Nat->Ev->Nat->Prop)(L:I 0 ρ n)(h:∀i q F,i<r->I i q F->∀ (C B:Ev->Nat->Prop) (E:AV),(∀ {ρ m},I (i+1) ρ m->C ρ m)->(∀ {ρ m},k.nx ρ m->B ρ m)->(∀ {w m},k.rt w m->E w m)->mg (.d (.int (i:Int))) q λJ=>fb J F { rt:=E,nx:=C,ct:=C,bk:=B })(O:∀ q F,I r q F->k.nx q F):zqU mg fb ρ k (zev 0 r) n:=
 zn6 I L (λi q F hi U=>h i q F hi U (I (i+1)) k.nx k.rt (λz=>z) (λz=>z) λz=>z) O
def zL{α:Type}(xs:List α)(F:α->W)(O:l=xs.map F)(I:Nat->Ev->Nat->Prop)(U:I 0 ρ n)(h:∀i a q J,xs[i]?=some a->I i q J->∀ (C B:Ev->Nat->Prop) (E:AV),(∀ {ρ m},I (i+1) ρ m->C ρ m)->(∀ {ρ m},k.nx ρ m->B ρ m)->(∀ {w m},k.rt w m->E w m)->mg (F a) q λL=>fb L J { rt:=E,nx:=C,ct:=C,bk:=B })(Y:∀ q J,I xs.length q J->k.nx q J):zqU mg fb ρ k l n:=
 ziJ xs F O I U (λi a q J Z hI=>h i a q J Z hI (I (i+1)) k.nx k.rt (λz=>z) (λz=>z) λz=>z) Y
def zkR{α:Type}(xs:List α)(L:α->W)(hl:l=xs.map L)(Y:xs.length<=lim)(I:Nat->Ev->Nat->AS->Prop)(h0:I 0 J n [])(h:∀i a q B acc,xs[i]?=some a->I i q B acc->∀C:Ev->Nat->AS->Prop,(∀ {ρ m l},I (i+1) ρ m l->C ρ m l)->mg (L a) q λF=>O F B λb Z=>if b=true then U F Z λx n3=>∃d,x = .d d/\C F n3 (acc++[d]) else C F Z acc)(fin:∀ q B acc,I xs.length q B acc->Q (.d (.lst acc)) B):zeG mg O U J Q l n:=by
 subst hl;show⟨by right,I,h0,λi w q B acc hw hI=>?_,λq B acc hI=>fin q B acc (by right)⟩;rw[aj] at hw;obtain⟨a,ha,rfl⟩:=aA.mp hw;exact h i a q B acc ha hI (I (i+1)) λz=>z
def zcW {α:Type}{l:List α}{i:Nat}{x:α}(h:l[i]?=some x):atI l (i:Int)=some x:=by
 have:=(ac.mp h).1;unfold atI ixN;right
def zql {α:Type}{l:List α}{i:Int}(B:0<=i)(h1:i<l.length):∃d,atI l i=some d/\d∈l:=by
 obtain⟨j,rfl⟩:∃j:Nat,i=j:=⟨i.toNat,by lia⟩;have q:j<l.length:=by lia
 exact⟨l[j],zcW (ah q),bL q⟩
def znD {st:AG}{b:Int}(B:0<=b)(h1:b<st.length):atI (st.map Dt.int) b=some (.int (yh st b)):=by
 obtain⟨j,rfl⟩:∃j:Nat,b=j:=⟨b.toNat,by lia⟩;have q:j<st.length:=by lia
 show zcW ?_;rw[aj,ah q,zK];simp[q]
def gw (g:List (Int×Int))(i:Nat):AQ:=(g.find? λq=>decide (q.1=(i:Int))).map (·.2)
def znU (rm:AG):enW 0 (rm.map Dt.int)=(List.range rm.length).map λi:Nat=>W.d (.tup [.int (i:Int),.int (rm.getD i 0)]):=by
 apply c9;intro i;rw[zdE,aj,aj];by_cases h:i<rm.length
 all_goals right
def cho (rm:AG)(g:List (Int×Int))(i:Nat):AG:=match gw g i with
 | some w=>[w]
 | none=>zk (rm.getD i 0)
def chs (rm:AG)(g:List (Int×Int)):AF:=(List.range rm.length).map (cho rm g)
def zuC (rm:AG)(g:List (Int×Int)):AF:=yj (chs rm g)
section
variable {X:Cx}{Pn:PN}{M S:AR}{fr fr':Bool}{e a b c:Expr}{es:AO}{f fa fb fc:AD}{pos p p2:Pos}
def zow (fa:AC):AC:=λρ n Q=>fa ρ n λq m=>∃l,q=[.d (.lst l)]/\Q (enW 0 l) m
def zi4(h:z5 A H q=some (.lst xs))(B:IsL (z5 A H) l xs):ItV false A H (Iel K q) (enW 0 l) where
 one:=λi w A2 H2 e s _ J=>by rw[zdE] at e;obtain⟨d,h1,rfl⟩:=aA.mp e;obtain⟨x,F,L⟩:=B.getD h1;have g:=zn _ _ (s.lst h);show⟨⟨xs,x,.of g,F⟩,?_⟩;rintro y H3 ⟨T,z,O,I,U,Y⟩;subst O U;have:=Y xs (.of g);rw[F] at this;cases this;have S:=y3.upd (o:=.tup [.int i,x]) I;show⟨S,Val.of ⟨T,_,rfl,zy (J T I) zj,_,_,rfl,?_,_,_,rfl,(L.stay s).stay (zu.same (uV S)),rfl⟩⟩;change V.int (i:Int)=V.int ((0+i:Nat):Int);rw[Nat.zero_add]
 stop:=λA2 H2 s _=>⟨xs,.of (zn _ _ (s.lst h)),by rw[ziy,B.length];exact ai _⟩
def zdM{x1}(F:Gl X "enumerate")(I:X.mg "enumerate" = none)(J:JA X Pn M [a] fs)(hs:starEach [a] X.env=[(false,eval a X.env)]:=by rfl):JI X Pn M false (.Tuple elts x1 tpos) (.Call (.Name "enumerate" p) [a] [] pos) (zow fs):=by obtain⟨te,q,r⟩:=J.ex;show⟨_,zl5 F I q hs,⟨λA σ H ρ n Q R E P L k=>?_⟩⟩;show r.run A σ H ρ n _ _ E P L  ?_;rintro Z m vs H1 ⟨l,e,r⟩ O g;subst e;obtain⟨v,s,rfl,⟨U,xs,rfl,B,Y⟩,hs⟩:=O;cases hs;exact⟨U,rfl,⟨xs,.of (zn _ _ B)⟩,k _ m _ H1 r (zi4 B Y) g⟩
def zhj:∀ (l k:AS) (i:Nat),(ziW l k)[i]?=(l[i]?).bind λx=>(k[i]?).map λy=>W.d (.tup [x,y])
 | [],_,_=>by simp[ziW]
 | _::_,[],_=>by simp[ziW]
 | x::r,y::s,0=>by simp[ziW]
 | x::r,y::s,i+1=>by have:=zhj r s i;simp only[ziW,bt,this]
def zhk:∀ (l k:AS),(ziW l k).length=min l.length k.length
 | [],_=>by simp[ziW]
 | _::_,[]=>by simp[ziW]
 | x::r,y::s=>by rw[ziW,aO,aO,aO,zhk r s];lia
def zox (fa:AC):AC:=λρ n Q=>fa ρ n λq m=>∃l k,q=[.d (.lst l),.d (.lst k)]/\Q (ziW l k) m
def zlj(h:z5 A H I=some (.lst xs))(L:IsL (z5 A H) l xs)(h':z5 A H J=some (.lst ys))(O:IsL (z5 A H) k ys):ItV false A H (Izl K I J) (ziW l k) where
 one:=λi w A2 H2 e s _ hA=>by rw[zhj] at e;obtain⟨d,h1,e⟩:=dF.mp e;obtain⟨d',q,rfl⟩:=aA.mp e;obtain⟨x,U,hd⟩:=L.getD h1;obtain⟨y,Y,B⟩:=O.getD q;have g:=zn _ _ (s.lst h);have g':=zn _ _ (s.lst h');show⟨⟨xs,ys,x,y,.of g,.of g',U,Y⟩,?_⟩;rintro v H3 ⟨T,z,z',e1,Z,e3,hz,F⟩;subst e1 e3;have q1:=hz xs (.of g);have q2:=F ys (.of g');rw[U] at q1;rw[Y] at q2;cases q1;cases q2;have S:=y3.upd (o:=.tup [x,y]) Z;exact⟨S,Val.of ⟨T,_,rfl,zy (hA T Z) zj,_,_,rfl,(hd.stay s).stay (zu.same (uV S)),_,_,rfl,(B.stay s).stay (zu.same (uV S)),rfl⟩⟩
 stop:=λA2 H2 s _=>⟨xs,ys,.of (zn _ _ (s.lst h)),.of (zn _ _ (s.lst h')),by rw[zhk,L.length,O.length];lia⟩
def zi8 {elts:AO}{x1}{tpos:Pos}{fs:AC}(J:Gl X "zip")(L:X.mg "zip" = none)(O:JA X Pn M [a,b] fs)(hs:starEach [a,b] X.env=[(false,eval a X.env),(false,eval b X.env)]:=by rfl)(I:starEach [b] X.env=[(false,eval b X.env)]:=by rfl):JI X Pn M false (.Tuple elts x1 tpos) (.Call (.Name "zip" p) [a,b] [] pos) (zox fs):=by obtain⟨te,q,r⟩:=O.ex;show⟨_,zpt J L q hs I,⟨λA σ H ρ n Q R E P U k=>?_⟩⟩;show r.run A σ H ρ n _ _ E P U  ?_;rintro ws m vs H1 ⟨l,kk,e,r⟩ Y g;subst e;obtain⟨v,s,rfl,⟨Z,xs,rfl,B,hl⟩,v2,s2,rfl,⟨bd,ys,rfl,F,hk⟩,hs⟩:=Y;cases hs;exact⟨Z,bd,rfl,⟨xs,.of (zn _ _ B)⟩,⟨ys,.of (zn _ _ F)⟩,k _ m _ H1 r (zlj B hl F hk) g⟩
def zuH (i:Nat)(f:AD):Ms:=λρ n k=>(∃l,ρ[i]?=some (some (.d (.lst l))))/\f ρ n λw m=>∃l q,ρ[i]?=some (some (.d (.lst l)))/\w = .d (.lst q)/\l.length+q.length<=lim/\k.nx (ρ.set i (some (.d (.lst (l++q))))) m
def zja (i:Nat){x:Str}{ap O sp U:Pos}(he:JE X Pn M fr' e f)(hi:i∈M:=by ext)(hN:X.N[i]?=some x:=by rfl)(hv:Vis X.env.scope x:=by walk_at "v")(hd:Ah x:=by ext)
  (al:(x==("__classdict__" : Str))=false:=by ext) (Y:starEach (e::[]) X.env=(false,eval e X.env)::starEach [] X.env:=by rfl) (hs:swapsWith (.Call (.Attribute (.Name x U) "extend" ap) [e] [] O) none sp.line X.env=pure false:=by rfl) (J:attributeBase (.Name x U) "extend" X.env (eval (.Name x U) X.env)=eval (.Name x U) X.env:=by rfl) (L:(ap.endLine==O.line)=true:=by rfl)
  (Z:((backTo O (starEach [e] X.env)).all (λx=>!x.1)&&(backToKw O (keywordEach [] X.env)).all (λx=>x.1.isSome)&&decide (([e]:AO).length+([]:List Keyword).length+(if ([]:List Keyword).isEmpty then 0 else 1)<30))=true:=by rfl) (I:(backTo O (starEach [] X.env)).any (·.1)=false:=by rfl) :
  JS X Pn S M fr (.Expr (.Call (.Attribute (.Name x U) "extend" ap) [e] [] O) sp) (zuH i f):=by
 obtain⟨te,q,r⟩:=he.ex;show⟨_,zcl (zfj bE PySem.F.slot_list_extend PySem.F.type_list_extend zjy (qv i hN hv hd al) (zG q yk Y) J Z L Y I) hs,⟨ ?_⟩⟩;rintro B A σ H ρ n k D a kk ⟨⟨l0,e0⟩,hf⟩;obtain⟨ad,as,s1,hA,g0,_⟩:=a.own hi e0;show⟨.ref ad,s1,.inl ⟨rfl,_,SqL.of g0⟩,?_⟩;show r.run A σ H ρ n _ _ a.env a.pn hf  ?_;rintro w m v H' ⟨l,l2,e,ed,hz,r⟩ hv g _;subst ed;have a':=a.step g;obtain⟨av,xs,s2,_,g4,hl⟩:=a'.own hi e;rw[s1] at s2;cases s2;obtain⟨b2,ys,rfl,an,ag⟩:=hv;exact⟨ad,b2,xs,ys,rfl,rfl,g4,zn _ _ an,zc3 (by rw[hl.length,ag.length];exact hz),kk.nx A σ _ _ m (a'.wr hi e s1 (hl.append ag)) r⟩
def zmR {α:Type}(l:List α)(k:Nat)(x:α):List α:=l.take k++x::l.drop k
def zuJ (i:Nat)(fk f:AD):Ms:=λρ n k=>(∃l,ρ[i]?=some (some (.d (.lst l))))/\fk ρ n λy m=>f ρ m λw q=>∃l d j,ρ[i]?=some (some (.d (.lst l)))/\w = .d d/\y = .d (.int j)/\0<=j/\j<=l.length/\l.length<lim/\k.nx (ρ.set i (some (.d (.lst (zmR l j.toNat d))))) q
def zq7(i:Nat){x:Str}{ap O sp U:Pos}(hc:JE X Pn M ag c fc)(he:JE X Pn M fr' e f)(hi:i∈M:=by ext)(hN:X.N[i]?=some x:=by rfl)(hv:Vis X.env.scope x:=by walk_at "v")(hd:Ah x:=by ext)(al:(x==("__classdict__" : Str))=false:=by ext)(Y:starEach (c::[e]) X.env=(false,eval c X.env)::starEach [e] X.env:=by rfl)(an:starEach (e::[]) X.env=(false,eval e X.env)::starEach [] X.env:=by rfl)(hs:swapsWith (.Call (.Attribute (.Name x U) "insert" ap) [c,e] [] O) none sp.line X.env=pure false:=by rfl)(J:attributeBase (.Name x U) "insert" X.env (eval (.Name x U) X.env)=eval (.Name x U) X.env:=by rfl)(L:(ap.endLine==O.line)=true:=by rfl)(Z:((backTo O (starEach [c,e] X.env)).all (λx=>!x.1)&&(backToKw O (keywordEach [] X.env)).all (λx=>x.1.isSome)&&decide (([c,e]:AO).length+([]:List Keyword).length+(if ([]:List Keyword).isEmpty then 0 else 1)<30))=true:=by rfl)(I:(backTo O (starEach [e] X.env)).any (·.1)=false:=by rfl) :
  JS X Pn S M fr (.Expr (.Call (.Attribute (.Name x U) "insert" ap) [c,e] [] O) sp) (zuJ i fc f):=by
 obtain⟨te,q,r⟩:=he.ex;obtain⟨tc,qc,rc⟩:=hc.ex;show⟨_,zcl (zfj bE PySem.F.slot_list_insert PySem.F.type_list_insert zjA (qv i hN hv hd al) (zG qc (zG q yk an) Y) J Z L Y I) hs,⟨ ?_⟩⟩;rintro B A σ H ρ n k D a kk ⟨⟨l0,e0⟩,hf⟩;obtain⟨ad,av,s1,hA,g0,_⟩:=a.own hi e0;show⟨.ref ad,s1,.inl ⟨rfl,_,SqL.of g0⟩,?_⟩;show rc.run A σ H ρ n _ _ a.env a.pn hf λw1 m1 v1 H1 r1 as g1 _=>?_;have a1:=a.step g1;show r.run A σ H1 ρ m1 _ _ a1.env a1.pn r1  ?_;rintro w m v H' ⟨l,d,j,e,ed,ey,j0,j1,hz,r⟩ hv g _;subst ed ey;have e1:v1 = .int j:=as;subst e1;have a':=a1.step g;obtain⟨a0,xs,s2,_,g4,hl⟩:=a'.own hi e;rw[s1] at s2;cases s2;show⟨ad,xs,j,v,rfl,rfl,g4,j0,by rw[hl.length];exact j1,zc4 (by rw[hl.length];exact cg hz),kk.nx A σ _ _ m (a'.wr hi e s1 ?_) r⟩;exact (hl.take _).append ⟨v,_,rfl,hv.is,hl.drop _⟩
def zeU:∀ {ds:AS} {xs:AT} (k:Nat),IsL G ds xs->IsL G (ds.eraseIdx k) (xs.eraseIdx k)
 | [],_,_,h=>by cases h;rfl
 | x::ds,xs,0,⟨y,r,e,h1,h2⟩=>by subst e;exact h2
 | x::ds,xs,k+1,⟨y,r,e,h1,h2⟩=>by subst e;exact⟨y,_,rfl,h1,zeU k h2⟩
def zoD (i:Nat)(fk:AD):Ms:=λρ n k=>(∃l,ρ[i]?=some (some (.d (.lst l))))/\fk ρ n λy m=>∃l j,ρ[i]?=some (some (.d (.lst l)))/\y = .d (.int j)/\0<=j/\j<l.length/\l.length<=lim/\k.nx (ρ.set i (some (.d (.lst (l.eraseIdx j.toNat))))) m
def znm {n:Nat}{j:Int}(q:0<=j)(h1:j<n):seqIndex? j n=some j.toNat:=(zf0 (by unfold ixN;rw[if_pos q,if_pos h1])).1
def zol (i:Nat){x:Str}{Z L sp O:Pos}(hc:JB X Pn M c fc)(hi:i∈M:=by ext)(hN:X.N[i]?=some x:=by rfl)(hv:Vis X.env.scope x:=by walk_at "v")(hd:Ah x:=by ext)
  (ag:(x==("__classdict__" : Str))=false:=by ext) (U:starEach (c::[]) X.env=(false,eval c X.env)::starEach [] X.env:=by rfl) (hs:swapsWith (.Call (.Attribute (.Name x O) "pop" Z) [c] [] L) none sp.line X.env=pure false:=by rfl) (I:attributeBase (.Name x O) "pop" X.env (eval (.Name x O) X.env)=eval (.Name x O) X.env:=by rfl) (J:(Z.endLine==L.line)=true:=by rfl)
  (Y:((backTo L (starEach [c] X.env)).all (λx=>!x.1)&&(backToKw L (keywordEach [] X.env)).all (λx=>x.1.isSome)&&decide (([c]:AO).length+([]:List Keyword).length+(if ([]:List Keyword).isEmpty then 0 else 1)<30))=true:=by rfl) (q:(backTo L (starEach [] X.env)).any (·.1)=false:=by rfl) :
  JS X Pn S M fr (.Expr (.Call (.Attribute (.Name x O) "pop" Z) [c] [] L) sp) (zoD i fc):=by
 obtain⟨tc,qc,rc⟩:=hc.ex;show⟨_,zcl (zfj bE PySem.F.slot_list_pop PySem.F.type_list_pop zgZ (qv i hN hv hd ag) (zG qc yk U) I Y J U q) hs,⟨ ?_⟩⟩;rintro B A σ H ρ n k D a kk ⟨⟨l0,e0⟩,hf⟩;obtain⟨ad,as,s1,hA,g0,_⟩:=a.own hi e0;show⟨.ref ad,s1,.inl ⟨rfl,_,SqL.of g0⟩,?_⟩;show rc.run A σ H ρ n _ _ a.env a.pn hf  ?_;rintro w m v H' ⟨l,j,e,ey,j0,j1,hz,r⟩ hv g;subst ey;have e1:v = .int j:=hv;subst e1;have a':=a.step g;obtain⟨av,xs,s2,_,g4,hl⟩:=a'.own hi e;rw[s1] at s2;cases s2;have al:=hl.length;have an:(l.length:Int)<=500000:=by have:l.length<=500000:=hz;lia
 exact⟨ad,xs,j,j.toNat,xs[j.toNat]'(by lia),rfl,rfl,g4,by lia,by lia,znm j0 (by lia),ah _,kk.nx A σ _ _ m (a'.wr hi e s1 (zeU _ hl)) r⟩
def zn4:W->W->Mo W:=λx y n Q=>∃l j,x = .d (.lst l)/\y = .d (.int j)/\0<=j/\j<=1000000/\l.length * j.toNat<=lim/\Q (.d (.lst (List.replicate j.toNat l).flatten)) n
def ztd:F2 Pn true ztK zn4:=⟨by
 rintro A H x y Z wy n Q R I J q P ⟨l,j,L,O,j1,j2,z,h⟩ k;subst L O;obtain⟨a,xs,U,Y,B⟩:=yM J;show⟨a,j,xs,U,yv q,Y,by lia,by lia,zc3 (by rw[B.length];exact z),λp F=>?_⟩;have S:=y3.upd (o:=.lst (List.replicate j.toNat xs).flatten) F;exact k _ n _ _ h (x8 (zfY B _) (zu.same S) (I.new F) zj) (Go.same P S) λz=>uu (zfY B _) S F zj⟩
def ziE:AU->Mo W:=λB n Q=>∃ns:AG,B=[.d (.lst (ns.map .int))]/\ns.length<64/\∀q:AG,q.Perm ns->q.Pairwise (·<=·)->Q (.d (.lst (q.map .int))) n
def zp6:FL Pn true zj2 ziE:=⟨by
 rintro A H xs Y n Q R I b P ⟨ns,e,q,h⟩ k;subst e;obtain⟨v,rfl,J⟩:=za9 b;obtain⟨a,ys,rfl,L,O⟩:=yM J;obtain rfl:=O.of_ints;exact⟨a,ns,rfl,L,q,λB U hs p H' F g S=>k _ n _ H' (h B U hs) (x8 (H:=H) IsL.ints (zu.same S) (I.new F) g) (Go.same P S) λz=>uu (H:=H) IsL.ints S F g⟩⟩
def ziG:AU->Mo W:=λB n Q=>∃ (sts:AF) (m:Nat),B=[.d (.lst (sts.map stD))]/\sts.length<64/\1<=m/\(∀st∈sts,st.length=m)/\sts.Nodup/\∀q:AF,q.Perm sts->(q.Pairwise λa b=>HT.lexLt a b=true)->Q (.d (xf q)) n
def zp7:FL Pn true zpB ziG:=⟨by
 rintro A H xs ws n Q R L b P ⟨sts,m,e,F,h1,U,I,h⟩ k;subst e;obtain⟨v,rfl,Y⟩:=za9 b;obtain⟨a,ys,rfl,Z,hl⟩:=yM Y;show⟨a,ys,sts,m,rfl,Z,hl.stay (zu.same zn),F,h1,U,I,λJ q hy hp hs p H' O g S=>?_⟩;have B:IsL (z5 A H) (q.map stD) J:=zaA L.noT (xU q) hy;exact k _ n _ H' (h q hp hs) (x8 B (zu.same S) (L.new O) g) (Go.same P S) λz=>uu B S O g⟩
def zi6:JE X Pn M true (.Dict [] [] pos) (mC (.dt [])):=⟨_,zl1,⟨λA σ H ρ n Q R E P B k=>λp H' q g S=>k _ n _ H' B ⟨p,[],rfl,zy (E.new q) g,rfl⟩ (Go.same P S) λ_=>⟨p,rfl,.of q,p,[],rfl,g,rfl⟩⟩⟩
def zjq (fd fk:AD):AD:=λρ n Q=>fd ρ n λx q=>fk ρ q λy B=>∃kvs st d,x = .dt kvs/\y = .d (stD st)/\yy kvs st=some d/\Q (.d d) B
def xp (I:X.A.units+1<cLine)(J:JB X Pn M a fa)(L:JB X Pn M b fb)(hs:zqj b):JE X Pn M false (.Subscript a b pos) (zjq fa fb):=by obtain⟨ta,O,U⟩:=J.ex;obtain⟨tb,Y,Z⟩:=L.ex;show⟨_,x6 I O Y hs,⟨λA σ H ρ n Q R E P hf k=>?_⟩⟩;show U.run A σ H ρ n _ _ E P hf λw1 m1 v1 H1 r1 b1 q=>?_;show Z.run A σ H1 ρ m1 _ _ (E.stay q.st) q.pn r1  ?_;rintro w2 m2 v2 H2 ⟨kvs,st,d,e1,e2,e3,r⟩ b2 g2;subst e1 e2;obtain⟨ad,ks,rfl,B,hk⟩:=b1.stay g2.st;obtain⟨bd,xs,rfl,F,hx⟩:=xb b2;obtain rfl:=hx.of_ints;obtain⟨v,h1,h2⟩:=(hk.look (k:=st)).2 d e3;show⟨ad,v,rfl,?_,k _ m2 _ H2 r (Val.of h2) (q.trans g2) λz=>by cases z⟩;rw[<- h1];exact zcE.i B F
def zeu {κ:Type}[DecidableEq κ](kvs:List (κ×Dt))(k:κ)(d:Dt):List (κ×Dt):=
 if (kvs.any λkv=>decide (kv.1=k))=true then kvs.map (λkv=>if kv.1=k then (kv.1,d) else kv) else kvs++[(k,d)]
def uH.any {κ:Type}[DecidableEq κ]{G:Hp}{k:κ}:∀ {kvs:List (κ×Dt)} {ks:List (κ×V)},uH G kvs ks->(ks.any λkv=>decide (kv.1=k))=kvs.any λkv=>decide (kv.1=k)
 | [],_,h=>by cases h;rfl
 | q::r,ks,⟨v,s,e,h1,h2⟩=>by subst e;rw[cO,cO,uH.any h2]
def uH.map1 {κ:Type}[DecidableEq κ]{G:Hp}{k:κ}{d:Dt}{x:V}(F:Is G d x):∀ {kvs:List (κ×Dt)} {ks:List (κ×V)},uH G kvs ks->uH G (kvs.map λkv=>if kv.1=k then (kv.1,d) else kv) (ks.map λkv=>if kv.1=k then (kv.1,x) else kv)
 | [],_,h=>by cases h;rfl
 | q::r,ks,⟨v,s,e,h1,h2⟩=>by
  subst e;rw[aB,aB];by_cases B:q.1=k;rw[if_pos B,if_pos B];exact⟨x,_,rfl,F,uH.map1 F h2⟩;rw[if_neg B,if_neg B];exact⟨v,_,rfl,h1,uH.map1 F h2⟩
def uH.snoc {κ:Type}{G:Hp}{k:κ}{d:Dt}{x:V}(B:Is G d x):∀ {kvs:List (κ×Dt)} {ks:List (κ×V)},uH G kvs ks->uH G (kvs++[(k,d)]) (ks++[(k,x)])
 | [],_,h=>by cases h;exact⟨x,[],rfl,B,rfl⟩
 | q::r,ks,⟨v,s,e,h1,h2⟩=>by subst e;exact⟨v,_,rfl,h1,uH.snoc B h2⟩
def uH.put{κ:Type}[DecidableEq κ]{k:κ}{kvs:List (κ×Dt)}{ks:List (κ×V)}(h:uH G kvs ks)(q:Is G d x):uH G (zeu kvs k d) (zap ks k x):=by
 unfold zeu zap;rw[h.any];split;exact h.map1 q;exact h.snoc q
def uH.len {κ:Type}{G:Hp}:∀ {kvs:List (κ×Dt)} {ks:List (κ×V)},uH G kvs ks->ks.length=kvs.length
 | [],_,h=>by cases h;rfl
 | q::r,ks,⟨v,s,e,h1,h2⟩=>by subst e;rw[aO,aO,uH.len h2]
def At3.wrX(h:At3 Pn B S M A σ H ρ n)(hi:i∈M)(e:ρ[i]?=some (some w))(s:σ[i]?=some (some (.ref ad)))(hw:WAt (L2.upd H ad o) (z5 A H) w' (.ref ad))(hm':w'.mut=true)(np:NP o)(nt:Mt o):At3 Pn B S M A σ (L2.upd H ad o) (ρ.set i (some w')) n:=by
 obtain⟨v,s1,_,s3⟩:=h.env.val i w e;rw[s] at s1;cases s1;obtain⟨a2,e2,hA,_,_⟩:=s3 hi;cases e2;have hlen:i<ρ.length:=(ac.mp e).1
 have hE:EnvR A M σ (L2.upd H ad o) (ρ.set i (some w')):=by
  show⟨by rw[a8];exact h.env.len,λj u ej=>?_,λj q u u' b hj hq hne e1 e2=>?_,λb hb=>?_⟩;by_cases hj:j=i;subst hj;rw[aJ hlen] at ej;cases ej;exact⟨.ref ad,s,λz=>absurd hi z,λ_=>⟨ad,rfl,hA,by change WAt _ _ _ _;rw[yp hA];exact hw,hm'⟩⟩;rw[ao (Ne.symm hj)] at ej;obtain⟨v,t1,t2,t3⟩:=h.env.val j u ej;show⟨v,t1,λz=>?_,λz=>?_⟩;change WAt _ _ _ _;rw[yp hA];exact t2 z;obtain⟨b,rfl,hb,hbb,hm⟩:=t3 z;have hne:b≠ad:=λq=>h.env.dis i j w u ad hi z (Ne.symm hj) e ej s (by rw[t1,q]);show⟨b,rfl,hb,?_,hm⟩;change WAt _ _ _ _;rw[yp hA]
  cases u with
  | d x=>
   cases x with
   | lst l=>obtain⟨a2,xs,e2,g1,g2⟩:=hbb;cases e2;exact⟨b,xs,rfl,by rw[zd hne];exact g1,g2⟩
   | dct=>obtain⟨a2,xs,e2,g1,g2⟩:=hbb;cases e2;exact⟨b,xs,rfl,by rw[zd hne];exact g1,g2⟩
   | _=>cases hm
  | pen p=>cases hm
  | dk k=>obtain⟨a2,xs,e2,g1,g2⟩:=hbb;cases e2;exact⟨b,xs,rfl,by rw[zd hne];exact g1,g2⟩
  | dt k=>obtain⟨a2,xs,e2,g1,g2⟩:=hbb;cases e2;exact⟨b,xs,rfl,by rw[zd hne];exact g1,g2⟩
  | ss P w k=>obtain⟨a2,xs,e2,g1,g2⟩:=hbb;cases e2;exact⟨b,xs,rfl,by rw[zd hne];exact g1,g2⟩
  | df k=>obtain⟨a2,ob,xs,e2,g1,g2⟩:=hbb;cases e2;exact⟨b,ob,xs,rfl,by right,g2⟩
  | kf k=>obtain⟨a2,ob,xs,e2,g1,g2⟩:=hbb;cases e2;exact⟨b,ob,xs,rfl,by right,g2⟩
  | fl k=>obtain⟨a2,ob,xs,e2,g1,g2⟩:=hbb;cases e2;exact⟨b,ob,xs,rfl,by right,g2⟩
  have get:∀q (u:W),(ρ.set i (some w'))[q]?=some (some u)->∃u',ρ[q]?=some (some u'):=λq u z=>by
   by_cases hq:q=i;subst hq;exact⟨w,e⟩;rw[ao (Ne.symm hq)] at z;exact⟨u,z⟩
  obtain⟨v1,f1⟩:=get j u e1;obtain⟨v2,f2⟩:=get q u' e2;exact h.env.dis j q v1 v2 b hj hq hne f1 f2;by_cases hb':b=ad;subst hb';exact⟨_,zj,np,nt⟩;rw[zd hb'];exact h.env.al b hb
 show⟨hE,⟨h.frm.sub,h.frm.new,λb o eb nn nc=>?_,h.frm.al,h.frm.cn,λb z=>(by
  by_cases hb':b=ad;subst hb';exact⟨_,zj,np⟩;rw[zd hb'];exact h.frm.cs b z)⟩,h.pn.upd hA,by rw[yp hA];exact h.prot,h.fix,λj u b hj ej sj=>?_⟩
 have hne:b≠ad:=λq=>by
  subst q;rcases h.mine i w b hi e s with z | z;exact z o eb nn;exact nc z
 rw[zd hne];exact h.frm.st b o eb nn nc;by_cases hj':j=i;subst hj';exact h.mine j w b hj e sj;rw[ao (Ne.symm hj')] at ej;exact h.mine j u b hj ej sj
def zjr (i:Nat)(fk f:AD):Ms:=λρ n k=>(∃kvs,ρ[i]?=some (some (.dt kvs)))/\f ρ n λw m=>fk ρ m λy q=>∃kvs st d,ρ[i]?=some (some (.dt kvs))/\w = .d d/\y = .d (stD st)/\kvs.length<lim/\k.nx (ρ.set i (some (.dt (zeu kvs st d)))) q
def zbM (i:Nat){x:Str}{np sp:Pos}(hu:X.A.units+1<cLine)(hk:JB X Pn M c fc)(he:JE X Pn M fr' e f)(hi:i∈M:=by ext)(hN:X.N[i]?=some x:=by rfl)(hv:Vis X.env.scope x:=by walk_at "v")(hd:Ah x:=by ext)
  (I:(x==("__classdict__" : Str))=false:=by ext) (hs:swapsWith e (some (.Subscript (.Name x np) c p)) sp.line X.env=pure false:=by rfl) :
  JS X Pn S M fr (.Assign [.Subscript (.Name x np) c p] e sp) (zjr i fc f):=by
 obtain⟨te,q,r⟩:=he.ex;obtain⟨tk,qk,rk⟩:=hk.ex;show⟨_,zd8 hu (qv i hN hv hd I) qk q hs,⟨ ?_⟩⟩;rintro B A σ H ρ n k D a kk ⟨⟨l0,e0⟩,hf⟩;obtain⟨v0,J,_,o3⟩:=a.env.val i _ e0;obtain⟨L,rfl,hA,ag,_⟩:=o3 hi;show r.run A σ H ρ n _ _ a.env a.pn hf λw m v H1 r1 O g1 _=>⟨.ref L,J,?_⟩;have U:=a.step g1;show rk.run A σ H1 ρ m _ _ U.env U.pn r1  ?_;rintro y m2 v2 H2 ⟨kvs,st,d,e,ed,ey,hz,r2⟩ b2 g2;subst ed ey;have a2:=U.step g2;obtain⟨v3,s3,_,o4⟩:=a2.env.val i _ e;rw[J] at s3;cases s3;obtain⟨al,e4,_,hb,_⟩:=o4 hi;cases e4;obtain⟨a5,ks,e5,Y,F⟩:=hb;cases e5;obtain⟨bd,xs,rfl,Z,hx⟩:=xb b2;obtain rfl:=hx.of_ints;exact⟨L,_,rfl,zcI.i Y Z (zc4 (by rw[F.len];exact cg hz)),kk.nx A σ _ _ m2 (a2.wrX (w':=.dt (zeu kvs st d)) hi e J ⟨L,_,rfl,zj,F.put (O.stay g2.st).is⟩ rfl (λk z=>by cases z) rfl) r2⟩
end
def zjx {a c:Int}{n:Nat}(q:0<=a)(h1:a<=n)(h2:n<=1000000)(B:0<=c)(F:c<2147483549):0<=(c+70009) * (2 * a+1)+6133 * a * a+577 * a/\(c+70009) * (2 * a+1)+6133 * a * a+577 * a<=11000000000000000:=by
 have I:(c+70009) * (2 * a+1)<=2147553558 * 2000001:=de (by lia) (by lia) (by lia) (by lia);have J:0<=(c+70009) * (2 * a+1):=Int.mul_nonneg (by lia) (by lia);have L:a * a<=1000000 * 1000000:=de (by lia) (by lia) (by lia) (by lia);have O:0<=a * a:=Int.mul_nonneg q q;grind
def zpl{X:Cx}(K:AH)(L:X.K=K){es:AO}{to:TE}{t:TA}{apos cpos:Pos}(O:QE X o to)(U:QA X (e::es) t)(B:attributeBase o "pop" X.env (eval o X.env)=eval o X.env:=by rfl)(J:((backTo cpos (starEach (e::es) X.env)).all (λx=>!x.1)&&(backToKw cpos (keywordEach [] X.env)).all (λx=>x.1.isSome)
   && decide ((e::es).length+([]:List Keyword).length+(if ([]:List Keyword).isEmpty then 0 else 1)<30))=true:=by rfl)(I:(apos.endLine==cpos.line)=true:=by rfl)(hs:starEach (e::es) X.env=(false,eval e X.env)::starEach es X.env:=by rfl)(q:(backTo cpos (starEach es X.env)).any (·.1)=false:=by rfl) :
  QE X (.Call (.Attribute o "pop" apos) (e::es) [] cpos) (tBM K "list" zne to t):=by
 subst L;exact zfj bE PySem.F.slot_list_pop PySem.F.type_list_pop zgZ O U B J I hs q
def zno:Sp:=λvs H Q E=>∃ (p c a:Addr) (ns:AG) (n:Nat) (xs:AT),vs=[.ref p,.ref a]/\Pen H p c ns n/\n+xs.length<=1000000/\xs.length<=100000/\H a=some (.lst xs)/\
 ∀b ys H',H b=none->H' b=some (.lst ys)->ys.Perm xs->Pen H' p c ns (n+xs.length)->zu H H'->Q (.ref b) H'
def zle(h:ys.Perm xs):∀ {l:AS},IsL G l xs->∃l':AS,l'.Perm l/\IsL G l' ys:=by
 induction h with
 | nil=>intro l h;exact⟨l,.refl _,h⟩
 | cons x _ J=>
  intro l h
  match l,h with
  | [],h=>exact absurd h (by intro z;cases z)
  | d::ds,⟨Z,r,e,h1,h2⟩=>
   cases e;obtain⟨l',p,B⟩:=J h2;exact⟨d::l',p.cons d,x,_,rfl,h1,B⟩
 | swap x y s=>
  intro l h
  match l,h with
  | [],h=>exact absurd h (by intro z;cases z)
  | [_],⟨_,_,e,_,h2⟩=>cases e;exact absurd h2 (by intro z;cases z)
  | d::e::ds,⟨_,_,q,h1,_,_,L,B,O⟩=>
   cases q;cases L;exact⟨e::d::ds,.swap _ _ _,_,_,rfl,B,_,_,rfl,h1,O⟩
 | trans _ _ F I=>
  intro l h;obtain⟨l1,U,h1⟩:=I h;obtain⟨Y,p2,h2⟩:=F h1;exact⟨Y,p2.trans U,h2⟩
def zh0:FV:=λPn q n R=>∃p c ns l,Pn=⟨some (p,c,ns),J0⟩/\q=[.pen p,.d (.lst l)]/\n+l.length<=1000000/\l.length<=100000/\∀l':AS,l'.Perm l->R (.d (.lst l')) (n+l.length)
def zjl:ztt 2 true zh0 zno:=by rintro vs H Q E ⟨Pn,A,ws,n,R,Y,Z,hl,L,⟨p,c,ns,l,rfl,rfl,h1,h2,h4⟩,q⟩;obtain⟨v,y,rfl,b1,b2⟩:=ztf Z;have e1:v = .ref p:=b1;subst e1;obtain⟨a,xs,rfl,ha,O⟩:=b2;have U:=O.length;show⟨p,c,a,ns,n,xs,rfl,L.1.1,by lia,by lia,zn _ _ ha,λb ys H' J F B P' S'=>?_⟩;obtain⟨l',pl,I⟩:=zle B O;show q _ _ _ H' (h4 l' pl) (x8 I S' (Y.new J) F) ⟨S',⟨by right,L.1.2⟩,trivial⟩ λ_=>⟨b,rfl,.of J,b,ys,rfl,F,I.stay (yG S' (.of J))⟩
def zgx {α:Type}:∀ {l:List α} {k:Nat} (h:k<l.length),(l[k]::l.eraseIdx k).Perm l
 | [],_,h=>absurd h (by simp)
 | x::l,0,_=>.refl _
 | x::l,k+1,h=>by have:=zgx (l:=l) (k:=k) (by simpa using h);simp only[List.getElem_cons_succ,List.eraseIdx_cons_succ];exact (List.Perm.swap x _ _).trans (this.cons x)
def zhx{xs ys zs:AT}(q:k<zs.length)(h:(ys++zs).Perm xs):(ys++[zs[k]]++zs.eraseIdx k).Perm xs:=by show .trans ?_ h;rw[b5];exact (zgx q).append_left ys
section
variable {X:Cx}{Pn:PN}{M S:AR}{fr fr':Bool}{e a b c:Expr}{es:AO}{f fa fb fc:AD}{pos p:Pos}
def zoy (fa:AC):AC:=λρ n Q=>fa ρ n λq m=>∃l k,q=[.d (.lst l),.d (.tup k)]/\l.length=k.length/\Q (ziW l k) m
def zoj {elts:AO}{x1}{tpos:Pos}{fs:AC}(L:Gl X "zip")(O:X.mg "zip" = none)(U:JA X Pn M [a,b] fs)(hs:starEach [a,b] X.env=[(false,eval a X.env),(false,eval b X.env)]:=by rfl)(J:starEach [b] X.env=[(false,eval b X.env)]:=by rfl):JI X Pn M false (.Tuple elts x1 tpos) (.Call (.Name "zip" p) [a,b] [] pos) (zoy fs):=by obtain⟨te,q,r⟩:=U.ex;show⟨_,zps false L O q hs J,⟨λA σ H ρ n Q R E P Y k=>?_⟩⟩;show r.run A σ H ρ n _ _ E P Y  ?_;rintro ws m vs H1 ⟨l,kk,e,B,r⟩ Z g;subst e;obtain⟨v,s,rfl,⟨ad,xs,rfl,F,hl⟩,v2,s2,rfl,⟨bd,ys,rfl,I,hk⟩,hs⟩:=Z;cases hs;exact⟨ad,bd,rfl,⟨xs,.of (zn _ _ F)⟩,⟨ys,.of (zn _ _ I)⟩,k _ m _ H1 r (zli B (λs=>.of (zn _ _ (s.lst F))) hl I hk) g⟩
def uH.keys {κ:Type}{G:Hp}:∀ {kvs:List (κ×Dt)} {ks:List (κ×V)},uH G kvs ks->ks.map (·.1)=kvs.map (·.1)
 | [],_,h=>by cases h;rfl
 | q::r,_,⟨v,s,e,_,h⟩=>by subst e;rw[aB,aB,uH.keys h]
def WAt.mv(t:∀o,T ad=some o->T' ad=some o)(g:y3 G G')(m:w.mut=true)(h:WAt T G w (.ref ad)):WAt T' G' w (.ref ad):=by
 cases w with
 | d x=>
  cases x with
  | lst l=>obtain⟨a2,xs,e2,g1,g2⟩:=h;cases e2;exact⟨ad,xs,rfl,t _ g1,g2.stay (zu.same g)⟩
  | dct=>obtain⟨a2,xs,e2,g1,g2⟩:=h;cases e2;exact⟨ad,xs,rfl,t _ g1,g2⟩
  | _=>cases m
 | pen p=>cases m
 | dk k=>obtain⟨a2,xs,e2,g1,g2,g3⟩:=h;cases e2;exact⟨ad,xs,rfl,t _ g1,g2.stay (zu.same g),g3⟩
 | dt k=>obtain⟨a2,xs,e2,g1,g2⟩:=h;cases e2;exact⟨ad,xs,rfl,t _ g1,g2.stay (zu.same g)⟩
 | ss P w k=>obtain⟨a2,xs,e2,g1,g2⟩:=h;cases e2;exact⟨ad,xs,rfl,t _ g1,g2.stay (zu.same g)⟩
 | df k=>obtain⟨a2,ob,xs,e2,g1,g2⟩:=h;cases e2;exact⟨ad,ob,xs,rfl,t _ g1,g2.stay (zu.same g)⟩
 | kf k=>obtain⟨a2,ob,xs,e2,g1,g2⟩:=h;cases e2;exact⟨ad,ob,xs,rfl,t _ g1,g2.stay (zu.same g)⟩
 | fl k=>obtain⟨a2,ob,xs,e2,g1,g2⟩:=h;cases e2;exact⟨ad,ob,xs,rfl,t _ g1,g2.stay (zu.same g)⟩
def At3.move(h:At3 Pn B S M A σ H ρ n)(hj:j∈M)(hi:i∉M)(av:i∉S)(e:ρ[j]?=some (some w))(s:σ[j]?=some (some (.ref I))):At3 Pn B S M (λb=>A b/\b≠I) (σ.set i (some (.ref I))) H ((ρ.set j none).set i (some w)) n:=by
 obtain⟨v,s1,_,s3⟩:=h.env.val j w e;rw[s] at s1;cases s1;obtain⟨a2,e2,hA,an,ap⟩:=s3 hj;cases e2;have a3:i≠j:=λz=>hi (z ▸ hj);have J:∀b,(A b/\b≠I)->A b:=λb z=>z.1;have L:y3 (z5 A H) (z5 (λb=>A b/\b≠I) H):=xi J
 have Y:∀q (u:W),((ρ.set j none).set i (some w))[q]?=some (some u)->q≠i->q≠j/\ρ[q]?=some (some u):=λq u z hq=>by
  rw[ao (Ne.symm hq)] at z;by_cases O:q=j;subst O;rw[List.getElem?_set] at z;right;rw[ao (Ne.symm O)] at z;exact⟨O,z⟩
 have Z:¬ B.A0 I:=λz=>by
  rcases h.mine j w I hj e s with q | q;obtain⟨o,o1,o2,_⟩:=h.frm.al I z;exact q o o1 o2;exact h.frm.cn I q z
 have ag:Val (λb=>A b/\b≠I) H w (.ref I):=by exact WAt.mv (λo ho=>zy (λz=>z.2 rfl) ho) L ap an
 show⟨⟨?_,?_,?_,?_⟩,⟨λb z=>⟨h.frm.sub b z,λq=>Z (q ▸ z)⟩,λb z=>h.frm.new b z.1,h.frm.st,h.frm.al,h.frm.cn,h.frm.cs⟩,h.pn.less J,h.prot.trans (zu.same L),⟨λk hk=>?_,h.fix.2⟩,λk u b hk ek sk=>?_⟩;rw[a8,a8,a8];exact h.env.len;intro q u eq;by_cases hq:q=i;subst hq
 have U:q<(ρ.set j none).length:=by
  have:=(ac.mp eq).1;right
 rw[aJ U] at eq;cases eq;rw[a8] at U;show⟨.ref I,aJ (by rw[h.env.len];exact U),λ_=>ag,λz=>absurd z hi⟩;obtain⟨O,z⟩:=Y q u eq hq;obtain⟨v,t1,t2,t3⟩:=h.env.val q u z;show⟨v,by rw[ao (Ne.symm hq)];exact t1,λy=>WAt.up (zu.same L) (zu.same L) (t2 y),λy=>?_⟩;obtain⟨b,rfl,hb,a0,hm⟩:=t3 y;show⟨b,rfl,⟨hb,λq'=>?_⟩,WAt.up (zu.refl _) (zu.same L) a0,hm⟩;subst q';exact h.env.dis j q w u b hj y (Ne.symm O) e z s t1;intro q k u u' b hq hk a1 e1 e2;have as:q≠i:=λz=>hi (z ▸ hq);have F:k≠i:=λz=>hi (z ▸ hk);rw[ao (Ne.symm as),ao (Ne.symm F)];exact h.env.dis q k u u' b hq hk a1 (Y q u e1 as).2 (Y k u' e2 F).2;exact λb z=>h.env.al b z.1;have F:k≠i:=λz=>av (z ▸ hk);rw[ao (Ne.symm F)];exact h.fix.1 k hk;have F:k≠i:=λz=>hi (z ▸ hk);rw[ao (Ne.symm F)] at sk;exact h.mine k u b hk (Y k u ek F).2 sk
def zoz (i j:Nat):Ms:=λρ n k=>∃w,ρ[j]?=some (some w)/\k.nx ((ρ.set j none).set i (some w)) n
def zf3(j:Nat){x y:Str}{px L sp:Pos}(Y:X.N.Nodup)(hi:X.N[i]?=some x)(Z:Loc X.env.scope x)(O:j∈M:=by ext)(q:i∉M:=by ext)(F:i∉S:=by ext)(I:X.N[j]?=some y:=by rfl)(hv:Vis X.env.scope y:=by walk_at "v")(hd:Ah y:=by ext)(J:(y==("__classdict__" : Str))=false:=by ext)(hs:swapsWith (.Name y L) (some (.Name x px)) sp.line X.env=pure false:=by rfl)(hf:X.fn x=true\/X.env.scope.names.lookup x=some .local:=by walk_at "l"):JS X Pn S M fr (.Assign [.Name x px] (.Name y L) sp) (zoz i j):=by
 show⟨_,xW (i:=i) Y hi Z (qv j I hv hd J) hs hf,⟨ ?_⟩⟩;rintro B A σ H ρ n k D a kk ⟨w,e,r⟩;obtain⟨v,U,_,s3⟩:=a.env.val j w e;obtain⟨ad,rfl,hA,_,_⟩:=s3 O;exact⟨.ref ad,U,kk.nx _ _ H _ n (a.move O q F e U) r⟩
end
end L3
namespace L3
open L2
structure StOk (rm st:AG):Prop where
 len:st.length=rm.length
 box:∀b:Int,0<=b->b<rm.length->0<=yh st b/\yh st b<yh rm b
def y9:∀ (ns:AG),(∀n∈ns,1<=n)->((yj (ns.map zk)).length:Int)=yg ns:=by
 have:∀ (k:Nat) (ns:AG),ns.length=k->(∀n∈ns,1<=n)->((yj (ns.map zk)).length:Int)=yg ns:=by
  intro k
  induction k with
  | zero=>intro ns e _;rw[bi e];rfl
  | succ k B=>
   intro ns e h
   obtain⟨m,x,rfl⟩:∃m x,ns=m++[x]:=by
    have q:ns≠[]:=by intro z;rw[z] at e;cases e
    exact⟨ns.dropLast,ns.getLast q,(bm q).symm⟩
   rw[aD] at e;rw[aF,aB,dS,yY,ue,ul,yL];have h1:=B m (by simpa using e) λn F=>h n (bA _ F);have h2:=h x (aU _ (by simp));rw[Int.natCast_mul,h1,eG (by lia)]
 right
def u9:∀ {ns:AG},(∀n∈ns,1<=n)->1<=yg ns:=λ{ns} h=>by
 have h1:=y9 ns h
 have:∀ (ns:AG) (a:Int),1<=a->(∀n∈ns,1<=n)->1<=ns.foldl (· * ·) a:=by
  intro ns
  induction ns with
  | nil=>intro a q _;exact q
  | cons n ns F=>
   intro a q B;show F (a * n) ?_ λm I=>B m (ar _ I);have:=B n am;exact eS (by ext) (de q this (by ext) (by lia))
 exact this ns 1 (by ext) h
def zjT {ns:AG}(q:ns≠[])(h:∀n∈ns,2<=n):2<=yg ns:=by
 obtain⟨m,x,rfl⟩:∃m x,ns=m++[x]:=⟨ns.dropLast,ns.getLast q,(bm q).symm⟩;rw[ul];have h1:=u9 (ns:=m) λn B=>by have:=h n (bA _ B);lia
 have h2:=h x (aU _ (by simp));exact eS (by simp) (de h1 h2 (by ext) (by lia))
def zk6 (a b:AG)(k:Nat):Wi:=⟨((List.range a.length).filter λi=>!decide (i=k)).map λi:Nat=>((i:Int),a.getD i 0),(k:Int),b.getD k 0,a.getD k 0⟩
def zk7 {rm a b:AG}{k:Nat}(J:StOk rm a)(L:StOk rm b)(O:k<a.length)(F:a.getD k 0≠b.getD k 0):WishOk rm (zk6 a b k):=by
 have U:=J.len;have A:∀i:Nat,i<rm.length->0<=a.getD i 0/\a.getD i 0<yh rm (i:Int):=λi hi=>by have:=J.box (i:Int) (by lia) (by lia);rwa[zK] at this
 have Bb:∀i:Nat,i<rm.length->0<=b.getD i 0/\b.getD i 0<yh rm (i:Int):=λi hi=>by have:=L.box (i:Int) (by lia) (by lia);rwa[zK] at this
 have B:k<rm.length:=by lia
 show⟨⟨λq I=>?_,?_⟩,by change (0:Int)<=(k:Int);lia,by change (k:Int)<_;lia,λq I=>?_,(Bb k B).1,(Bb k B).2,(A k B).1,(A k B).2,λz=>F z.symm⟩;obtain⟨i,hi,rfl⟩:=aC.mp I;right;change List.Pairwise (λa b:Int×Int=>a.1<b.1) (((List.range a.length).filter λi=>!decide (i=k)).map λi:Nat=>((i:Int),a.getD i 0));rw[bP];show List.Pairwise.imp (R:=λi j:Nat=>i<j) (λ{i j} h=>?_) (List.Pairwise.filter _ List.pairwise_lt_range);grind;obtain⟨i,hi,rfl⟩:=aC.mp I;have:=(bu.mp hi).2;change (i:Int)≠(k:Int);grind
def ztX (rm:AG)(bk:AW)(g:List (Int×Int)):AF:=(zuC rm g).filter λst=>decide (zaz bk st (g.map (·.1))=[])
abbrev xa (bk:AW):Dt:=.tup (bk.map z8)
def y8 (rm:AG)(bk:AW):Prop:=∀x∈bk,WishOk rm x
def zg1 (x:Wi):(z8 x).noL=true:=by have h:=zoI x.g;unfold z8;simp only[Dt.noL,Dt.noLs,cA,Bool.true_and] at h ⊢;exact h
abbrev F_bett:FV:=λ_ q n R=>∃rm bk st hs,q=[.d (stD rm),.d (xa bk),.d (stD st),.d (stD hs)]/\RoomOk rm/\y8 rm bk/\st.length=rm.length/\R (.d (xf (uq bk st hs))) n
abbrev ztn:FV:=λ_ q n R=>∃rm bk g,q=[.d (stD rm),.d (xa bk),.d (zet g)]/\RoomOk rm/\y8 rm bk/\Giv rm g/\R (.d (xf (ztX rm bk g))) n
def zan (r:Nat):zev 0 r=(List.range r).map λk:Nat=>W.d (.int (k:Int)):=by
 unfold zev;right
def zdm {ns:AG}(I:ns.length<=8)(q:∀m∈ns,2<=m/\m<=4)(k:Nat):(yj ((ns.take k).map zk)).length<=65536:=by
 have:=zgv (cs:=ns.map zk) (by right) (λc B=>by obtain⟨m,F,rfl⟩:=aC.mp B;have:=q m F;rw[yL];lia) k;right
def zb0{q:AF}(h:i<q.length):q.getD i []∈q:=by right
def zqk {L:AS}{a:Int}{G:Dt->Prop}(q:0<=a)(h1:a<L.length)(h:∀x∈L,G x):∃x,atI L a=some x/\G x:=by obtain⟨d,h2,B⟩:=zql q h1;exact⟨d,h2,h d B⟩
def zbs:∀ {rm:AG},(∀r∈rm,2<=r/\r<=4)->yg rm<=256->rm.length<=8:=λ{rm} B J=>by
 have:∀ (k:Nat) (rm:AG),rm.length=k->(∀r∈rm,2<=r/\r<=4)->(2:Int) ^ k<=yg rm:=by
  intro k
  induction k with
  | zero=>intro rm e _;rw[bi e];decide
  | succ k I=>
   intro rm e B
   obtain⟨m,x,rfl⟩:∃m x,rm=m++[x]:=by
    have q:rm≠[]:=by intro z;rw[z] at e;cases e
    exact⟨rm.dropLast,rm.getLast q,(bm q).symm⟩
   rw[aD] at e;have h1:=I m (by simpa using e) λn F=>B n (bA _ F);have h2:=B x (aU _ (by simp));rw[ul,Int.pow_succ];have L:(0:Int)<=2 ^ k:=Int.pow_nonneg (by ext);exact de h1 h2.1 (by ext) (by lia)
 apply bJ;intro F;have h1:=this _ rm rfl B
 have h2:(2:Int) ^ 9<=2 ^ rm.length:=by
  have:(2:Nat) ^ 9<=2 ^ rm.length:=cE (by ext) (by lia)
  exact_mod_cast this
 grind
def ziw {a b:AG}(B:a.length=b.length)(q:a≠b):∃k zQ,((List.range a.length).filter λk=>!decide (a.getD k 0=b.getD k 0))=k::zQ/\k<a.length/\a.getD k 0≠b.getD k 0:=by
 cases h:(List.range a.length).filter λk=>!decide (a.getD k 0=b.getD k 0) with
 | nil=>
  exfalso;apply q;apply fD B;right
 | cons k zQ=>
  have F:k∈(List.range a.length).filter λk=>!decide (a.getD k 0=b.getD k 0):=by rw[h];simp
  obtain⟨h1,h2⟩:=bu.mp F;right
def StOk.snoc {rm st:AG}{w v:Int}(h:StOk rm st)(I:0<=v)(J:v<w):StOk (rm++[w]) (st++[v]):=by
 have L:=h.len;show⟨by right,λb q B=>?_⟩;rw[aD] at B;by_cases F:b<(rm.length:Int);rw[zbp q (by lia),zbp q F];exact h.box b q F
 have e:b=(rm.length:Int):=by
  have:b<(rm.length:Int)+1:=by simpa using B
  lia
 subst e;rw[zbo,<- L,zbo];exact⟨I,J⟩
def zhQ {sts q B:AF}{k w:Nat}(I:k<sts.length)(Z:sts.Nodup)(h1:q.Nodup)(h2:∀x∈q,∃a∈sts.take k,∃v:Int,0<=v/\v<w/\x=a++[v])(h3:q.length=k * w)(J:B.Perm ((List.range w).map λv:Nat=>sts.getD k []++[(v:Int)])) :
  (q++B).Nodup/\(∀x∈q++B,∃a∈sts.take (k+1),∃v:Int,0<=v/\v<w/\x=a++[v])/\(q++B).length=(k+1) * w:=by
 have L:sts.getD k []=sts[k]:=by simp[I]
 have ht:sts.take (k+1)=sts.take k++[sts[k]]:=zh (ah I)
 have O:∀x∈B,∃v:Int,0<=v/\v<w/\x=sts[k]++[v]:=λx F=>by
  obtain⟨v,hv,rfl⟩:=aC.mp (J.mem_iff.mp F);right
 have nB:B.Nodup:=by
  show J.nodup_iff.mpr ?_;change List.Pairwise _ _;rw[bP];show List.Pairwise.imp (λ{a b} h e=>h ?_) dY;have:=List.append_cancel_left e;grind
 have ad:sts[k]∉sts.take k:=λz=>by have U:=Z;rw[<- c6 k sts,cD I] at U;exact (cm.mp U).2.2 _ z _ am rfl
 show⟨cm.mpr ⟨h1,nB,λx F y hy e=>?_⟩,λx F=>?_,?_⟩;obtain⟨a,Y,v,_,_,rfl⟩:=h2 x F;obtain⟨u,_,_,rfl⟩:=O y hy;right;rw[ht];rcases aG.mp F with z | z;obtain⟨a,Y,r⟩:=h2 x z;exact⟨a,bA _ Y,r⟩;obtain⟨v,r⟩:=O x z;exact⟨_,aU _ (by simp),v,r⟩;rw[aD,h3,J.length_eq,ab,az,Nat.succ_mul]
def xo {α q:Type}(f:α->q)(l:List α)(lo hi:AQ):ub (l.map f) lo hi=(ub l lo hi).map f:=by
 unfold ub;right
def zbY {α:Type}(l:List α)(lo hi:AQ):(ub l lo hi).length<=l.length:=by unfold ub;rw[aN,cw];lia
def zqw {st:AG}{b w:Int}(q:0<=b):ub st none (some b)++[w]++ub st (some (b+1)) none=chg st b w:=by
 have h:=znI st (w:=w) q;have B:zcK (st.map V.int) none (some b)=(ub st none (some b)).map V.int:=by rw[<- xo];rfl
 have F:zcK (st.map V.int) (some (b+1)) none=(ub st (some (b+1)) none).map V.int:=by rw[<- xo];rfl
 rw[B,F] at h;have I:(ub st none (some b)).map V.int++[V.int w]++(ub st (some (b+1)) none).map V.int=(ub st none (some b)++[w]++ub st (some (b+1)) none).map V.int:=by rw[aF,aF];rfl
 rw[I] at h;exact eU (by grind) |>.mp h
def zhI {l:AF}(h:l.Nodup){k:Nat}(q:k+1<l.length):l.getD k []≠l.getD (k+1) []:=by have:=b7.mp h k (k+1) (by lia) q (by lia);simpa [show k<l.length by lia,q] using this
def y8.app{rm:AG}(h:y8 rm bk)(h':y8 rm q):y8 rm (bk++q):=λx B=>(aG.mp B).elim (h x) (h' x)
def y8.set{rm:AG}(h:y8 rm bk)(q:WishOk rm x)(i:Nat):y8 rm (bk.set i x):=λy B=>(List.mem_or_eq_of_mem_set B).elim (h y) λe=>e ▸ q
def y8.ins{rm:AG}(h:y8 rm bk)(q:WishOk rm x)(i:Nat):y8 rm (zmR bk i x):=λy B=>by
 rcases aG.mp B with z | z;exact h y (bW z);rcases aE.mp z with rfl | z;exact q;exact h y (List.mem_of_mem_drop z)
def zoe {α q:Type}(f:α->q)(l:List α)(i:Nat)(x:α):zmR (l.map f) i (f x)=(zmR l i x).map f:=by
 unfold zmR;right
def zod {α:Type}(l:List α)(i:Nat)(x:α):(zmR l i x).length=l.length+1:=by
 unfold zmR;grind
def unI:Dt->Int
 | .int i=>i
 | _=>0
def zbJ {α:Type}(l:List α)(k:Nat):ub l none (some (k:Int))=l.take k:=by
 unfold ub;rw[HT.sIx_none,HT.sIx_nat,List.drop_zero,Nat.sub_zero];grind
def xB:∀ (ns st:AG),st∈yj (ns.map zk)->StOk ns st:=by
 have:∀ (k:Nat) (ns:AG),ns.length=k->∀st,st∈yj (ns.map zk)->StOk ns st:=by
  intro k
  induction k with
  | zero=>
   intro ns e st q;rw[bi e] at q ⊢;rw[ax.mp q];exact⟨rfl,λb U F=>absurd F (by simp;lia)⟩
  | succ k I=>
   intro ns e st q
   obtain⟨m,x,rfl⟩:∃m x,ns=m++[x]:=by
    have B:ns≠[]:=by intro z;rw[z] at e;cases e
    exact⟨ns.dropLast,ns.getLast B,(bm B).symm⟩
   rw[aD] at e;rw[aF,aB,dS,yY] at q;obtain⟨r,J,q⟩:=fH.mp q;obtain⟨v,L,rfl⟩:=aC.mp q;obtain⟨j,O,rfl⟩:=aC.mp L;have:=aW.mp O;exact (I m (by simpa using e) r J).snoc (by lia) (by lia)
 right
def zgh {κ:Type}[DecidableEq κ](kvs:List (κ×Dt))(k:κ)(d:Dt):(zeu kvs k d).length<=kvs.length+1:=by
 unfold zeu;split
 all_goals right
def zcZ (bk:AW)(x:Wi)(st hs:AG):zaz (bk++[x]) st hs=zaz bk st hs++(if (uU st x&&!hs.contains x.b)=true then [chg st x.b x.r] else []):=by
 unfold zaz;grind
def zhw {ns:AG}:(Dt.lst (ns.map .int)).eqOk:=uf (ns:=ns)
def znH{st:AG}{b x:Int}(q:0<=b)(B:st.length<=1000)(h:Q (.d (stD (chg st b x))) n):zfO (.d (.tup (ub (st.map Dt.int) none (some b)))) (.d (.tup [.int x])) n λw m=>zfO w (.d (.tup (ub (st.map Dt.int) (some (b+1)) none))) m Q:=by
 have F:=zbY st none (some b);have I:=zbY st (some (b+1)) none;rw[xo,xo];show⟨_,_,rfl,rfl,by rw[ab];exact aw (by simp;lia:_<=1001) (by ext),_,_,rfl,rfl,by rw[aD,ab,ab];exact aw (by simp;lia:_<=2001) (by ext),?_⟩;have e:(ub st none (some b)).map Dt.int++[Dt.int x]++(ub st (some (b+1)) none).map Dt.int=(chg st b x).map Dt.int:=by rw[<- zqw q,aF,aF];rfl
 rw[e];exact h
section
variable {X:Cx}{Pn:PN}{M S:AR}{fr fr':Bool}{e a b c:Expr}{es:AO}{f fa fb fc:AD}{pos p:Pos}
def zjv (t:Ev->Mo Bool)(fb:Ms):Ms:=λρ n k=>∃I:Nat->Ev->Nat->Prop,(∃m,I m ρ n)/\
 ∀m q L,I m q L->t q L λb O=>if b=true then fb q O { k with nx:=λB J=>∃F,F<m/\I F B J,ct:=λB J=>∃F,F<m/\I F B J,bk:=k.nx } else k.nx q O
def zgS {body:List Stmt}{t:Ev->Mo Bool}{fb:Ms}(hp:PassesOwn (model X.prog X.w) X.A X.env X.xe)(hc:JT X Pn M c t)(hb:JSs X Pn S M fr body fb):JS X Pn S M fr (.While c body [] pos) (zjv t fb):=by
 obtain⟨tc,qc,rc⟩:=hc.ex;obtain⟨tb,qb,rb⟩:=hb.ex;show⟨_,⟨zlX hp qc.run qb.run⟩,⟨ ?_⟩⟩;rintro B A σ H ρ n k D a kk ⟨I,⟨m0,i0⟩,it⟩;show⟨λm F H'=>∃A' q O,At3 Pn B S M A' F H' q O/\I m q O,⟨m0,A,ρ,n,a,i0⟩,?_⟩;rintro m F H' ⟨A',q,O,a',hI⟩;show rc.run A' F H' q O _ _ a'.env a'.pn (it m q O hI) λb n2 H2 r g=>?_;have a2:=a'.step g
 cases b with
 | false=>
  rw[if_neg (by ext)] at r ⊢;exact kk.nx A' F H2 q n2 a2 r
 | true=>
  rw[if_pos rfl] at r ⊢;show⟨λZ H3=>∃A' q O,At3 Pn B S M A' Z H3 q O/\∃L,L<m/\I L q O,λZ H3 ⟨A3,ad,n3,a3,L,hm,h⟩=>⟨L,hm,A3,ad,n3,a3,h⟩,?_⟩;show rb.run B A' F H2 q n2 { k with nx:=λU n3=>∃L,L<m/\I L U n3,ct:=λU n3=>∃L,L<m/\I L U n3,bk:=k.nx } _ a2 ⟨?_,?_,?_,kk.fc,?_⟩ r;exact λA4 Y H4 J n4 a4 r4=>⟨A4,J,n4,a4,r4⟩;exact λA4 Y H4 J n4 a4 r4=>kk.nx A4 Y H4 J n4 a4 r4;exact λA4 Y H4 J n4 a4 r4=>⟨A4,J,n4,a4,r4⟩;exact kk.rt
def zkz{t:Ev->Mo Bool}{fb:Ms}{ρ:Ev}{k:Kt}(I:Nat->Ev->Nat->Prop)(L:Nat)(Y:I L ρ n)(h:∀m q O,I m q O->t q O λb U=>if b=true then fb q U { k with nx:=λB J=>∃F,F<m/\I F B J,ct:=λB J=>∃F,F<m/\I F B J,bk:=k.nx } else k.nx q U):zjv t fb ρ n k:=⟨I,⟨L,Y⟩,h⟩
end
end L3
namespace L2
open PyProof.Rows
def zcN(ke ve gens scope pos):eval (.DictComp ke ve gens scope pos) env=comprehension (.DictComp ke ve gens scope pos) scope env (firstIterPos gens pos) newDict (firstAsync gens) (firstIter gens env):=rfl
def zdB (ke ve target iter:Expr)(ifs:AO)(scope:Scope)(pos:Pos)(it:Value)(d:Addr)(env:Env) :
  compTurn (.DictComp ke ve [⟨target,iter,ifs,0⟩] scope pos) 0 it (.ref d) env=(do
   standAt iter.pos
   match <- pyNext it with
   | none=>pure (.done .next)
   | some v=>
    letOwnedTupleGo target it v
    assign target env v
    let mut ok:=true
    for c in ifs do
     if ok then ok <- isTrue c env (eval c env)
    if ok then
     (do
      let kv <- eval ke env
      let vv <- holding [kv] (eval ve env)
      standAt { ke.pos with endLine:=ve.pos.endLine,endCol:=ve.pos.endCol }
      holding [kv,vv] (dictSet d kv vv))
    again (.compLoop (.DictComp ke ve [⟨target,iter,ifs,0⟩] scope pos) 0 it (.ref d) env)):=by rfl
section
variable {prog:Aa}{w:Ab}{A:Ae}{E:AA}{R:Result->AZ->Prop}{s:AZ}
def uQ {ke ve target iter ifs zQ scope pos it acc env}
  (h0:codeAny (model prog w) A (.compLoop (.DictComp ke ve (⟨target,iter,ifs,0⟩::zQ) scope pos) 0 it acc env) R s)
  (h:Ag prog w A (pyIter it) (λit' s'=>codeAny (model prog w) A (.compLoop (.DictComp ke ve (⟨target,iter,ifs,0⟩::zQ) scope pos) 0 it' acc env) R s')
   (notedBy (model prog w) A env λx s'=>R (.error x) s') s) :
  codeAny (model prog w) A (.compStart (.DictComp ke ve (⟨target,iter,ifs,0⟩::zQ) scope pos) 0 it acc env) R s:=by
 show dC ?_;change wpAny _ _ ((compStart (.DictComp ke ve (⟨target,iter,ifs,0⟩::zQ) scope pos) 0 it acc env).onRaise (λx=>do noteFrame x env;standAt theWindowsPlace)) _ _ s;show wpAny_notedAt ?_;unfold compStart;change wpAny _ _ (ask >>= _) _ _ s;show aa (bp (wpAny_ite ?_));split
 first
  | exact aa (by grind)
  | exact ae (And.intro rfl h0)
 first
  | exact aa (by grind)
  | (show aa (dM ?_);change wpAny _ _ (standAt iter.pos >>= _) _ _ s;exact aa (bK (aa (aQ h (λit' s' h'=>ae (And.intro rfl h')) λ_ _ x=>x))))
def zbc(I:Nat->AZ->Prop)(turn:∀n s,I n s->Ag prog w A (pyNext it) (λr s₁=>match r with
   | none=>R (.ok .next) s₁
   | some v=>Ag prog w A (letOwnedTupleGo target it v) (λ_ s₂=>Ag prog w A (assign target env v) (λ_ s₃=>
     Ag prog w A (forIn ifs true λc r=>if r=true then do let ok <- isTrue c env (eval c env);pure (ForInStep.yield ok) else pure (ForInStep.yield r)) (λok s₄=>
      if ok=true then Ag prog w A (eval ke env) (λx s₅=>Ag prog w A (eval ve env) (λy s₆=>
       Ag prog w A (dictSet d x y) (λ_ s₇=>∃m,m<n/\I m s₇) (λ_ _=>False) s₆) (λ_ _=>False) s₅) (λ_ _=>False) s₄
      else ∃m,m<n/\I m s₄) (λ_ _=>False) s₃) (λ_ _=>False) s₂) (λ_ _=>False) s₁) (λ_ _=>False) s)(n:Nat)(h:I n s) :
  codeAny (model prog w) A (.compLoop (.DictComp ke ve [⟨target,iter,ifs,0⟩] scope pos) 0 it (.ref d) env) R s:=by
 show eM rfl I (λn s hI=>?_) n h;change wpAny _ A ((compTurn (.DictComp ke ve [⟨target,iter,ifs,0⟩] scope pos) 0 it (.ref d) env).onRaise (λx=>do noteFrame x env;theTreesLotGoes x)) _ _ s;show ff ?_;rw[zdB];show aa (bK (aa (aQ (turn n s hI) (λr s₁ h₁=>?_) λ_ _ h'=>h'.elim)))
 cases r with
 | none=>exact ae h₁
 | some v=>
  show aa (aQ h₁ (λ_ s₂ h₂=>?_) λ_ _ h'=>h'.elim);show aa (aQ h₂ (λ_ s₃ h₃=>aa (aQ h₃ (λok s₄ h₄=>?_) λ_ _ h'=>h'.elim)) λ_ _ h'=>h'.elim)
  cases ok with
  | false=>exact ae ⟨rfl,h₄⟩
  | true=>
   show aa (aa (aQ h₄ (λx s₅ h₅=>?_) λ_ _ h'=>h'.elim));show aa (be (aQ h₅ (λy s₆ h₆=>?_) λ_ _ h'=>h'.elim));show aa (bK (be (aQ h₆ (λ_ s₇ h₇=>?_) λ_ _ h'=>h'.elim)));exact ae ⟨rfl,h₇⟩
def zhF(h:Q (.ref s.heap.objs.size) { s with heap:=s.heap.push { cls:=.type "dict",data:=.dict #[] } }):Ag prog w A (newDict) Q E s:=by simp only[newDict,newObj];exact aa (wpAny_alloc (ae h))
variable {X:Cx}{pins:AB}{σ:St}{H:Hp}{a:Addr}{y v:V}{u r:Value}{o:Option V}
def zeI(hu:A.units+1<cLine)(I:Inv X pins σ H s)(g:zcI H a y v H')(Z:yF y u)(rv:yF v r)(h:∀s',Inv X pins σ H' s'->Q () s') :
  wpAny (model X.prog X.w) A (dictSet a u r) Q E s:=by
 rcases g with ⟨kvs,k,e,ey,l,eH⟩ | ⟨kvs,k,b,e,ey,eb,l,eH⟩;subst ey eH;obtain⟨z,L,vs,B,O⟩:=znQ I.hok e;have U:vs.length<=sizeLine:=by rw[<- B.length];exact z
 have Y:(zap kvs k v).length<=sizeLine:=by have:=xE kvs k v;lia
 show wpAny_dictSet_pairs (hsz:=U) (zjc Z) O λh' F hs=>h _ ?_;have he:∃q,h'.get? a=some q:=let ⟨q,_,_,J,_⟩:=F;⟨q,J⟩;exact zbZ I (by rw[e];exact True.intro) hs he (zix Y L (B.put k rv) F);subst ey eH;cases (show u=Value.ref b from Z);obtain⟨z,L,xs,B,O⟩:=zqM I.hok e;have U:xs.length<=sizeLine:=by rw[<- ei B];exact z
 have Y:(zap kvs k v).length<=sizeLine:=by have:=xE kvs k v;lia
 show wpAny_dictSet_heap (hsz:=U) (Nat.lt_of_succ_lt hu) (zgW I.hok eb) O λh' F hs=>h _ ?_;obtain⟨q,es,ep,J,h2,h3,h4,_,h5⟩:=F;show zbZ I (by rw[e];exact True.intro) hs ⟨q,J⟩ ⟨Y,L,_,(B.put k eb rv).keeps λc ys ec=>?_,q,es,ep,J,h2,h3,h4,h5⟩;rw[zd (by grind)];exact ec
end
def zud (g:TG)(ti:TT)(tk tv:TE)(acc:Addr)(N:St->Hp->Prop)(x:V)(σ:St)(H:Hp):Prop:=
 g x σ H λq H3=>ti q H3 λB H4=>if B=true then tk q H4 λy H5=>tv q H5 λv H6=>∃H7,zcI H6 acc y v H7/\N q H7 else N q H4
def zuc (J:It)(g:TG)(ti:TT)(tk tv:TE)(acc:Addr)(Q:VK)(σ:St)(H:Hp):Prop:=∃W:Nat->Nat->St->Hp->Prop,(∃m,W 0 m σ H)/\
 ∀i m q H',W i m q H'->(J.stop i H'/\Q (.ref acc) H')\/(J.go i H'/\∃N:St->Hp->Prop,(∀ B H2,N B H2->∃F,F<m/\W (i+1) F B H2)/\∀x H2,J.yld i H' x H2->zud g ti tk tv acc N x q H2)
def zhi (o0:HO)(wi:TI)(g:TG)(ti:TT)(tk tv:TE)(cix:List (Option Nat)):TE:=λσ H Q=>wi σ H λJ H1=>∀acc,H1 acc=none->zuc J g ti tk tv acc Q (zaF σ cix) (upd H1 acc o0)
section
variable {X:Cx}{Fam:Cx->Prop}{scope:Scope}{N:AM}{cix:List (Option Nat)}{z:Str}{use:Option (Value->Sem Unit)}{Qp:AA}{elt ke ve tg iter tg2 iter2:Expr}{ifs ifs2:AO}{pos ipos spos px:Pos}{wi wi2:TI}{g g2:TG}{ti ti2:TT}{te tk tv:TE}{pins:AB}{σ:St}{H:Hp}{s:AZ}{Q:VK}{o0:HO}
def zeL (Y:o0 = .dK []\/o0 = .dT [])(hu:X.A.units+1<cLine)(O:Opn X scope cix Fam)(hc:X.calm=true)(hi:PI X tg iter wi)(hg:∀X',Fam X'->PG X' tg g)(ht:∀X',Fam X'->PTs X' ifs ti)(hk:∀X',Fam X'->PE X' ke tk)(hv:∀X',Fam X'->PE X' ve tv)(hs:∀x,foldedSetIterable iter X.env x=pure x)(I:Inv X pins σ H s)
  (h:zhi o0 wi g ti tk tv cix σ H Q) (F:ztO X pins σ use Qp Q) :
  Af X (comprehension (.DictComp ke ve [⟨tg,iter,ifs,0⟩] scope pos) scope X.env ipos newDict false (eval iter X.env) use) Qp X.xe s:=
 zaG (ob:={ cls:=.type "dict",data:=.dict #[] }) (o0:=λ_=>o0) (Fin:=λacc H=>Q (.ref acc) H) (B:=λX' acc P s=>wpAny (model X'.prog X'.w) X'.A (eval ke X'.env) (λx s5=>wpAny (model X'.prog X'.w) X'.A (eval ve X'.env) (λy s6=>wpAny (model X'.prog X'.w) X'.A (dictSet acc x y) (λ_ s7=>P s7) (λ_ _=>False) s6) (λ_ _=>False) s5) (λ_ _=>False) s) (tb:=λacc Nx σ H=>tk σ H λy H5=>tv σ H5 λv H6=>∃H7,zcI H6 acc y v H7/\Nx σ H7) O hc rfl hs (λ_ _ _ _ _ h0 h1=>uQ h0 h1) (λ_ _ _ _ _ _ I L n h=>zbc I L n h) (λs Q h=>zhF h) (λ{_ _ _ s} I _=>by
  rcases Y with rfl | rfl;exact zgH s.heap I.big
  exact zgI s.heap I.big) hi hg ht (λX' hF pX wX AX _ xX acc pl s σ H Nx P I q k=>by
  have e9:=hk X' hF pl s σ H _ I q;rw[xX] at e9;show thn e9 ?_;rintro u2 Z ⟨y,H10,I10,ad,ag⟩;have U:=hv X' hF pl Z σ H10 _ I10 ag;rw[xX] at U;show thn U ?_;rintro u3 an ⟨v,H11,I11,al,H12,dp,nx⟩;exact zeI (by rw[AX];exact hu) I11 dp ad al λs' I'=>k _ _ _ I' nx) I h (λJ H1 acc q hn=>q acc hn) F
end
def zgi{X:Cx}{tk tv:TE}{ifs:AO}{scope:Scope}{wi:TI}{g:TG}{ti:TT}{N:AM}{o0:HO}(B:o0 = .dK []\/o0 = .dT [])(F:X.A.units+1<cLine)(J:X.calm=true)(c:CompOk X scope N cix)(hi:QI X tg iter wi)(L:∀C s H ex,QG (zt X scope N C s H ex) tg g)(O:∀C s H ex,QTs (zt X scope N C s H ex) ifs ti)(U:∀C s H ex,QE (zt X scope N C s H ex) ke tk)(Y:∀C s H ex,QE (zt X scope N C s H ex) ve tv)(hs:∀x,foldedSetIterable iter X.env x=pure x:=by intro _;rfl):QE X (.DictComp ke ve [⟨tg,iter,ifs,0⟩] scope pos) (zhi o0 wi g ti tk tv cix):=⟨λpins s σ H Q I h=>by
 rw[zcN];exact zeL B F (uj c) J hi.run (zbK λC s H ex=>(L C s H ex).run) (zbK λC s H ex=>(O C s H ex).run) (zbK λC s H ex=>(U C s H ex).run) (zbK λC s H ex=>(Y C s H ex).run) hs I h λ_ _ _ _ _ Z hb q=>zdF Z hb q⟩
def ze5:typeLookup (.type "list") "keys" = pure none:=by rw[typeLookup_type,dW];kernel_rfl
def zcJ {prog:Aa}{w:Ab}{A:Ae}{E:AA}{s:AZ}{a:Addr}{xs:AK}{k:Nat}{name:Str}{Q:Option Value->Shared->Prop}
  (hx:s.heap.get? a=some { cls:=.type "list",data:=.seq xs k }) (hmiss:typeLookup (.type "list") name=pure none) (hname:(["__module__","__name__","__qualname__","__doc__","__annotations__"]:AM).contains name=false) (hA:A.handled=none)
  (h:∀h' tk e,Heap.NewExcOf s.heap h' e "AttributeError" -> Q none { s with heap:=h',toks:=tk }) (hsz:name.length+100<=sizeLine:=by size_fits) :
  Ag prog w A (getAttr? (.ref a) name) Q E s:=by
 obtain⟨hp,g,d,tk,os⟩:=s;have hT:∀tk',(⟨hp,g,d,tk',os⟩:AZ).TypeIs (.ref a) "list" := λ_=>⟨_,hx,rfl⟩;have f1:=sub_AttributeError;have f3:=F.slot_list_getattribute.lookup;have f4:=F.slot_list_getattribute.bind (.ref a);have f5:=am_list_getattr_none;unfold getAttr? getAttrBy? getAttrBy
 repeat (any_goals (first | assumption | exact hT _ | ((with_reducible show wpAny _ _ (call (Value.builtin "list.__getattribute__") _ _) _ _ _);show dw F.slot_list_getattribute (hT _) am_entry_list_getattribute (F.args_list_getattribute_2 _ _) (meets_getattribute_miss_list a xs k #[] name _ hmiss hname hsz) ⟨hx,hA,λh' tk e hx'=>?_⟩) | wp_step))
 obtain⟨t',u',he⟩:=hx'.there;change wpAny _ _ (getattributeRaised _ _ _ _ _ _ _) _ _ _;unfold getattributeRaised
 repeat (any_goals (first | assumption | wp_step))
 exact h _ _ _ hx'.of
section
variable {X:Cx}{pins:AB}{σ:St}{H:Hp}{A:Ae}
abbrev Pr:=Addr×Addr×List Int×V
structure PrL (H:Hp)(l:Addr)(ps:List Pr):Prop where
 at':H l=some (.lst (ps.map λq=>V.ref q.1))
 one:∀q∈ps,H q.1=some (.tup [.ref q.2.1,q.2.2.2])/\H q.2.1=some (.tup (q.2.2.1.map V.int))
 nd:(ps.map (·.2.2.1)).Nodup
 few:ps.length<=500000
def prK (ps:List Pr):List (AG×V):=ps.map λq=>(q.2.2.1,q.2.2.2)
def zo5(h:q.2.2.1∉ps.map (·.2.2.1)):zap (prK ps) q.2.2.1 q.2.2.2=prK (ps++[q]):=by
 rw[zl0];unfold prK;rw[aF];rfl;unfold za6 prK;rw[eR.mpr];rfl;intro x B;obtain⟨y,F,rfl⟩:=aC.mp B;intro e;exact h (aC.mpr ⟨y,F,bz e⟩)
def zhu(hh:A.in1.handled=none)(hu:A.in1.units+1<cLine)(J:PrL H l ps)(hD:H D=none)(hf:zer X pins H F)(L:F≠D) :
  ∀ (k i:Nat) (s:AZ) (j:Int) (Z:Tok),ps.length - i=k->i<=ps.length->s.heap.IsListIter F l i->Inv X pins σ (upd H D (dtO (prK (ps.take i)))) s->
   (∀s',Inv X pins σ (upd H D (dtO (prK ps))) s'->R (.ok (.ret .none)) s')->
   codeAny (model X.prog X.w) A (.builtin "dict.update.loop" ⟨[.ref D,.ref F,.int j Z,.none],[]⟩) R s:=by
 have Y:∀ {b o},H b=some o->b≠D:=λ{b o} e z=>by rw[z,hD] at e;cases e
 obtain⟨f0,f1,f2,f3,f4,f5⟩:=hf;intro k
 induction k with
 | zero=>
  intro i s j Z hk hi hI I hR;have ad:i=ps.length:=by lia
  subst ad;rw[aT] at I;obtain⟨its,rv,p,hz⟩:=I.list (show SqL X.K _ l (ps.map λq=>V.ref q.1) from .of (by rw[zd (Y J.at')];exact J.at'));show c5 y6 ?_;rw[cF zZ _];change wpAny _ A.in1 (pyNext (.ref F) >>= _) _ _ s;have hl:=rv.length;rw[ab] at hl;show aa (dQ hh hI p.isList (by simp;lia) λh' hx=>?_);change wpAny _ A.in1 (Builtin.Dict.addKeywords D [] >>= _) _ _ _;show aa (ae (ae (hR _ (I.turned (t':=s.toks) (λb o U e=>hx b o U e) (by rw[zd L];exact f0) f1 f3 f4 f5))))
 | succ k ih=>
  intro i s j Z hk hi hI I hR;have B:i<ps.length:=by lia
  have ag:ps[i]∈ps:=bL B;obtain⟨o1,o2⟩:=J.one _ ag;obtain⟨its,rv,p,hz⟩:=I.list (show SqL X.K _ l (ps.map λq=>V.ref q.1) from .of (by rw[zd (Y J.at')];exact J.at'));have al:(ps.map λq=>V.ref q.1)[i]?=some (V.ref ps[i].1):=by rw[aj,ah B];rfl
  obtain⟨u,an,ru⟩:=rv.get al;cases ru;show c5 y6 ?_;rw[cF zZ _];show wpAny _ A.in1 (pyNext (.ref F) >>= _) _ _ s;show aa (dG hI p.isList (x:=.ref ps[i].1) (by simpa using an) λh1 ap as=>?_);have I1:Inv X pins σ (upd H D (dtO (prK (ps.take i)))) { s with heap:=h1 }:=I.turned (t':=s.toks) (λb o U e=>(as.2 b U).trans e) (by rw[zd L];exact f0) f1 f3 f4 f5;obtain⟨_,us,O,ob,ho,hc,⟨n,hd⟩,_⟩:=(show yi X.prog X.w _ h1 ps[i].1 (.tup [.ref ps[i].2.1,ps[i].2.2.2]) from I1.hok _ _ (by rw[zd (Y o1)];exact o1))
  cases O with
  | cons rk O=>
   cases O with
   | @cons _ uv _ _ ru rn=>
    cases rn;cases rk;have hT:Shared.TypeIs { s with heap:=h1 } (.ref ps[i].1) "tuple" := ⟨ob,ho,hc⟩;show aa (be ?_);show aa (wpAny_tryCatch ?_);unfold Builtin.Dict.pairItems;show aa (cL hT ?_);rw[if_pos (by ext)];show aa (zcD ho hd ?_);show ae ?_;change wpAny _ _ (holding [Value.ref ps[i].2.1,uv] (dictSet D (Value.ref ps[i].2.1) uv)) _ _ _;show be ?_;have a1:zer X pins (upd H D (dtO (prK (ps.take i)))) F:=⟨by rw[zd L];exact f0,f1,f2,f3,f4,f5⟩;obtain⟨oi,oe,oc,od⟩:=id ap;have I2:=I1.pinned (fp:=[F]) (λb U=>by right) (λb U=>by right);have av:(prK (ps.take i)).length<sizeLine:=by unfold prK;rw[ab,aN,bN];have:=J.few;lia
    show zeI hu I2 (zcI.i (st:=ps[i].2.2.1) zj (by rw[zd (Y o2)];exact o2) av) rfl ru λs3 I3=>?_;rw[zp5,zo5 (ps:=ps.take i) (q:=ps[i]),<- zh (ah B)] at I3;show ae ⟨fw zZ _,ih (i+1) _ (j+1) _ (by lia) B ?_ I3.unpinned hR⟩;exact⟨oi,(I3.pin (F,oi) (aU _ (aU _ (zaj (by simp) oe)))).1,oc,od⟩;have:=J.nd;intro z;obtain⟨y,hy,e⟩:=aC.mp z;obtain⟨j,hj,e2⟩:=bB.mp hy;rw[aN] at hj;have a0:j<ps.length:=by lia
    have e3:ps[j]=y:=by rw[<- e2,e8]
    have:=(cb (h₀:=by rw[ab];exact a0) (h₁:=by rw[ab];exact B) J.nd).mp (by right);lia
def znd:AT->Hp->VK->Prop:=λxs H Q=>∃ (l:Addr) (ps:List Pr),xs=[.ref l]/\PrL H l ps/\New H (dtO (prK ps)) Q
def zgE (hc:X.calm=true)(hu:X.A.units+64<cLine):CallQ X (.type "dict") znd:=⟨by
 intro pins s σ H xs us Q I rr Y;obtain⟨l,ps,rfl,Z,q⟩:=Y;obtain⟨u,rfl,ru⟩:=zaD rr;cases ru;have hf:H s.heap.objs.size=none:=I.hok.fresh (ai _);show callType_codes (Q₁:=λL B=>L = .ref s.heap.objs.size/\B={ s with heap:=s.heap.push { cls:=.type "dict",data:=.dict #[] } }) F.kt_called_dict (F.kt_typeCall_dict_1 _) F.entry_dict_init (kt_code_dict_new _ ⟨rfl,rfl⟩) ?_;rintro L B ⟨rfl,rfl⟩;have J:(s.heap.push { cls:=.type "dict",data:=.dict #[] }).get? s.heap.objs.size=some { cls:=.type "dict",data:=.dict #[] }:=aq _ rfl;have O:Shared.TypeIs { s with heap:=s.heap.push { cls:=.type "dict",data:=.dict #[] } } (.ref s.heap.objs.size) "dict" := ⟨_,J,rfl⟩;have nD:∀ {b o},H b=some o->b≠s.heap.objs.size:=λ{b o} e z=>by rw[z,hf] at e;cases e
 have I1:Inv X pins σ (upd H s.heap.objs.size (dtO [])) { s with heap:=s.heap.push { cls:=.type "dict",data:=.dict #[] } }:=I.laid (t':=s.toks) (λb o e=>af _ e) (ai _) ⟨aK _,et.mpr (Ne.symm (aL I.big)),[],.nil,_,#[],0,J,⟨rfl,rfl,rfl⟩,rfl,rfl,.nil⟩;obtain⟨hz,its,n,rv,ho⟩:=(show yi X.prog X.w _ _ l (.lst _) from I1.hok l _ (by rw[zd (nD Z.at')];exact Z.at'));have ad:Shared.TypeIs { s with heap:=s.heap.push { cls:=.type "dict",data:=.dict #[] } } (.ref l) "list" := ⟨_,ho,rfl⟩;show⟨O,F.args_dict_init_2 _ _,?_⟩;unfold Builtin.«dict.__init__»;show aa ?_;unfold Builtin.Dict.selfAndRest;show aa (wpAny_notOrdered_dict O ?_);change wpAny _ _ (pure (s.heap.objs.size,[Value.ref l])) _ _ _;show ae ?_;change wpAny _ _ (Builtin.Dict.updateFrom "dict.__init__" s.heap.objs.size (.ref l) [] .none) _ _ _;unfold Builtin.Dict.updateFrom;show aa (cL ad ?_);rw[if_pos (by ext)];have Y:X.A.handled=none:=I.ok.hd hc;show aa (zcJ ho ze5 (by ext) (by simp[Y]) (λh2 tk e hx=>?_) (by ext));rw[if_pos (by rfl)];show aa (dM ?_);have I2:Inv X pins σ (upd H s.heap.objs.size (dtO [])) { s with heap:=h2,toks:=tk }:=I1.kept (t':=tk) hx.keeps;show aa (c8 (s:={ s with heap:=h2,toks:=tk }) (items:=its.toArray) ⟨_,hx.keeps _ _ ho,rfl,n,rfl⟩ ?_);have I3:Inv X pins σ (upd H s.heap.objs.size (dtO (prK (ps.take 0)))) _:=I2.kept (t':=tk) (h':=h2.push { cls:=.type "list_iterator",data:=.fields #[.ref l,.int 0 0] }) λb o e=>af _ e;have U:s.heap.objs.size<h2.objs.size:=au (hx.keeps _ _ J);show ae ⟨fw zZ _,?_⟩;show zhu (X:=X) (pins:=pins) (σ:=σ) (H:=H) (A:=X.A.in1) (ps:=ps) (l:=l) (by simp[Y]) (by lia) Z hf ?_ (Ne.symm (aL U)) (ps.length - 0) 0 _ _ _ rfl (aK _) ⟨_,aq _ rfl,rfl,rfl⟩ I3 λs' I'=>⟨rfl,?_⟩;have:=I2.fpOk (H':=H) (b:=h2.objs.size) (ai _) ?_;exact this;have:=I2.hok.fresh (ai h2.objs.size);rwa[zd (Ne.symm (aL U))] at this;exact⟨.ref s.heap.objs.size,_,I',rfl,q.at hf⟩⟩
end
def zl8{X:Cx}{ifs:AO}{scope:Scope}{pos spos:Pos}{wi:TI}{g:TG}{ti:TT}{tk tv:TE}{o0:HO}{N:AM}{nx:Str}(q:o0 = .dK []\/o0 = .dT [])(Y:X.A.units+1<cLine)(B:X.N.Nodup)(F:X.N[ix]?=some nx)(J:X.env.scope.names.lookup nx=some .local)(Z:X.calm=true)(c:CompOk X scope N cix)(hi:QI X tg iter wi)(hg:∀C s H ex,QG (zt X scope N C s H ex) tg g)(ht:∀C s H ex,QTs (zt X scope N C s H ex) ifs ti)(hk:∀C s H ex,QE (zt X scope N C s H ex) ke tk)(hv:∀C s H ex,QE (zt X scope N C s H ex) ve tv)(L:swapsWithSole [.Name nx px] (.DictComp ke ve [⟨tg,iter,ifs,0⟩] scope pos) spos.line X.env=pure true:=by rfl)(hs:∀x,foldedSetIterable iter X.env x=pure x:=by intro _;rfl)(O:(assignEach [.Name nx px] X.env).map (·.2)=[assign (.Name nx px) X.env]:=by rfl):QS X (.Assign [.Name nx px] (.DictComp ke ve [⟨tg,iter,ifs,0⟩] scope pos) spos) (zfC (zhi o0 wi g ti tk tv cix) (uT ix)):=⟨λpins s σ H D I h=>zdo B F J L O (λ_=>rfl) λU Qp hf=>zeL (Q:=λv H=>D.nx (σ.set ix (some v)) H) q Y (uj c) Z hi.run (zbK λC s H ex=>(hg C s H ex).run) (zbK λC s H ex=>(ht C s H ex).run) (zbK λC s H ex=>(hk C s H ex).run) (zbK λC s H ex=>(hv C s H ex).run) hs I h hf⟩
end L2
namespace L3
open L2
section
variable {X:Cx}{Pn:PN}{M S:AR}{fr fr':Bool}{e a b c:Expr}{es:AO}{f fa fb fc:AD}{pos p:Pos}
def zhJ (ks:List (AG×V)):NP (dtO ks):=λ_ e=>by cases e
def zmL (mg:W->Ev->(Ev->Prop)->Prop)(O:Ev->Mo Bool)(fk fv:AD)(J:Ev)(Q:AV):AU->Nat->Prop:=λl U=>l.length<=lim/\∃I:Nat->Ev->Nat->List (AG×Dt)->Prop,I 0 J U []/\
 (∀i w B F acc,l[i]?=some w->I i B F acc->mg w B λq=>O q F λb L=>if b=true then fk q L λy Y=>fv q Y λx Z=>∃st d,y = .d (stD st)/\x = .d d/\I (i+1) q Z (zeu acc st d) else I (i+1) q L acc)/\
 ∀ B F acc,I l.length B F acc->Q (.dt acc) F
abbrev zf7 (q:AC) (mg:W->Ev->(Ev->Prop)->Prop) (B:Ev->Mo Bool) (fk fv:AD) (cix:List (Option Nat)):AD:=λρ n Q=>q ρ n (zmL mg B fk fv (zcF ρ cix) Q)
def zqL (mg:W->Ev->(Ev->Prop)->Prop)(O:Ev->Mo Bool)(fk fv:AD)(J:Ev)(Q:AV):AU->Nat->Prop:=λl U=>l.length<=lim/\∃I:Nat->Ev->Nat->List (Key×Dt)->Prop,I 0 J U []/\
 (∀i w B F acc,l[i]?=some w->I i B F acc->mg w B λq=>O q F λb L=>if b=true then fk q L λy Y=>fv q Y λx Z=>∃ (j:Int) (d:Dt),y = .d (.int j)/\x = .d d/\I (i+1) q Z (zeu acc (Sum.inl j) d) else I (i+1) q L acc)/\
 ∀ B F acc,I l.length B F acc->Q (.dk acc) F
abbrev zuG (q:AC) (mg:W->Ev->(Ev->Prop)->Prop) (B:Ev->Mo Bool) (fk fv:AD) (cix:List (Option Nat)):AD:=λρ n Q=>q ρ n (zqL mg B fk fv (zcF ρ cix) Q)
def zfm{wi:TI}{g:TG}{ti:TT}{tk tv:TE}{cix:List (Option Nat)}{fi:AC}{mg:W->Ev->(Ev->Prop)->Prop}{ft:Ev->Mo Bool}{fk fv:AD}(hn:(cix.filterMap id).Nodup)(hi:RI Pn M ow wi fi)(hg:RG (yP M cix) (yP M cix) g mg)(ht:RT Pn (yP M cix) ti ft)(hk:RB Pn (yP M cix) tk fk)(he:RE Pn (yP M cix) fr' tv fv):RE Pn M true (zhi (.dT []) wi g ti tk tv cix) (zf7 fi mg ft fk fv cix):=⟨λA σ H ρ n Q R E P hf k=>by
 show hi.run A σ H ρ n _ _ E P hf λl m J H1 ⟨hz,I,i0,it,ie⟩ iv g1=>λacc B=>?_;have E1:=E.stay g1.st;have E2:=(E1.cap hn).more (zu.upd (o:=.dT []) B) (Fr.of B) zj (zhJ []) rfl;have P2:ua Pn (λb=>A b\/b=acc) m (L2.upd H1 acc (.dT [])):=g1.pn.grow' (g1.pn.same (y3.upd B)) (Fr.of B) zj (zhJ []) rfl;have a3:∀k w,k∈yP M cix->(zcF ρ cix)[k]?=some (some w)->(zaF σ cix)[k]?≠some (some (.ref acc)):=λk w hk hw z=>by obtain⟨v,s1,_,s3⟩:=(E1.cap hn).val k w hw;obtain⟨a,e,hA,_⟩:=s3 hk;rw[z] at s1;cases s1;cases e;exact E1.new B hA
 have key:∀ L F H',EnvR (λb=>A b\/b=acc) (yP M cix) L H' F->(∀k∈yP M cix,L[k]?=(zaF σ cix)[k]?/\F[k]?=(zcF ρ cix)[k]?)->∀k w,k∈yP M cix->F[k]?=some (some w)->L[k]?≠some (some (.ref acc)):=λL F H' E' ap k w hk hw z=>by right
 show⟨λi mm L H'=>mm=l.length - i/\i<=l.length/\∃ F n' q xs,EnvR (λb=>A b\/b=acc) (yP M cix) L H' F/\ua Pn (λb=>A b\/b=acc) n' H'/\I i F n' q/\H' acc=some (dtO xs)/\uH (z5 (λb=>A b\/b=acc) H') q xs/\q.length<=i/\zu (z5 A H1) (z5 (λb=>A b\/b=acc) H')/\zu H1 H'/\(∀k∈yP M cix,L[k]?=(zaF σ cix)[k]?/\F[k]?=(zcF ρ cix)[k]?),
  ⟨l.length,by simp,aK _,_,m,[],[],E2,P2,i0,zj,rfl,ai _,yG (zu.upd B) (Fr.of B),zu.upd B,λk hk=>⟨rfl,rfl⟩⟩,?_⟩
 rintro i mm L H' ⟨rfl,a4,F,n',q,xs,E',P',hI,ag,U,a5,st,s1,ap⟩;by_cases av:i<l.length
 show Or.inr ?_;have an:l[i]?=some l[i]:=ah av;obtain⟨go,yl⟩:=iv.one i l[i] _ H' an st (λ_=>s1) λp hp=>E'.new hp
 show⟨go,λas H2=>∃ F n' q xs,EnvR (λb=>A b\/b=acc) (yP M cix) as H2 F/\ua Pn (λb=>A b\/b=acc) n' H2/\I (i+1) F n' q/\H2 acc=some (dtO xs)/\uH (z5 (λb=>A b\/b=acc) H2) q xs/\q.length<=i+1/\zu (z5 A H1) (z5 (λb=>A b\/b=acc) H2)/\zu H1 H2/\(∀k∈yP M cix,as[k]?=(zaF σ cix)[k]?/\F[k]?=(zcF ρ cix)[k]?),
  λas H2 h=>⟨l.length - (i+1),by lia,rfl,av,h⟩,λx H2 hy=>?_⟩
 obtain⟨S2,V2⟩:=yl x H2 hy;show hg.run _ L H2 F x l[i] _ _ (E'.stay (zu.same S2)) V2 (it i l[i] F n' q an hI) λY O r3 E3 f3=>?_;have Z:∀k∈yP M cix,Y[k]?=(zaF σ cix)[k]?/\O[k]?=(zcF ρ cix)[k]?:=λk hk=>⟨(f3 k hk).1.trans (ap k hk).1,(f3 k hk).2.trans (ap k hk).2⟩;show ht.run _ Y H2 O n' _ _ E3 (P'.same S2) r3 λb m3 H4 r4 g4=>?_;have ad:=(zu.same S2).trans g4.st
 cases b with
 | false=>
  rw[if_neg (by ext)] at r4 ⊢;exact⟨O,m3,q,xs,E3.stay g4.st,g4.pn,r4,ad _ _ ag (zhJ _),U.stay (zM ad),by lia,st.trans (zM ad),s1.trans ad,Z⟩
 | true=>
  rw[if_pos rfl] at r4 ⊢;show hk.run _ Y H4 O m3 _ _ (E3.stay g4.st) g4.pn r4 λy5 m5 u5 H5 r5 B5 g5=>?_;show he.run _ Y H5 O m5 _ _ ((E3.stay g4.st).stay g5.st) g5.pn r5  ?_;rintro w6 m6 v6 H6 ⟨ky,d,ey,e6,r6⟩ V6 g6 _;subst ey e6;have al:=(ad.trans g5.st).trans g6.st;have E6:=((E3.stay g4.st).stay g5.st).stay g6.st;have a0:H6 acc=some (dtO xs):=al _ _ ag (zhJ _);obtain⟨bd,zs,rfl,a1,hx⟩:=xb (B5.stay g6.st);obtain rfl:=hx.of_ints;have a7:=zgh q ky d;show⟨_,zcI.i a0 a1 (zc4 (by rw[U.len];lia)),O,m6,zeu q ky d,zap xs ky v6,E6.upd (.inr rfl) (key Y O H6 E6 Z) (zhJ _) rfl,g6.pn.upd (.inr rfl),r6,zj,?_,by lia,?_,?_,Z⟩;rw[yp (.inr rfl)];exact (U.stay (zM al)).put V6.is;rw[yp (.inr rfl)];exact st.trans (zM al);exact λb o e nn=>by rw[zd (zc e B)];exact s1.trans al b o e nn
 show Or.inl ?_;have a2:i=l.length:=by lia
 subst a2;show⟨iv.stop _ H' st (λ_=>s1),k _ n' _ H' (ie F n' q hI) ⟨acc,xs,rfl,zy (E1.new B) ag,U.stay (zu.same (xi λb z=>.inl z))⟩ (g1.trans ⟨s1,P'.less λa z=>.inl z⟩) λ_=>⟨acc,rfl,(Fr.of B).back g1.st,acc,xs,rfl,ag,U⟩⟩⟩
def zs6(h:∀C s H ex,JB (zt X scope N C s H ex) Pn M e f):∃te,(∀C s H ex,QE (zt X scope N C s H ex) e te)/\RB Pn M te f:=
 ⟨λσ H Q=>∀C s H0 ex,(h C s H0 ex).ex.choose σ H Q,λC s H0 ex=>⟨λpins s' σ H Q I z=>(h C s H0 ex).ex.choose_spec.1.run pins s' σ H Q I (z C s H0 ex)⟩,
  ⟨λA σ H ρ n Q R E P q k C s H0 ex=>(h C s H0 ex).ex.choose_spec.2.run A σ H ρ n Q R E P q k⟩⟩
def zgR(I:X.A.units+1<cLine)(J:X.calm=true)(L:CompOk X scope N cix)(hi:JI X Pn M F tg iter q)(O:∀C s H ex,JG (zt X scope N C s H ex) (yP M cix) (yP M cix) tg mg)(U:∀C s H ex,JTs (zt X scope N C s H ex) Pn (yP M cix) ifs B)(Y:∀C s H ex,JB (zt X scope N C s H ex) Pn (yP M cix) ke fk)(Z:∀C s H ex,JE (zt X scope N C s H ex) Pn (yP M cix) fr' ve fv)(hn:(cix.filterMap id).Nodup:=by ext)(hs:∀x,foldedSetIterable iter X.env x=pure x:=by intro _;rfl):JE X Pn M true (.DictComp ke ve [⟨tg,iter,ifs,0⟩] scope pos) (zf7 q mg B fk fv cix):=by
 obtain⟨ti,qi,ri⟩:=hi.ex;obtain⟨g,qg,rg⟩:=zkv O;obtain⟨tt,qt,rt⟩:=zkw U;obtain⟨tk,qk,rk⟩:=zs6 Y;obtain⟨te,qe,re⟩:=zku Z;exact⟨_,zgi (o0:=.dT []) (by simp) I J L qi qg qt qk qe hs,zfm hn ri rg rt rk re⟩
def zhD{ifs:AO}{scope:Scope}{N:AM}{cix:List (Option Nat)}{L:AC}{mg:W->Ev->(Ev->Prop)->Prop}{O:Ev->Mo Bool}{fk fv:AD}{nx:Str}{px spos:Pos}(Y:X.A.units+1<cLine)(q:X.N.Nodup)(B:X.N[ix]?=some nx)(F:X.env.scope.names.lookup nx=some .local)(Z:X.calm=true)(cc:CompOk X scope N cix)(hi:JI X Pn M U tg iter L)(hg:∀C s H ex,JG (zt X scope N C s H ex) (yP M cix) (yP M cix) tg mg)(ht:∀C s H ex,JTs (zt X scope N C s H ex) Pn (yP M cix) ifs O)(hk:∀C s H ex,JB (zt X scope N C s H ex) Pn (yP M cix) ke fk)(he:∀C s H ex,JE (zt X scope N C s H ex) Pn (yP M cix) fr' ve fv)(hn:(cix.filterMap id).Nodup:=by ext)(I:swapsWithSole [.Name nx px] (.DictComp ke ve [⟨tg,iter,ifs,0⟩] scope pos) spos.line X.env=pure true:=by rfl)(hs:∀x,foldedSetIterable iter X.env x=pure x:=by intro _;rfl)(J:(assignEach [.Name nx px] X.env).map (·.2)=[assign (.Name nx px) X.env]:=by rfl):∃te,QS X (.Assign [.Name nx px] (.DictComp ke ve [⟨tg,iter,ifs,0⟩] scope pos) spos) (zfC te (uT ix))/\RE Pn M true te (zf7 L mg O fk fv cix):=by
 obtain⟨ti,qi,ri⟩:=hi.ex;obtain⟨g,qg,rg⟩:=zkv hg;obtain⟨tt,qt,rt⟩:=zkw ht;obtain⟨tk,qk,rk⟩:=zs6 hk;obtain⟨te,qe,re⟩:=zku he;exact⟨_,zl8 (o0:=.dT []) (by simp) Y q B F Z cc qi qg qt qk qe I hs J,zfm hn ri rg rt rk re⟩
end
abbrev onI (w:W) (P:Int->Prop):Prop:=match w with | .d (.int i)=>P i | _=>False
abbrev onB (w:W) (P:Bool->Prop):Prop:=match w with | .d (.bl i)=>P i | _=>False
abbrev onT (w:W) (P:AS->Prop):Prop:=match w with | .d (.tup i)=>P i | _=>False
abbrev onL (w:W) (P:AS->Prop):Prop:=match w with | .d (.lst i)=>P i | _=>False
abbrev onS (w:W) (P:AS->Prop):Prop:=match w with | .d (.lst i)=>P i | .d (.tup i)=>P i | _=>False
abbrev onD (w:W) (P:Dt->Prop):Prop:=match w with | .d i=>P i | _=>False
abbrev onK (w:W) (P:List (Key×Dt)->Prop):Prop:=match w with | .dk i=>P i | _=>False
abbrev onE (w:W) (P:List (AG×Dt)->Prop):Prop:=match w with | .dt i=>P i | _=>False
abbrev onO {α:Type} (o:Option α) (P:α->Prop):Prop:=match o with | some i=>P i | none=>False
abbrev onC (c:Bool) (A B:Prop):Prop:=match c with | true=>A | false=>B
abbrev on1 (l:AU) (P:W->Prop):Prop:=match l with | [a]=>P a | _=>False
abbrev on2 (l:AU) (P:W->W->Prop):Prop:=match l with | [a,b]=>P a b | _=>False
abbrev onV:Ev->Nat->(W->Prop)->Prop
 | [],_,_=>False
 | a::_,0,P=>onO a P
 | _::r,i+1,P=>onV r i P
abbrev onP:Ev->Nat->W->(Ev->Prop)->Prop
 | [],_,_,Q=>Q []
 | _::r,0,w,Q=>Q (some w::r)
 | a::r,i+1,w,Q=>onP r i w λq=>Q (a::q)
abbrev onN:Ev->Nat->(Ev->Prop)->Prop
 | [],_,Q=>Q []
 | _::r,0,Q=>Q (none::r)
 | a::r,i+1,Q=>onN r i λq=>Q (a::q)
abbrev zcT {α:Type}:Nat->List α->Prop->Prop
 | 0,[],P=>P
 | k+1,_::r,P=>zcT k r P
 | _,_,_=>False
def xJ{P:Int->Prop}:onI w P = ∃i,w = .d (.int i)/\P i:=propext ⟨λh=>by rcases w with (x|x|x|x|_|_) <;> first | exact False.elim h | (cases x <;> first | exact False.elim h | exact⟨_,rfl,h⟩),by right⟩
def zjL:onB w P = ∃i,w = .d (.bl i)/\P i:=propext ⟨λh=>by rcases w with (x|x|x|x|_|_) <;> first | exact False.elim h | (cases x <;> first | exact False.elim h | exact⟨_,rfl,h⟩),by rintro⟨i,e,h⟩;subst e;exact h⟩
def zc8:onT w P = ∃i,w = .d (.tup i)/\P i:=propext ⟨λh=>by rcases w with (x|x|x|x|_|_) <;> first | exact False.elim h | (cases x <;> first | exact False.elim h | exact⟨_,rfl,h⟩),by right⟩
def xx:onL w P = ∃i,w = .d (.lst i)/\P i:=propext ⟨λh=>by rcases w with (x|x|x|x|_|_) <;> first | exact False.elim h | (cases x <;> first | exact False.elim h | exact⟨_,rfl,h⟩),by right⟩
def zjM:onS w P = ∃i,(w = .d (.lst i)\/w = .d (.tup i))/\P i:=propext ⟨λh=>by rcases w with (x|x|x|x|_|_) <;> first | exact False.elim h | (cases x <;> first | exact False.elim h | exact⟨_,.inl rfl,h⟩ | exact⟨_,.inr rfl,h⟩),by rintro⟨i,e,h⟩;rcases e with e | e <;> subst e <;> exact h⟩
def xI:onD w P = ∃i,w = .d i/\P i:=propext ⟨λh=>by cases w <;> first | exact False.elim h | exact⟨_,rfl,h⟩,by right⟩
def zg5{P:List (AG×Dt)->Prop}:onE w P = ∃i,w = .dt i/\P i:=propext ⟨λh=>by cases w <;> first | exact False.elim h | exact⟨_,rfl,h⟩,by right⟩
def zbr {α:Type}{w:Option α}{P:α->Prop}:onO w P = ∃i,w=some i/\P i:=propext ⟨λh=>by cases w <;> first | exact False.elim h | exact⟨_,rfl,h⟩,by right⟩
def u7{A B:Prop}:onC c A B=if c=true then A else B:=by cases c <;> simp[onC]
def zat:on1 l P = ∃a,l=[a]/\P a:=propext ⟨λh=>by rcases l with (_|⟨a,_|⟨b,l⟩⟩) <;> first | exact False.elim h | exact⟨_,rfl,h⟩,by right⟩
def zjK:on2 l P = ∃a b,l=[a,b]/\P a b:=propext ⟨λh=>by rcases l with (_|⟨a,_|⟨b,_|⟨c,l⟩⟩⟩) <;> first | exact False.elim h | exact⟨_,_,rfl,h⟩,by right⟩
def zau:∀ {ρ:Ev} {i:Nat} {P:W->Prop},onV ρ i P = ∃w,ρ[i]?=some (some w)/\P w
 | [],i,P=>by simp[onV]
 | some w::r,0,P=>by simp[onV]
 | none::r,0,P=>by simp[onV]
 | some w::r,i+1,P=>by simpa [onV] using zau (ρ:=r) (i:=i) (P:=P)
 | none::r,i+1,P=>by simpa [onV] using zau (ρ:=r) (i:=i) (P:=P)
def xV:∀ {ρ:Ev} {i:Nat} {w:W} {Q:Ev->Prop},onP ρ i w Q=Q (ρ.set i (some w))
 | [],i,w,Q=>rfl
 | a::r,0,w,Q=>rfl
 | a::r,i+1,w,Q=>by rw[onP,xV];rfl
def zm3:∀ {ρ:Ev} {i:Nat} {Q:Ev->Prop},onN ρ i Q=Q (ρ.set i none)
 | [],i,Q=>rfl
 | a::r,0,Q=>rfl
 | a::r,i+1,Q=>by rw[onN,zm3];rfl
def zbO {α:Type}:∀ {k:Nat} {l:List α} {P:Prop},zcT k l P=(l.length=k/\P)
 | 0,[],P=>by simp[zcT]
 | 0,a::r,P=>by simp[zcT]
 | k+1,[],P=>by simp[zcT]
 | k+1,a::r,P=>by simp[zcT,zbO (l:=r)]
def xm {P:Prop}[Decidable P]{A B:Prop}(h1:P->A)(h2:¬ P->B):onC (decide P) A B:=by
 by_cases h:P
 all_goals right
def zhK {P:Prop}[Decidable P]{A B:Prop}(h1:¬ P->A)(h2:P->B):onC (!decide P) A B:=by
 by_cases h:P
 all_goals right
def zlH{A B:Prop}(h1:c=true->A)(h2:c=false->B):onC c A B:=by
 cases c;exact h2 rfl;exact h1 rfl
def zm2{A B:Prop}(h1:c=false->A)(h2:c=true->B):onC (!c) A B:=by
 cases c;exact h1 rfl;exact h2 rfl
def zlI{A B:Prop}(h:c=true)(h1:A):onC c A B:=by subst h;exact h1
def zdY{A B:Prop}(h:c=false)(h1:B):onC c A B:=by subst h;exact h1
def yD {α:Type}{o:Option α}{a:α}{P:α->Prop}(e:o=some a)(h:P a):onO o P:=by subst e;exact h
def onA{st:AG}{b:Int}(q:0<=b)(h1:b<st.length)(h:P (.int (yh st b))):onO (atI (st.map Dt.int) b) P:=yD (znD q h1) h
def zrr {L:AS}{a:Int}{P:Dt->Prop}(q:0<=a)(h1:a<L.length)(h:∀x∈L,P x):onO (atI L a) P:=by obtain⟨x,e,B⟩:=zqk q h1 h;exact yD e B
section
variable {X:Cx}{Pn:PN}{M S:AR}{fr fr':Bool}{e a b c:Expr}{es:AO}{f fa fb fc g:AD}{pos p:Pos}{t u:Ev->Mo Bool}{fs gs:AC}
def wE (h:f=g)(j:JE X Pn M fr e f):JE X Pn M fr e g:=h ▸ j
def wB (h:f=g)(j:JB X Pn M e f):JB X Pn M e g:=h ▸ j
def wT (h:t=u)(j:JT X Pn M e t):JT X Pn M e u:=h ▸ j
def wW (h:t=u)(j:JW X Pn M e t):JW X Pn M e u:=h ▸ j
def wO {f g:Ev->Mo AQ}{e:Option Expr}(h:f=g)(j:JO X Pn M e f):JO X Pn M e g:=h ▸ j
def wG {f g:W->Ev->(Ev->Prop)->Prop}(h:f=g)(j:JG X S M e f):JG X S M e g:=h ▸ j
def wH {f g:AS->Ev->(Ev->Prop)->Prop}(h:f=g)(j:JGs X S M es f):JGs X S M es g:=h ▸ j
def wI(h:fs=gs)(j:JI X Pn M q tg e fs):JI X Pn M q tg e gs:=h ▸ j
def wS {s:Stmt}{f g:Ms}(h:f=g)(j:JS X Pn S M fr s f):JS X Pn S M fr s g:=h ▸ j
abbrev zfL (i:Nat):AD:=λρ n Q=>onV ρ i λw=>Q w n
def zju:zrk i=zfL i:=by funext ρ n Q;exact zau.symm
def kv (i:Nat){x:Str}(hi:i∉M:=by ext)(B:X.N[i]?=some x:=by rfl)(F:Vis X.env.scope x:=by walk_at "v")(I:Ah x:=by ext)
  (q:(x==("__classdict__" : Str))=false:=by ext):JE X Pn M false (.Name x pos) (zfL i):=wE zju (zuz i hi B F I q)
def kb(i:Nat)(B:X.N[i]?=some x:=by rfl)(F:Vis X.env.scope x:=by walk_at "v")(I:Ah x:=by ext)(q:(x==("__classdict__" : Str))=false:=by ext):JB X Pn M (.Name x pos) (zfL i):=wB zju (zuu i B F I q)
abbrev zqJ (fa:AD):Ev->Mo Bool:=λρ n Q=>fa ρ n λx m=>onB x λc=>Q c m
def zm:zoH fa=zqJ fa:=by funext ρ n Q;simp only[zoH,zqJ,zjL]
abbrev ztu (t u:Ev->Mo Bool):Ev->Mo Bool:=λρ n Q=>t ρ n λc m=>onC c (u ρ m Q) (Q false m)
def ux:ztz t u=ztu t u:=by funext ρ n Q;simp only[ztz,ztu,u7]
abbrev dOr (t u:Ev->Mo Bool):Ev->Mo Bool:=λρ n Q=>t ρ n λc m=>onC c (Q true m) (u ρ m Q)
def zbn:mOr t u=dOr t u:=by funext ρ n Q;simp only[mOr,dOr,u7]
abbrev dNot (t:Ev->Mo Bool):Ev->Mo Bool:=λρ n Q=>t ρ n λc m=>onC c (Q false m) (Q true m)
def uA:zuN t=dNot t:=by funext ρ n Q;simp only[zuN,dNot];congr 1;funext c m;cases c <;> rfl
abbrev zqx (fa fb:AD):AD:=λρ n Q=>fa ρ n λx m=>onB x λc=>onC c (fb ρ m Q) (Q (.d (.bl false)) m)
def zlx:zos fa fb=zqx fa fb:=by funext ρ n Q;simp only[zos,zqx,u7,zjL]
abbrev dOrV (fa fb:AD):AD:=λρ n Q=>fa ρ n λx m=>onB x λc=>onC c (Q (.d (.bl true)) m) (fb ρ m Q)
abbrev zqE (fa:AD):AD:=λρ n Q=>fa ρ n λx m=>onB x λc=>Q (.d (.bl (!c))) m
def zlA:zoB fa=zqE fa:=by funext ρ n Q;simp only[zoB,zqE,zjL]
abbrev dIf (t:Ev->Mo Bool) (fa fb:AD):AD:=λρ n Q=>t ρ n λc m=>onC c (fa ρ m Q) (fb ρ m Q)
def zrg:mIf t fa fb=dIf t fa fb:=by funext ρ n Q;simp only[mIf,dIf,u7]
abbrev dI (C:Int->Int->Prop) (g:Int->Int->Dt):W->W->Mo W:=λx y n Q=>onI x λi=>onI y λj=>C i j/\Q (.d (g i j)) n
def zqQ {C:Int->Int->Prop}{g:Int->Int->Dt}:fI C g=dI C g:=by funext x y n Q;simp only[dI,xJ];exact propext ⟨by rintro⟨i,j,q,B,h⟩;exact⟨i,q,j,B,h⟩,by rintro⟨i,q,j,B,h⟩;exact⟨i,j,q,B,h⟩⟩
abbrev dI0 (g:Int->Int->Dt):W->W->Mo W:=λx y n Q=>onI x λi=>onI y λj=>Q (.d (g i j)) n
def zeP {g:Int->Int->Dt}:fI0 g=dI0 g:=by funext x y n Q;simp only[dI0,xJ];exact propext ⟨by rintro⟨i,j,q,B,h⟩;exact⟨i,q,j,B,h⟩,by rintro⟨i,q,j,B,h⟩;exact⟨i,j,q,B,h⟩⟩
def zbl:F2 Pn false (rI0 λi j=>.int (i+j)) (dI0 λi j=>.int (i+j)):=zeP ▸ zvx
def zs4:F2 Pn false (rI0 λi j=>.int (i - j)) (dI0 λi j=>.int (i - j)):=zeP ▸ zvH
def zsY:F2 Pn false (rI zqc λi j=>.int (i / j)) (dI zqc λi j=>.int (i / j)):=zqQ ▸ ztb
def zs2:F2 Pn false (rI (λ_ j=>0<j) λi j=>.int (i % j)) (dI (λ_ j=>0<j) λi j=>.int (i % j)):=zqQ ▸ zvF
def zqe:F2 Pn false (rI0 λi j=>.bl (decide (i<j))) (dI0 λi j=>.bl (decide (i<j))):=zeP ▸ v_lt
def u_le:F2 Pn false (rI0 λi j=>.bl (decide (i<=j))) (dI0 λi j=>.bl (decide (i<=j))):=zeP ▸ v_le
def u_gt:F2 Pn false (rI0 λi j=>.bl (decide (i > j))) (dI0 λi j=>.bl (decide (j<i))):=zeP ▸ v_gt
abbrev dNeg:W->Mo W:=λx n Q=>onI x λi=>Q (.d (.int (-i))) n
abbrev dEq:W->W->Mo W:=λx y n Q=>onD x λa=>onD y λb=>onO (sEq a b) λr=>Q (.d (.bl r)) n
def zqP:fEq=dEq:=by
 funext x y n Q;simp only[fEq,dEq,xI,zbr];right
abbrev dNe:W->W->Mo W:=λx y n Q=>onD x λa=>onD y λb=>onO (sEq a b) λr=>Q (.d (.bl (!r))) n
def zqS:fNe=dNe:=by
 funext x y n Q;simp only[fNe,dNe,xI,zbr];right
def zcG:F2 Pn false rEq dEq:=zqP ▸ v_eq
def zmp:F2 Pn false rNe dNe:=zqS ▸ v_ne
abbrev zt1:W->W->Mo W:=λx y n Q=>onD x λa=>onD y λb=>a.eqOk/\b.eqOk/\∀r:Bool,(r=true↔a=b)->Q (.d (.bl r)) n
abbrev zua:W->W->Mo W:=λx y n Q=>onD x λa=>onD y λb=>a.eqOk/\b.eqOk/\∀r:Bool,(r=true↔a=b)->Q (.d (.bl (!r))) n
def znX:zug=zt1:=by
 funext x y n Q;simp only[zug,zt1,xI];right
def zn3:zum=zua:=by
 funext x y n Q;simp only[zum,zua,xI];right
def zsX:F2 Pn false ztG zt1:=znX ▸ zvz
def zvw:F2 Pn false ztJ zua:=zn3 ▸ zvG
abbrev dIsB:W->W->Mo W:=λx y n Q=>onB x λa=>onB y λb=>Q (.d (.bl (a==b))) n
abbrev zt4:W->W->Mo W:=λx y n Q=>onB x λa=>onB y λb=>Q (.d (.bl (a != b))) n
abbrev dInI:W->W->Mo W:=λx y n Q=>onI x λb=>onS y λl=>∃ns:AG,l=ns.map .int/\Q (.d (.bl (ns.contains b))) n
abbrev zdC:W->W->Mo W:=λx y n Q=>onI x λb=>onS y λl=>∃ns:AG,l=ns.map .int/\Q (.d (.bl (!ns.contains b))) n
def zhy:zfP=zdC:=by funext x y n Q;simp only[zfP,zdC,xJ,zjM];exact propext ⟨by rintro⟨a,b,q,B,h⟩;exact⟨a,q,_,B,b,rfl,h⟩,by rintro⟨a,q,l,B,b,e,h⟩;subst e;exact⟨a,b,q,B,h⟩⟩
def zmq:F2 Pn false (rIn K true) zdC:=zhy ▸ zms
abbrev xr:Bool->Bool->Bool
 | false,b=>b
 | true,b=>!b
abbrev zt3 (q:Bool):W->W->Mo W:=λx y n Q=>onD x λd=>onS y λds=>d.eqOk/\(Dt.lst ds).eqOk/\∀b:Bool,(b=true↔d∈ds)->Q (.d (.bl (xr q b))) n
def zvI {q b:Bool}:(if q then !b else b)=xr q b:=by cases q <;> rfl
def znY:zuh q=zt3 q:=by
 funext x y n Q;simp only[zuh,zt3,xI,zjM,zvI];right
def zkt:F2 Pn false (ztH q) (zt3 q):=znY ▸ zvA
abbrev ztv:W->W->Mo W:=λx y n Q=>onT x λl=>onI y λi=>onO (atI l i) λd=>Q (.d d) n
abbrev zt6:W->W->Mo W:=λx y n Q=>onL x λl=>onI y λi=>onO (atI l i) λd=>Q (.d d) n
def zn0:zuj=ztv:=by
 funext x y n Q;simp only[zuj,ztv,zc8,xJ,zbr];right
def znZ:zui=zt6:=by
 funext x y n Q;simp only[zui,zt6,xx,xJ,zbr];right
def xu:F2 Pn false (zsm K) ztv:=zn0 ▸ zvC
def zem:F2 Pn false (ztI K) zt6:=znZ ▸ zvB
abbrev zkX:W->W->Mo W:=λx y n Q=>onT x λl=>onT y λm=>l.length+m.length<=lim/\Q (.d (.tup (l++m))) n
abbrev znN:W->W->Mo W:=λx y n Q=>onL x λl=>onL y λm=>l.length+m.length<=lim/\Q (.d (.lst (l++m))) n
def zk2:zfO=zkX:=by
 funext x y n Q;simp only[zfO,zkX,zc8];right
def zk1:znW=znN:=by
 funext x y n Q;simp only[znW,znN,xx];right
def zax:F2 Pn false (zjZ K) zkX:=zk2 ▸ zta
def zsW:F2 Pn true zpx znN:=zk1 ▸ zs9
abbrev dRepT:W->W->Mo W:=λx y n Q=>onT x λl=>onI y λj=>(1<=j/\j<=1000000/\l.length * j.toNat<=lim)/\Q (.d (.tup (List.replicate j.toNat l).flatten)) n
abbrev znP:W->W->Mo W:=λx y n Q=>onL x λl=>onI y λj=>(0<=j/\j<=1000000/\l.length * j.toNat<=lim)/\Q (.d (.lst (List.replicate j.toNat l).flatten)) n
def zk3:zn4=znP:=by
 funext x y n Q;simp only[zn4,znP,xx,xJ,and_assoc];right
def zns:F2 Pn true ztK znP:=zk3 ▸ ztd
abbrev zt7:AU->Mo W:=λq n Q=>on1 q λx=>onO (lenD x) λk=>Q (.d (.int (k:Int))) n
def zn1:zuk=zt7:=by
 funext ws n Q;simp only[zuk,zt7,zat,zbr];right
def zag:FL Pn false (λxs H Q=>∃x n,xs=[x]/\zqh K x H n/\Q (.int n) H) zt7:=zn1 ▸ zvD
abbrev dAbs:AU->Mo W:=λq n Q=>on1 q λx=>onI x λi=>Q (.d (.int (if i<0 then -i else i))) n
abbrev dMin:AU->Mo W:=λq n Q=>on2 q λx y=>onI x λi=>onI y λj=>Q (.d (.int (if j<i then j else i))) n
abbrev zt9:AU->Mo W:=λq n Q=>on2 q λx y=>onI x λi=>onI y λj=>Q (.d (.int (if j > i then j else i))) n
def zn2:zul=zt9:=by funext ws n Q;simp only[zul,zt9,zjK,xJ];exact propext ⟨by rintro⟨x,y,e,h⟩;exact⟨_,_,e,x,rfl,y,rfl,h⟩,by rintro⟨x,y,e,k,q,l,B,h⟩;subst q B;exact⟨k,l,e,h⟩⟩
def zs0:FL Pn false (λxs H Q=>∃i j,xs=[.int i,.int j]/\Q (.int (if j > i then j else i)) H) zt9:=zn2 ▸ zvE
abbrev zt0:AU->Mo W:=λB n Q=>on1 B λx=>onL x λl=>∃q:List Bool,l=q.map .bl/\Q (.d (.bl (q.all id))) n
def znV:zuf=zt0:=by funext ws n Q;simp only[zuf,zt0,zat,xx];exact propext ⟨by rintro⟨x,e,h⟩;exact⟨_,e,_,rfl,x,rfl,h⟩,by right⟩
def zmo:FL Pn false (λxs H Q=>∃ (p:Addr) (q:List Bool),xs=[.ref p]/\H p=some (.lst (q.map V.bl))/\Q (.bl (q.all id)) H) zt0:=znV ▸ zvy
abbrev zqC:AU->Mo W:=λq n Q=>on1 q λx=>onS x λl=>Q (.d (.lst l)) n
abbrev zmK:AU->Mo W:=λq n Q=>on1 q λx=>onS x λl=>Q (.d (.tup l)) n
def zsI:(∃l,(q=[.d (.lst l)]\/q=[.d (.tup l)])/\P l)=on1 q λx=>onS x P:=by
 simp only[zat,zjM];grind
def zsZ:FL Pn true (zj1 K) zqC:=(show zqR=zqC by funext ws n Q;exact zsI) ▸ ztc
def zcC:FL Pn false (zgl K) zmK:=(show zmO=zmK by funext ws n Q;exact zsI) ▸ zp8
abbrev dDictT:AU->Mo W:=λq n Q=>on1 q λx=>onT x λl=>∃ps:List (Int×Dt),l=ps.map prD/\(ps.map (·.1)).Nodup/\ps.length<=1000/\Q (.dk (ps.map kvD)) n
abbrev dInt1:AU->Mo W:=λq n Q=>on1 q λx=>match x with
 | .d (.int i)=>Q (.d (.int i)) n
 | .d (.bl b)=>Q (.d (.int (if b then 1 else 0))) n
 | _=>False
abbrev zir:AU->Mo W:=λB n Q=>on1 B λx=>onL x λl=>∃ns:AG,l=ns.map .int/\ns.length<64/\∀q:AG,q.Perm ns->q.Pairwise (·<=·)->Q (.d (.lst (q.map .int))) n
def ziF:ziE=zir:=by funext ws n Q;simp only[ziE,zir,zat,xx];exact propext ⟨by rintro⟨x,e,h⟩;exact⟨_,e,_,rfl,x,rfl,h⟩,by right⟩
def zp3:FL Pn true zj2 zir:=ziF ▸ zp6
abbrev zis:AU->Mo W:=λB n Q=>on1 B λx=>onL x λl=>∃ (sts:AF) (m:Nat),l=sts.map stD/\sts.length<64/\1<=m/\(∀st∈sts,st.length=m)/\sts.Nodup/\∀q:AF,q.Perm sts->(q.Pairwise λa b=>HT.lexLt a b=true)->Q (.d (xf q)) n
def ziH:ziG=zis:=by funext ws n Q;simp only[ziG,zis,zat,xx];exact propext ⟨by rintro⟨x,m,e,h⟩;exact⟨_,e,_,rfl,x,m,rfl,h⟩,by right⟩
def zp4:FL Pn true zpB zis:=ziH ▸ zp7
abbrev dListD:AU->Mo W:=λq n Q=>on1 q λx=>onE x λkvs=>((kvs.map (·.1)).Nodup->Q (.d (.lst ((kvs.map (·.1)).map stD))) n)
end
section
variable {fa fb fc f fk fd fv:AD}{t u:Ev->Mo Bool}{fs gs:AC}
abbrev zqF (fa:AD):Ev->Mo AQ:=λρ n Q=>fa ρ n λx m=>onI x λi=>Q (some i) m
def ye:zoC fa=zqF fa:=by funext ρ n Q;simp only[zoC,zqF,xJ]
abbrev dSlT (fa:AD) (fl q:Ev->Mo AQ):AD:=λρ n Q=>fa ρ n λx B=>fl ρ B λlo F=>q ρ F λhi I=>onT x λl=>Q (.d (.tup (ub l lo hi))) I
def u4 {fl q:Ev->Mo AQ}:zuQ fa fl q=dSlT fa fl q:=by funext ρ n Q;simp only[zuQ,dSlT,zc8]
abbrev dSlL (fa:AD) (fl q:Ev->Mo AQ):AD:=λρ n Q=>fa ρ n λx B=>fl ρ B λlo F=>q ρ F λhi I=>onL x λl=>Q (.d (.lst (ub l lo hi))) I
def uZ {fl q:Ev->Mo AQ}:zuP fa fl q=dSlL fa fl q:=by funext ρ n Q;simp only[zuP,dSlL,xx]
abbrev dRevT (fa:AD):AD:=λρ n Q=>fa ρ n λx m=>onT x λl=>Q (.d (.tup l.reverse)) m
abbrev zqH (fa:AD):AD:=λρ n Q=>fa ρ n λx m=>onL x λl=>Q (.d (.lst l.reverse)) m
def zgY:zoF fa=zqH fa:=by funext ρ n Q;simp only[zoF,zqH,xx]
abbrev dDGet (fd fk:AD):AD:=λρ n Q=>fd ρ n λx q=>fk ρ q λy B=>onK x λkvs=>onO (zuD y) λk=>onO (yy kvs k) λd=>Q (.d d) B
abbrev dDIn (q:Bool) (fk fd:AD):AD:=λρ n Q=>fk ρ n λy B=>fd ρ B λx F=>onK x λkvs=>onO (zuD y) λk=>Q (.d (.bl (xr q (yy kvs k).isSome))) F
abbrev dFn (k:Nat) (F:AU->Mo W) (fs:AC):AD:=λρ n Q=>fs ρ n λq m=>zcT k q (F q m Q)
def zr:mFn k F fs=dFn k F fs:=by funext ρ n Q;simp only[mFn,dFn,zbO]
abbrev dFnB (k:Nat) (fr:Bool) (F:AU->Mo W) (fs:AC):AD:=λρ n Q=>fs ρ n λq m=>zcT k q (F q m λw B=>W.flat fr w=true/\Q w B)
abbrev eN (i:Nat):W->Ev->(Ev->Prop)->Prop:=λw ρ Q=>onP ρ i w Q
def zB:gN i=eN i:=by funext w ρ Q;exact xV.symm
abbrev eNl:AS->Ev->(Ev->Prop)->Prop:=λds ρ Q=>match ds with | []=>Q ρ | _=>False
def uJ:gNl=eNl:=by
 funext ds ρ Q
 cases ds with
 | nil=>simp[gNl,eNl]
 | cons _ _=>simp[gNl,eNl]
abbrev eCn (g:W->Ev->(Ev->Prop)->Prop) (u:AS->Ev->(Ev->Prop)->Prop):AS->Ev->(Ev->Prop)->Prop:=λds ρ Q=>match ds with | d::r=>g (.d d) ρ λq=>u r q Q | []=>False
def z7 {g:W->Ev->(Ev->Prop)->Prop}{u:AS->Ev->(Ev->Prop)->Prop}:gCn g u=eCn g u:=by
 funext ds ρ Q
 cases ds with
 | nil=>simp[gCn,eCn]
 | cons d r=>exact propext ⟨by rintro⟨d',q,e,h⟩;cases e;exact h,λh=>⟨d,r,rfl,h⟩⟩
abbrev eTp (n:Nat) (u:AS->Ev->(Ev->Prop)->Prop):W->Ev->(Ev->Prop)->Prop:=λw ρ Q=>onT w λds=>zcT n ds (u ds ρ Q)
def uK {n:Nat}{u:AS->Ev->(Ev->Prop)->Prop}:gTp n u=eTp n u:=by funext w ρ Q;simp only[gTp,eTp,zc8,zbO]
abbrev dItL (fa:AD):AC:=λρ n Q=>fa ρ n λx m=>onL x λl=>Q (l.map W.d) m
abbrev dItT (fa:AD):AC:=λρ n Q=>fa ρ n λx m=>onT x λl=>Q (l.map W.d) m
def yz:zuK fa=dItL fa:=by funext ρ n Q;simp only[zuK,dItL,xx]
def uy:zuL fa=dItT fa:=by funext ρ n Q;simp only[zuL,dItT,zc8]
abbrev zt5 (fs:AC):AC:=λρ n Q=>fs ρ n λq m=>on1 q λx=>onI x λj=>(j<=1000000/\-1000000<=j)/\Q (zev 0 j.toNat) m
def xG:ztC fs=zt5 fs:=by funext ρ n Q;simp only[ztC,zt5,zat,xJ];congr 1;funext ws m;exact propext ⟨by right,by right⟩
abbrev dItR2 (fs:AC):AC:=λρ n Q=>fs ρ n λq m=>on2 q λx y=>onI x λi=>onI y λj=>(j<=1000000/\-1000000<=j/\i<=1000000/\-1000000<=i)/\Q (zev i (j - i).toNat) m
abbrev dItE (fs:AC):AC:=λρ n Q=>fs ρ n λq m=>on1 q λx=>onT x λl=>Q (enW 0 l) m
abbrev zqz (fs:AC):AC:=λρ n Q=>fs ρ n λq m=>on1 q λx=>onL x λl=>Q (enW 0 l) m
def zdP:zow fs=zqz fs:=by funext ρ n Q;simp only[zow,zqz,zat,xx];congr 1;funext ws m;exact propext ⟨by right,by right⟩
abbrev dItZ (fs:AC):AC:=λρ n Q=>fs ρ n λq m=>on2 q λx y=>onT x λl=>onT y λk=>l.length=k.length/\Q (ziW l k) m
abbrev zqB (fs:AC):AC:=λρ n Q=>fs ρ n λq m=>on2 q λx y=>onL x λl=>onT y λk=>l.length=k.length/\Q (ziW l k) m
abbrev zqA (fs:AC):AC:=λρ n Q=>fs ρ n λq m=>on2 q λx y=>onL x λl=>onL y λk=>Q (ziW l k) m
def zlz:zoy fs=zqB fs:=by funext ρ n Q;simp only[zoy,zqB,zjK,zc8,xx];congr 1;funext ws m;exact propext ⟨by rintro⟨i,j,e,h⟩;exact⟨_,_,e,i,rfl,j,rfl,h⟩,by rintro⟨x,y,e,i,q,j,B,h⟩;subst q B;exact⟨i,j,e,h⟩⟩
def zgX:zox fs=zqA fs:=by funext ρ n Q;simp only[zox,zqA,zjK,xx];congr 1;funext ws m;exact propext ⟨by rintro⟨i,j,e,h⟩;exact⟨_,_,e,i,rfl,j,rfl,h⟩,by rintro⟨x,y,e,i,q,j,B,h⟩;subst q B;exact⟨i,j,e,h⟩⟩
abbrev dIfS (t:Ev->Mo Bool) (f g:Ms):Ms:=λρ n k=>t ρ n λc m=>onC c (blk f ρ m k) (blk g ρ m k)
def zC {f g:Ms}:zuI t f g=dIfS t f g:=by funext ρ n k;simp only[zuI,dIfS,u7]
abbrev zub (i:Nat):Ms:=λρ n k=>onV ρ i λw=>k.rt w n
def zaU:zoE i=zub i:=by funext ρ n k;exact zau.symm
abbrev dSet (i:Nat) (f:AD):Ms:=λρ n k=>f ρ n λw m=>onP ρ i w λq=>k.nx q m
def zp:zot f (gN i)=dSet i f:=by change zot f (gN i)=zot f (eN i);rw[zB]
abbrev dOwn (i:Nat) (f:AD):Ms:=λρ n k=>f ρ n λw m=>onC (W.mut w) (onP ρ i w λρ'=>k.nx ρ' m) False
def yf:zri i f=dOwn i f:=by funext ρ n k;simp only[zri,dOwn,xV (Q:=λρ'=>k.nx ρ' _)];congr 1;funext w m;cases h:W.mut w <;> simp
abbrev dApp (i:Nat) (f:AD):Ms:=λρ n k=>onV ρ i λv=>onL v λl=>f ρ n λw m=>onD w λd=>l.length<lim/\onP ρ i (.d (.lst (l++[d]))) λq=>k.nx q m
def zcc:(onV ρ i λv=>onL v P) = ∃l,ρ[i]?=some (some (.d (.lst l)))/\P l:=by simp only[zau,xx];exact propext ⟨by right,by right⟩
def zqN{P:List (AG×Dt)->Prop}:(onV ρ i λv=>onE v P) = ∃l,ρ[i]?=some (some (.dt l))/\P l:=by simp only[zau,zg5];exact propext ⟨by right,by right⟩
def uY:ztA i f=dApp i f:=by
 funext ρ n k;simp only[ztA,dApp,zcc,xI,xV (Q:=λq=>k.nx q _)];show propext ⟨λ⟨⟨l,e⟩,h⟩=>⟨l,e,?_⟩,λ⟨l,e,h⟩=>⟨⟨l,e⟩,?_⟩⟩
 all_goals
  right
abbrev dExt (i:Nat) (f:AD):Ms:=λρ n k=>onV ρ i λv=>onL v λl=>f ρ n λw m=>onL w λB=>l.length+B.length<=lim/\onP ρ i (.d (.lst (l++B))) λq=>k.nx q m
def zf8:zuH i f=dExt i f:=by
 funext ρ n k;simp only[zuH,dExt,zcc];simp only[xx,xV (Q:=λq=>k.nx q _)];show propext ⟨λ⟨⟨l,e⟩,h⟩=>⟨l,e,?_⟩,λ⟨l,e,h⟩=>⟨⟨l,e⟩,?_⟩⟩
 all_goals
  right
abbrev dIns (i:Nat) (fk f:AD):Ms:=λρ n k=>onV ρ i λv=>onL v λl=>fk ρ n λy m=>f ρ m λw B=>onD w λd=>onI y λj=>(0<=j/\j<=l.length/\l.length<lim)/\onP ρ i (.d (.lst (zmR l j.toNat d))) λq=>k.nx q B
def zov:zuJ i fk f=dIns i fk f:=by
 funext ρ n k;simp only[zuJ,dIns,zcc,xI,xJ,xV (Q:=λq=>k.nx q _)];show propext ⟨λ⟨⟨l,e⟩,h⟩=>⟨l,e,?_⟩,λ⟨l,e,h⟩=>⟨⟨l,e⟩,?_⟩⟩
 all_goals
  show (congrArg (fk ρ n) ?_).mp h;funext y m;show congrArg (f ρ m) ?_;funext w m2;show propext ?_;simp[e,and_assoc]
abbrev zqG (i:Nat) (fk:AD):Ms:=λρ n k=>onV ρ i λv=>onL v λl=>fk ρ n λy m=>onI y λj=>(0<=j/\j<l.length/\l.length<=lim)/\onP ρ i (.d (.lst (l.eraseIdx j.toNat))) λq=>k.nx q m
def zlB:zoD i fk=zqG i fk:=by
 funext ρ n k;simp only[zoD,zqG,zcc,xJ,xV (Q:=λq=>k.nx q _)];show propext ⟨λ⟨⟨l,e⟩,h⟩=>⟨l,e,?_⟩,λ⟨l,e,h⟩=>⟨⟨l,e⟩,?_⟩⟩
 all_goals
  show (congrArg (fk ρ n) ?_).mp h;funext y m;show propext ?_;simp[e,and_assoc]
abbrev ztw (i:Nat):Ms:=λρ n k=>onV ρ i λv=>onL v λl=>onP ρ i (.d (.lst l.reverse)) λq=>k.nx q n
abbrev dPut (i:Nat) (fk f:AD):Ms:=λρ n k=>onV ρ i λv=>onL v λl=>f ρ n λw m=>fk ρ m λy B=>onD w λd=>onI y λj=>(0<=j/\j<l.length)/\onP ρ i (.d (.lst (l.set j.toNat d))) λq=>k.nx q B
def zjs:zuO i fk f=dPut i fk f:=by
 funext ρ n k;simp only[zuO,dPut,zcc,xI,xJ,xV (Q:=λq=>k.nx q _)];show propext ⟨λ⟨⟨l,e⟩,h⟩=>⟨l,e,?_⟩,λ⟨l,e,h⟩=>⟨⟨l,e⟩,?_⟩⟩
 all_goals
  show (congrArg (f ρ n) ?_).mp h;funext y m;show congrArg (fk ρ m) ?_;funext w m2;show propext ?_;simp[e,and_assoc]
abbrev onSt (w:W) (P:AG->Prop):Prop:=∃st,w = .d (stD st)/\P st
abbrev zmH (fd fk:AD):AD:=λρ n Q=>fd ρ n λx q=>fk ρ q λy B=>onE x λkvs=>∃st,y = .d (stD st)/\onO (yy kvs st) λd=>Q (.d d) B
def yt:zjq fd fk=zmH fd fk:=by
 funext ρ n Q;simp only[zjq,zmH,zg5,zbr];grind
abbrev zmI (i:Nat) (fk f:AD):Ms:=λρ n k=>onV ρ i λv=>onE v λkvs=>f ρ n λw m=>fk ρ m λy B=>onD w λd=>∃st,y = .d (stD st)/\kvs.length<lim/\onP ρ i (.dt (zeu kvs st d)) λq=>k.nx q B
def zaT:zjr i fk f=zmI i fk f:=by
 funext ρ n k;simp only[zjr,zmI,zqN,xI,xV (Q:=λB=>k.nx B _)];show propext ⟨λ⟨⟨l,e⟩,h⟩=>⟨l,e,?_⟩,λ⟨l,e,h⟩=>⟨⟨l,e⟩,?_⟩⟩
 all_goals
  show (congrArg (f ρ n) ?_).mp h;funext y m;show congrArg (fk ρ m) ?_;funext w m2;show propext ?_;constructor
 rintro⟨kvs,st,d,q,F,I,h1,h2⟩;rw[e] at q;cases q;exact⟨d,F,st,I,h1,h2⟩;right;right;rintro⟨kvs,st,d,q,F,I,h1,h2⟩;rw[e] at q;cases q;exact⟨d,F,st,I,h1,h2⟩
abbrev zqD (i j:Nat):Ms:=λρ n k=>onV ρ j λw=>onN ρ j λq=>onP q i w λB=>k.nx B n
def zdR:zoz i j=zqD i j:=by funext ρ n k;simp only[zoz,zqD,zau,xV (Q:=λq=>k.nx q _),zm3 (Q:=λB=>k.nx (B.set i (some _)) n)]
abbrev dPar (i j:Nat) (fs:AC):Ms:=λρ n k=>fs ρ n λF m=>on2 F λw u=>onP ρ i w λq=>onP q j u λB=>k.nx B m
abbrev dIsi (B:Dt->Bool) (f:AD):AD:=λρ n Q=>f ρ n λw m=>onD w λd=>Q (.d (.bl (B d))) m
def zbe:zmZ B f=dIsi B f:=by funext ρ n Q;simp only[zmZ,dIsi,xI]
abbrev zgF (fs:AC):AD:=λρ n Q=>fs ρ n λq m=>on1 q λx=>onI x λj=>(0<=j/\j<=1000)/\Q (.d (.lst (zfB j.toNat))) m
abbrev zqK (fs:AC):AD:=λρ n Q=>fs ρ n λq m=>on1 q λx=>onI x λj=>(0<=j/\j<=1000)/\Q (.d (.tup (zfB j.toNat))) m
def zsw {q:AU}{P:Nat->Prop}:(∃j:Nat,q=[.d (.int (j:Int))]/\j<=1000/\P j)=on1 q λx=>onI x λj=>(0<=j/\j<=1000)/\P j.toNat:=by simp only[zat,xJ];exact propext ⟨by rintro⟨j,e,h1,h⟩;exact⟨_,e,_,rfl,⟨by lia,by lia⟩,by simpa using h⟩,by rintro⟨x,e,j,B,⟨h1,h2⟩,h⟩;exact⟨j.toNat,by grind,by lia,h⟩⟩
def uz:zdQ fs=zgF fs:=by funext ρ n Q;simp only[zdQ,zgF];congr 1;funext ws m;exact zsw (P:=λj=>Q (.d (.lst (zfB j))) m)
abbrev dTru (f:AD):Ev->Mo Bool:=λρ n Q=>f ρ n λw m=>onO (truD w) λb=>Q b m
def zoG:zuR f=dTru f:=by funext ρ n Q;simp only[zuR,dTru,zbr]
abbrev dChain (F G:W->W->Mo W) (fa fb fc:AD):AD:=λρ n Q=>fa ρ n λx B=>fb ρ B λy I=>F x y I λz q=>onB z λk=>onC k (fc ρ q λu J=>G y u J Q) (Q (.d (.bl false)) q)
def zgB{α:Type}(xs:List α)(F:α->W)(hl:l=xs.map F)(O:xs.length<=lim)(I:Nat->Ev->Nat->AS->Prop)(h0:I 0 L n [])(h:∀i a q J acc,xs[i]?=some a->I i q J acc->∀C:Ev->Nat->AS->Prop,(∀ {ρ m l},I (i+1) ρ m l->C ρ m l)->mg (F a) q λB=>U B J λb Z=>onC b (Y B Z λx n3=>onD x λd=>C B n3 (acc++[d])) (C B Z acc))(fin:∀ q J acc,I xs.length q J acc->Q (.d (.lst acc)) J):zeG mg U Y L Q l n:=by
 show zkR xs F hl O I h0 (λi a q J acc ha hI C hC=>?_) fin;have:=h i a q J acc ha hI C hC;simp only[u7,xI] at this;exact this
def zdy{α:Type}(xs:List α)(F:α->W)(Z:l=xs.map F)(J:Ev->Prop)(P:α->Bool)(E:α->Dt)(L:xs.length<=lim)(j0:J I)(h:∀a∈xs,∀ B,J B->∀C:Ev->Nat->Option Dt->Prop,(∀ {q},P a=true->J q->C q n (some (E a)))->(∀ {q},P a=false->J q->C q n none)->mg (F a) B λq=>O q n λb Y=>onC b (U q Y λx n3=>onD x λd=>C q n3 (some d)) (C q Y none))(fin:Q (.d (.lst ((xs.filter P).map E))) n):zeG mg O U I Q l n:=by
 show zig xs F Z J P E L j0 (λa ha B hj C hC=>?_) fin;have:=h a ha B hj C (λ{q} e z=>by right) λ{q} e z=>by have:=hC q z;rwa[if_neg (by rw[e];decide)] at this
 simp only[u7,xI] at this;exact this
def uI{α:Type}(xs:List α)(F:α->W)(U:l=xs.map F)(J:Ev->Prop)(E:α->Dt)(L:xs.length<=lim)(Y:J I)(h:∀a∈xs,∀ B,J B->∀C:Ev->Nat->Dt->Prop,(∀ {q},J q->C q n (E a))->mg (F a) B λq=>O q n λx Z=>onD x λd=>C q Z d)(fin:Q (.d (.lst (xs.map E))) n):zeG mg ztD O I Q l n:=by
 show zkS xs F U J E L Y (λa ha B hj C hC=>?_) fin;have:=h a ha B hj C λ{q} z=>hC q z;simp only[xI] at this;exact this
def znt{t:Ev->Mo Bool}{fb:Ms}{ρ:Ev}{k:Kt}(I:Nat->Ev->Nat->Prop)(O:Nat)(Y:I O ρ n)(h:∀m q J,I m q J->∀ (C B:Ev->Nat->Prop) (E:AV),(∀ {ρ n} (F:Nat),F<m->I F ρ n->C ρ n)->(∀ {ρ n},k.nx ρ n->B ρ n)->(∀ {w n},k.rt w n->E w n)->t q J λb U=>onC b (blk fb q U { rt:=E,nx:=C,ct:=C,bk:=B }) (B q U)):zjv t fb ρ n k:=by
 show zkz I O Y λm q J Z=>?_;have:=h m q J Z (λL n3=>∃F,F<m/\I F L n3) k.nx k.rt (λF a b=>⟨F,a,b⟩) (λz=>z) λz=>z;simp only[u7,zqq] at this;exact this
end
abbrev rep:Nat->(Ev->Prop)->Prop
 | 0,Q=>Q []
 | k+1,Q=>rep k λρ=>Q (none::ρ)
abbrev beg:AU->Nat->(Ev->Prop)->Prop
 | [],r,Q=>rep r Q
 | w::q,r,Q=>beg q r λρ=>Q (some w::ρ)
def zj7:∀ {r:Nat} {Q:Ev->Prop},rep r Q=Q (List.replicate r none)
 | 0,Q=>rfl
 | r+1,Q=>by rw[rep,zj7];rfl
def zh8:∀ {q:AU} {r:Nat} {Q:Ev->Prop},beg q r Q=Q (q.map some++List.replicate r none)
 | [],r,Q=>by rw[beg,zj7];rfl
 | w::q,r,Q=>by rw[beg,zh8];rfl
def zm1 {P:Aa}{w:Ab}{K:AH}{mg:AI}{base:Heap}{I:Str}{st:Stmt}{f:Addr}{fd:Ac}{N ps:AM}{k m:Nat}{fr:Bool}{F:PN->AU->Mo W}(M:AR)(r:Nat)(O:(∀vs H Q E,spV m fr F vs H Q E->vs.length=ps.length)->(∀ (B:Value) (A:Ae) (q:List Env) (s:AZ) (H:Hp) (vs:AT) (Q:VK) (E:XK),Room k (A.deeper (PyProof.Rows.envOfC I (ze st) s.heap.objs.size f B))->spV m fr F vs H Q E->
   ∃t,QSs (zcL CX0 P w K mg base N I (ze st) f B A q s H E).nox (zJ st) t/\t { nx:=λ_ H'=>Q .non H',rt:=Q } (L2.y4 N vs) H)->FnOk P w K mg base CX0 (k+1) f fd ps (spV m fr F)) (U:m=ps.length) (Y:∀i∈M,m<=i) (Z:N.length=m+r)
  (J:∀ (B:Value) (A:Ae) (q:List Env) (s:AZ) (H:Hp) (E:XK) (Pn:PN),Room k (A.deeper (PyProof.Rows.envOfC I (ze st) s.heap.objs.size f B))->
   ∃fs,JSs (zcL CX0 P w K mg base N I (ze st) f B A q s H E).nox Pn [] M fr (zJ st) fs/\∀L n R,F Pn L n R->beg L r λρ=>fs ρ n { nx:=λ_ n'=>onC fr False (R (.d .non) n'),rt:=R }):FnOk P w K mg base CX0 (k+1) f fd ps (spV m fr F):=by
 show zrp M O U Y λB A q s H E Pn hr=>?_;obtain⟨fs,h1,h2⟩:=J B A q s H E Pn hr;show⟨fs,h1,λL n R hl hF=>?_⟩;have:=h2 L n R hF;rw[zh8] at this;have e:xn N L=L.map some++List.replicate r none:=by unfold xn;rw[Z,hl,Nat.add_sub_cancel_left]
 grind
def Fun.okW(M:AR)(r:Nat)(Fu:Fun K x q st f fd)(S:FnScope N ps (ze st))(O:m=ps.length)(U:∀i∈M,m<=i)(Y:N.length=m+r)(B:∀ (J:Value) (A:Ae) (I:List Env) (s:AZ) (H:Hp) (E:XK) (Pn:PN),Room k (A.deeper (PyProof.Rows.envOfC q (ze st) s.heap.objs.size f J))->
   ∃fs,JSs (zcL CX0 P w K mg base N q (ze st) f J A I s H E).nox Pn [] M fr (zJ st) fs/\∀L n R,F Pn L n R->beg L r λρ=>fs ρ n { nx:=λ_ Z=>onC fr False (R (.d .non) Z),rt:=R }):FnOk P w K mg base CX0 (k+1) f fd ps (spV m fr F):=zm1 M r (λl b=>Fun.okQ Fu S l b) O U Y B
def FunD.okW(M:AR)(r:Nat)(Fu:FunD K x q st f fd)(S:FnScope N ps (ze st))(O:m=ps.length)(U:∀i∈M,m<=i)(Y:N.length=m+r)(B:∀ (J:Value) (A:Ae) (I:List Env) (s:AZ) (H:Hp) (E:XK) (Pn:PN),Room k (A.deeper (PyProof.Rows.envOfC q (ze st) s.heap.objs.size f J))->
   ∃fs,JSs (zcL CX0 P w K mg base N q (ze st) f J A I s H E).nox Pn [] M fr (zJ st) fs/\∀L n R,F Pn L n R->beg L r λρ=>fs ρ n { nx:=λ_ Z=>onC fr False (R (.d .non) Z),rt:=R }):FnOk P w K mg base CX0 (k+1) f fd ps (spV m fr F):=zm1 M r (λl b=>FunD.okQ Fu S l b) O U Y B
abbrev dItS (i:Nat):AC:=λρ n Q=>onV ρ i λx=>onS x λl=>Q (l.map W.d) n
def zss{fs:Ms}(h:rep r λρ=>fs (a::b::ρ) n k):fs (a::b::List.replicate r none) n k:=by rw[zj7] at h;exact h
def zuU {G:Prop}(P:W->Prop)(h:(∀a,P a)->G)(r:∀a,P a):G:=h r
def len1 {st:AG}{x:Dt}(h:st.length<=1000):(st.map Dt.int).length+[x].length<=lim:=by rw[ab];exact aw (by simp;lia:_<=1001) (by ext)
def cat1 {st:AG}{x:Int}:st.map Dt.int++[Dt.int x]=(st++[x]).map Dt.int:=by right
def zfI {st:AG}{b x:Int}(q:0<=b)(B:st.length<=1000):ub (st.map Dt.int) none (some b)++[Dt.int x]++ub (st.map Dt.int) (some (b+1)) none=(chg st b x).map Dt.int:=by
 have key:∀z:W,zfO (.d (.tup (ub (st.map Dt.int) none (some b)))) (.d (.tup [.int x])) 0 (λw m=>zfO w (.d (.tup (ub (st.map Dt.int) (some (b+1)) none))) m λw' _=>w' = .d (stD (chg st b x))):=λz=>znH q B rfl;obtain⟨l,m,F,I,_,J,L,O,U,_,h⟩:=key (.d .non);grind
def zdu {st:AG}{b:Int}{x:Dt}(q:st.length<=1000):(ub (st.map Dt.int) none (some b)).length+[x].length<=lim:=by have:=zbY (st.map Dt.int) none (some b);rw[ab] at this;exact aw (by simp;lia:_<=1001) (by ext)
def zdv{st:AG}{b c:Int}(q:st.length<=1000):(ub (st.map Dt.int) none (some b)++[x]).length+(ub (st.map Dt.int) (some c) none).length<=lim:=by have h1:=zbY (st.map Dt.int) none (some b);have h2:=zbY (st.map Dt.int) (some c) none;rw[ab] at h1 h2;rw[aD];exact aw (by simp;lia:_<=2001) (by ext)
def scR (mg:W->Ev->(Ev->Prop)->Prop)(O:Ev->Mo Bool)(U:AD)(J:Ev)(Q:AF->Nat->Prop):AU->Nat->Prop:=λl Y=>∃I:Nat->Ev->Nat->AF->Prop,I 0 J Y []/\
 (∀i w q F acc,l[i]?=some w->I i q F acc->mg w q λB=>O B F λb L=>if b=true then U B L λx Z=>∃st,x = .d (stD st)/\I (i+1) B Z (acc++[st]) else I (i+1) B L acc)/\
 (∀i q F acc ks,I i q F acc->List.Nodup ks->(∀z∈ks,z∈acc)->ks.length<300)/\
 ∀ q F acc ks,I l.length q F acc->List.Nodup ks->(∀z,z∈ks↔z∈acc)->Q ks F
abbrev zjt (q:AC) (mg:W->Ev->(Ev->Prop)->Prop) (B:Ev->Mo Bool) (F:AD) (cix:List (Option Nat)):AD:=λρ n Q=>q ρ n (scR mg B F (zcF ρ cix) λks I=>∃m,ks.length<64/\1<=m/\(∀st∈ks,st.length=m)/\∀l':AF,l'.Perm ks->(l'.Pairwise λa b=>HT.lexLt a b=true)->Q (.d (xf l')) I)
def zjH:NP (zfq P w a xs):=zg0
def zpO{ks:AF}(S:zes P w (upd H acc o) acc ks):NP o/\Mt o:=by obtain⟨xs,h1,_⟩:=S;rw[zj] at h1;cases h1;exact⟨zjH,rfl⟩
section
variable {X:Cx}{Pn:PN}{M S:AR}{fr fr':Bool}{pos p:Pos}
def zj6{P:Aa}{w:Ab}{wi:TI}{g:TG}{ti:TT}{te:TE}{cix:List (Option Nat)}{fi:AC}{mg:W->Ev->(Ev->Prop)->Prop}{ft:Ev->Mo Bool}{fe:AD}(hn:(cix.filterMap id).Nodup)(hi:RI Pn M ow wi fi)(hg:RG (yP M cix) (yP M cix) g mg)(ht:RT Pn (yP M cix) ti ft)(he:RE Pn (yP M cix) fr' te fe):RE Pn M true (tCB (zng P w) (zcB (zpY P w wi g ti te cix) znq)) (zjt fi mg ft fe cix):=⟨λA σ H ρ n Q R E Pp hf k=>by
 show hi.run A σ H ρ n _ _ E Pp hf λl m J H1 ⟨I,i0,it,ib,ie⟩ iv g1=>λacc F S0=>?_;have E1:=E.stay g1.st;have E2:=(E1.cap hn).more (zu.upd (o:=zfq P w acc []) F) (Fr.of F) zj zjH rfl;have P2:ua Pn (λb=>A b\/b=acc) m (L2.upd H1 acc (zfq P w acc [])):=g1.pn.grow' (g1.pn.same (y3.upd F)) (Fr.of F) zj zjH rfl;have b0:∀k w,k∈yP M cix->(zcF ρ cix)[k]?=some (some w)->(zaF σ cix)[k]?≠some (some (.ref acc)):=λk w hk hw z=>by obtain⟨v,s1,_,s3⟩:=(E1.cap hn).val k w hw;obtain⟨a,e,hA,_⟩:=s3 hk;rw[z] at s1;cases s1;cases e;exact E1.new F hA
 have key:∀ L q H',EnvR (λb=>A b\/b=acc) (yP M cix) L H' q->(∀k∈yP M cix,L[k]?=(zaF σ cix)[k]?/\q[k]?=(zcF ρ cix)[k]?)->∀k w,k∈yP M cix->q[k]?=some (some w)->L[k]?≠some (some (.ref acc)):=λL q H' E' ap k w hk hw z=>by right
 show⟨λi mm L H'=>mm=l.length - i/\i<=l.length/\∃ q U B ks,EnvR (λb=>A b\/b=acc) (yP M cix) L H' q/\ua Pn (λb=>A b\/b=acc) U H'/\I i q U B/\zes P w H' acc ks/\(∀z,z∈ks↔z∈B)/\zu (z5 A H1) (z5 (λb=>A b\/b=acc) H')/\zu H1 H'/\(∀k∈yP M cix,L[k]?=(zaF σ cix)[k]?/\q[k]?=(zcF ρ cix)[k]?),
  ⟨l.length,by simp,aK _,_,m,[],[],E2,P2,i0,S0,λ_=>Iff.rfl,yG (zu.upd F) (Fr.of F),zu.upd F,λk hk=>⟨rfl,rfl⟩⟩,?_⟩
 rintro i mm L H' ⟨rfl,b1,q,U,B,ks,E',P',hI,hS,hm,st,s1,ap⟩;have a0:ks.Nodup:=hS.choose_spec.2.2.2;by_cases a1:i<l.length
 show Or.inr ?_;have an:l[i]?=some l[i]:=ah a1;obtain⟨go,yl⟩:=iv.one i l[i] _ H' an st (λ_=>s1) λp hp=>E'.new hp
 show⟨go,λas H2=>∃ q U B ks,EnvR (λb=>A b\/b=acc) (yP M cix) as H2 q/\ua Pn (λb=>A b\/b=acc) U H2/\I (i+1) q U B/\zes P w H2 acc ks/\(∀z,z∈ks↔z∈B)/\zu (z5 A H1) (z5 (λb=>A b\/b=acc) H2)/\zu H1 H2/\(∀k∈yP M cix,as[k]?=(zaF σ cix)[k]?/\q[k]?=(zcF ρ cix)[k]?),
  λas H2 h=>⟨l.length - (i+1),by lia,rfl,a1,h⟩,λx H2 hy=>?_⟩
 obtain⟨S2,V2⟩:=yl x H2 hy;show hg.run _ L H2 q x l[i] _ _ (E'.stay (zu.same S2)) V2 (it i l[i] q U B an hI) λad O r3 E3 f3=>?_;have Y:∀k∈yP M cix,ad[k]?=(zaF σ cix)[k]?/\O[k]?=(zcF ρ cix)[k]?:=λk hk=>⟨(f3 k hk).1.trans (ap k hk).1,(f3 k hk).2.trans (ap k hk).2⟩;show ht.run _ ad H2 O U _ _ E3 (P'.same S2) r3 λb m3 H4 r4 g4=>?_;have ag:=(zu.same S2).trans g4.st
 cases b with
 | false=>
  rw[if_neg (by ext)] at r4 ⊢;exact⟨O,m3,B,ks,E3.stay g4.st,g4.pn,r4,hS.stay ag,hm,st.trans (zM ag),s1.trans ag,Y⟩
 | true=>
  rw[if_pos rfl] at r4 ⊢;show he.run _ ad H4 O m3 _ _ (E3.stay g4.st) g4.pn r4  ?_;rintro w5 m5 v5 H5 ⟨d,e5,r5⟩ V5 g5 _;subst e5;have av:=ag.trans g5.st;have E5:=(E3.stay g4.st).stay g5.st;obtain⟨b,rfl,hb⟩:=ztg V5;show⟨b,d,ks,rfl,hb,hS.stay av,ib i q U B ks hI a0 λz hz=>(hm z).mp hz,λo a7 S' bb b2=>?_⟩;obtain⟨np,nt⟩:=zpO S';show⟨O,m5,B++[d],a7,E5.upd (.inr rfl) (key ad O H5 E5 Y) np nt,g5.pn.upd (.inr rfl),r5,S',λz=>?_,?_,?_,Y⟩;rw[bb z,aG,ax,hm z,or_comm];rw[yp (.inr rfl)];exact st.trans (zM av);exact λb o e nn=>by rw[zd (zc e F)];exact s1.trans av b o e nn
 show Or.inl ?_;have bd:i=l.length:=by lia
 subst bd;show⟨iv.stop _ H' st (λ_=>s1),?_⟩;obtain⟨ml,bk,h1,bl,hq⟩:=ie q U B ks hI a0 hm;show⟨acc,ks,ml,rfl,hS,bk,h1,bl,λys Z bo hp hu=>λp H3 a2 gp S3=>?_⟩;have bs:=s1.trans (zu.same S3);have a3:Al A H':=E1.al.stay s1;have bx:ua Pn A U H3:=(P'.same S3).less λa z=>.inl z;have a4:=a3.stay (zu.same S3);have a5:=bo.stay (zu.same S3);show k _ U _ H3 (hq Z hp hu) (Val.of ⟨p,ys,rfl,zy (a3.new a2) gp,zaA a4.noT (xU Z) a5⟩) (g1.trans ⟨bs,bx⟩) λ_=>⟨p,rfl,((Fr.of a2).back s1).back g1.st,p,ys,rfl,gp,zaA (λb xs z e=>?_) (xU Z) a5⟩;rcases z with z | z;exact a4.noT b xs z e;subst z;rw[gp] at e;cases e⟩
def zlm {elt tg iter:Expr}{ifs:AO}{scope:Scope}{N:AM}{cix:List (Option Nat)}{J:AC}{mg:W->Ev->(Ev->Prop)->Prop}{L:Ev->Mo Bool}{O:AD}{Y:Bool}{sp:Pos}(B:X.mg "sorted" = none)(Z:X.A.units+1<cLine)(U:X.calm=true)(cc:CompOk X scope N cix)
  (hi:JI X Pn M Y tg iter J) (hg:∀C s H ex,JG (zt X scope N C s H ex) (yP M cix) (yP M cix) tg mg) (ht:∀C s H ex,JTs (zt X scope N C s H ex) Pn (yP M cix) ifs L) (he:∀C s H ex,JE (zt X scope N C s H ex) Pn (yP M cix) fr' elt O)
  (hn:(cix.filterMap id).Nodup:=by ext) (hs:∀x,foldedSetIterable iter X.env x=pure x:=by intro _;rfl) (F:Gl X "sorted" := by rfl) (q:starEach [.SetComp elt [⟨tg,iter,ifs,0⟩] scope sp] X.env=[(false,eval (.SetComp elt [⟨tg,iter,ifs,0⟩] scope sp) X.env)]:=by rfl) (I:(backTo pos (starEach [] X.env)).any (·.1)=false:=by rfl) :
  JE X Pn M true (.Call (.Name "sorted" p) [.SetComp elt [⟨tg,iter,ifs,0⟩] scope sp] [] pos) (zjt J mg L O cix):=by
 obtain⟨ti,qi,ri⟩:=hi.ex;obtain⟨g,qg,rg⟩:=zkv hg;obtain⟨tt,qt,rt⟩:=zkw ht;obtain⟨te,qe,re⟩:=zku he;exact⟨_,y0 (zkV U) F B dy (zG (zhM Z U cc qi qg qt qe hs) yk q) (by ext) (by ext) q I,zj6 hn ri rg rt re⟩
end
def zpS{α:Type}{Q:AF->Nat->Prop}(xs:List α)(L:α->W)(hl:l=xs.map L)(J:Ev->Prop)(P:α->Bool)(E:α->AG)(j0:J I)(h:∀a∈xs,∀ B,J B->∀C:Ev->Nat->Option AG->Prop,(∀ {q},P a=true->J q->C q n (some (E a)))->(∀ {q},P a=false->J q->C q n none)->mg (L a) B λq=>ft q n λb n2=>onC b (fe q n2 λx U=>∃st,x = .d (stD st)/\C q U (some st)) (C q n2 none))(Y:∀ks,List.Nodup ks->(∀z∈ks,z∈(xs.filter P).map E)->ks.length<300)(fin:∀ks,List.Nodup ks->(∀z,z∈ks↔z∈(xs.filter P).map E)->Q ks n):scR mg ft fe I Q l n:=by
 subst hl;show⟨λi B O acc=>J B/\O=n/\acc=((xs.take i).filter P).map E,⟨j0,rfl,by simp⟩,?_,?_,?_⟩;rintro i w B O acc hw ⟨hj,rfl,rfl⟩;rw[aj] at hw;obtain⟨a,Z,rfl⟩:=aA.mp hw
 have:=h a (ak Z) B hj (λq U o=>match o with
  | some d=>J q/\U=O/\((xs.take i).filter P).map E++[d]=((xs.take (i+1)).filter P).map E
  | none=>J q/\U=O/\((xs.take i).filter P).map E=((xs.take (i+1)).filter P).map E) (λ{q} hp F=>by
   rw[zh Z,cV,aF]
   exact⟨F,rfl,by simp[hp]⟩) (λ{q} hp F=>by
   rw[zh Z,cV,aF];exact⟨F,rfl,by simp[hp]⟩)
 simp only[u7] at this;exact this;rintro i B O acc ks ⟨_,rfl,rfl⟩ hn hk;show Y ks hn λz hz=>?_;grind;right
abbrev dGetI (fd fk q:AD):AD:=λρ n Q=>fd ρ n λx B=>onK x λkvs=>fk ρ B λy F=>q ρ F λz I=>onO (zuD y) λk=>onI z λi=>Q (.d ((yy kvs k).getD (.int i))) I
section
variable {X:Cx}{Pn:PN}{M:AR}{a b c:Expr}{fa fb fc:AD}{apos cpos:Pos}
end
end L3
namespace L2
open PyProof.Rows
section
variable {X:Cx}{e lo st:Expr}{te tl tk:TE}{pos p2:Pos}
end
end L2
namespace L3
open L2
abbrev dFromL (fa fl fk:AD):AD:=λρ n Q=>fa ρ n λx q=>onL x λl=>fl ρ q λy B=>onI y λc=>fk ρ B λz F=>onI z λk=>(0<=c/\1<=k)/\∀ys:AS,ys.Sublist (l.drop c.toNat)->Q (.d (.lst ys)) F
section
variable {X:Cx}{Pn:PN}{M:AR}{e lo st:Expr}{f fl fk:AD}{pos p2:Pos}
end
def zf6 (A:AL)(a:Addr):AL:=λb=>A b/\b≠a
def zn8:HO:=.dK [(Sum.inr "at",.non)]
def ziQ:¬ NP zn8:=λh=>by have:=h _ rfl;rw[xg (p:=((Sum.inr "at" : Key),V.non)) rfl] at this;cases this
abbrev ziN (H:Hp)(a:Addr):Hp:=L2.upd H a zn8
def ziO:ziN H a a=some zn8:=zj
def zb2(h:b≠a):ziN H a b=H b:=zd h
def ziP:Fr (ziN H a) a:=λo e=>by rw[ziO] at e;cases e;exact ziQ
def zaJ(B:A a):zu (z5 A H) (z5 (zf6 A a) (ziN H a)):=λb o e F=>by
 obtain⟨h1,h2⟩:=zP.mp e;by_cases q:b=a;right;exact zy (λz=>h1 z.1) (by rw[zb2 q];exact h2)
def zh6(q:Al A H):Al (zf6 A a) (ziN H a):=λb z=>by obtain⟨o,h1,h2⟩:=q b z.1;exact⟨o,by rw[zb2 z.2];exact h1,h2⟩
def WAt.top(h:WAt T G u (.ref c))(e:T' c=T c)(hm:u.mut=true):WAt T' G u (.ref c):=by
 cases u with
 | d x=>
  cases x with
  | lst l=>obtain⟨a2,xs,e2,g1,g2⟩:=h;cases e2;exact⟨c,xs,rfl,by rw[e];exact g1,g2⟩
  | dct=>obtain⟨a2,xs,e2,g1,g2⟩:=h;cases e2;exact⟨c,xs,rfl,by rw[e];exact g1,g2⟩
  | _=>cases hm
 | pen p=>cases hm
 | dk kvs=>obtain⟨a2,xs,e2,g1,g2,g3⟩:=h;cases e2;exact⟨c,xs,rfl,by rw[e];exact g1,g2,g3⟩
 | dt kvs=>obtain⟨a2,xs,e2,g1,g2⟩:=h;cases e2;exact⟨c,xs,rfl,by rw[e];exact g1,g2⟩
 | ss P w kvs=>obtain⟨a2,xs,e2,g1,g2⟩:=h;cases e2;exact⟨c,xs,rfl,by rw[e];exact g1,g2⟩
 | df kvs=>obtain⟨a2,ob,xs,e2,g1,g2⟩:=h;cases e2;exact⟨c,ob,xs,rfl,by rw[e];exact g1,g2⟩
 | kf kvs=>obtain⟨a2,ob,xs,e2,g1,g2⟩:=h;cases e2;exact⟨c,ob,xs,rfl,by rw[e];exact g1,g2⟩
 | fl kvs=>obtain⟨a2,ob,xs,e2,g1,g2⟩:=h;cases e2;exact⟨c,ob,xs,rfl,by rw[e];exact g1,g2⟩
section
variable {X:Cx}{Pn:PN}{M S:AR}{fr fr':Bool}{pos p:Pos}
def At3.put(a:At3 Pn B S M A σ H ρ n)(hi:i∈M)(hs:i∉S)(g':Go Pn A H m H')(hF:Fr H ad)(hb:WAt H' (z5 (λb=>A b\/b=ad) H') w (.ref ad))(hm:w.mut=true) :
  At3 Pn B S M (λb=>A b\/b=ad) (σ.set i (some (.ref ad))) H' (ρ.set i (some w)) m:=by
 obtain⟨a2,o,e2,ho,np,nt⟩:=zjB hb hm;cases e2;have E1:=a.env.more g'.st hF ho np nt;have hnA:¬ A ad:=a.env.newF hF;show⟨⟨?_,?_,?_,E1.al⟩,⟨λb z=>.inl (a.frm.sub b z),λb z=>?_,λb o e n c=>g'.st b o (a.frm.st b o e n c) n,a.frm.al,a.frm.cn,λb z=>let ⟨o,e,n⟩:=a.frm.cs b z;⟨o,g'.st b o e n,n⟩⟩,a.pn.grow' g'.pn hF ho np nt,a.prot.trans (yG g'.st hF),⟨λj hj=>?_,a.fix.2⟩,λj u b hj e s=>?_⟩;rw[a8,a8];exact a.env.len;intro j u e;by_cases hj:j=i;subst hj
 have hl:j<ρ.length:=by
  have:=(ac.mp e).1;right
 rw[aJ hl] at e;cases e;exact⟨.ref ad,aJ (by rw[a.env.len];exact hl),λz=>absurd hi z,λ_=>⟨ad,rfl,.inr rfl,hb,hm⟩⟩;rw[ao (Ne.symm hj)] at e ⊢;exact E1.val j u e;intro j l u u' b hj hl hne e1 e2 s1 s2
 have own:∀q u,q∈M->q≠i->ρ[q]?=some (some u)->σ[q]?≠some (some (.ref ad)):=λq u hq hqi eq sq=>by
  obtain⟨v,s,_,s3⟩:=a.env.val q u eq;obtain⟨c,ec,hc,_⟩:=s3 hq;right
 have len:∀q (u:W),(ρ.set i (some w))[q]?=some (some u)->q<σ.length:=λq u e=>by have:=(ac.mp e).1;rw[a8] at this;rw[a.env.len];exact this
 by_cases hji:j=i;subst hji;rw[aJ (len _ _ e1)] at s1;cases s1;rw[ao hne] at e2 s2;exact own l u' hl (Ne.symm hne) e2 s2;rw[ao (Ne.symm hji)] at e1 s1;by_cases hli:l=i;right;rw[ao (Ne.symm hli)] at e2 s2;exact a.env.dis j l u u' b hj hl hne e1 e2 s1 s2;rcases z with z | z;exact a.frm.new b z;subst z;exact .inr (.inl (a.frm.back hF hnA));rw[ao λ(z:i=j)=>hs (by rw[z];exact hj)];exact a.fix.1 j hj;by_cases hji:j=i;subst hji
 have hl:j<σ.length:=by
  have:=(ac.mp s).1;right
 rw[aJ hl] at s;cases s;exact .inl (a.frm.back hF hnA);rw[ao (Ne.symm hji)] at e s;exact a.mine j u b hj e s
def At3.let'(a:At3 Pn B S M A σ H ρ n)(J:∀b,¬ B.ca b)(hi:i∈M)(e:ρ[i]?=some (some w))(s:σ[i]?=some (some (.ref I)))(L:A I) :
  At3 Pn B S M (zf6 A I) σ (ziN H I) (ρ.set i none) n:=by
 have hF:Fr B.H0 I:=(a.mine i w I hi e s).resolve_right (J I)
 have U:∀ {j:Nat} {u:W},(ρ.set i none)[j]?=some (some u)->j≠i/\ρ[j]?=some (some u):=λ{j u} h=>by
  by_cases F:j=i;subst F;rw[aJ (ac.mp e).1] at h;cases h;rw[ao (Ne.symm F)] at h;exact⟨F,h⟩
 show⟨⟨?_,?_,?_,zh6 a.env.al⟩,⟨λb z=>?_,λb z=>a.frm.new b z.1,λb o e' np nc=>?_,a.frm.al,a.frm.cn,λb z=>absurd z (J b)⟩,(a.pn.upd L).less λ_ z=>z.1,a.prot.trans (zaJ L),a.fix,?_⟩;rw[a8];exact a.env.len;intro j u h;obtain⟨F,h⟩:=U h;obtain⟨v,Y,s2,s3⟩:=a.env.val j u h;show⟨v,Y,λz=>WAt.up (zaJ L) (zaJ L) (s2 z),λz=>?_⟩;obtain⟨c,rfl,hc,hb,hm⟩:=s3 z;have O:c≠I:=λq=>by subst q;exact a.env.dis i j w u c hi z (Ne.symm F) e h s Y
 show⟨c,rfl,⟨hc,O⟩,?_,hm⟩;exact WAt.top (WAt.up (zu.refl _) (zaJ L) hb) (zb2 O) hm;intro j l u u' b F hl Z e1 e2;exact a.env.dis j l u u' b F hl Z (U e1).2 (U e2).2;show⟨a.frm.sub b z,λq=>?_⟩;subst q;obtain⟨o,o1,o2,_⟩:=a.frm.al b z;exact hF o o1 o2;rw[zb2 λq=>by subst q;exact hF o e' np];exact a.frm.st b o e' np nc;intro j u b F h Y;exact a.mine j u b F (U h).2 Y
def spG (k:Nat)(fr:Bool)(F:PN->AU->Mo W):Sp:=λvs H Q _=>∃Pn A us zs w a n R,vs=us++[.ref a]/\Al A H/\A a/\zbH A H zs us/\Bor A H w (.ref a)/\w.mut=true/\zs.length+1=k/\ua Pn A n H/\F Pn (zs++[w]) n R/\
 ∀w' m v H',R w' m->Val (zf6 A a) H' w' v->zu (ziN H a) H'->ua Pn (zf6 A a) m H'->(fr=true->FrV (zf6 A a) (ziN H a) H' w' v)->Q v H'
abbrev dGiv (i:Nat) (F:AU->Mo W) (f1 f2:AD):Ms:=λρ n k=>f1 ρ n λw1 m1=>f2 ρ m1 λw2 m2=>onV ρ i λw=>F [w1,w2,w] m2 λw' m'=>onC (W.mut w') (onP ρ i w' λρ'=>k.nx ρ' m') False
def zsz(h1:RE Pn M b1 t1 f1)(h2:RE Pn M b2 t2 f2)(hi:i∈M)(hs:i∉S) :
  RS Pn S M fr (zfC (zfv (spG 3 true F) [] E0 (zcB t1 (zcB t2 (zcB (zkG i) znq)))) (uT i)) (dGiv i (F Pn) f1 f2):=⟨λB A σ H ρ n k D a kk hf=>by
 show h1.run A σ H ρ n _ _ a.env a.pn hf λw1 m1 v1 H1 r1 V1 g1 _=>?_;show h2.run A σ H1 ρ m1 _ _ (a.env.stay g1.st) g1.pn r1 λw2 m2 v2 H2 r2 V2 g2 _=>?_;rw[zau] at r2;obtain⟨w,ew,r2⟩:=r2;have a2:=(a.step g1).step g2;obtain⟨v,s1,_,s3⟩:=a2.env.val i w ew;obtain⟨ad,rfl,hA,hb,hm⟩:=s3 hi;show⟨.ref ad,s1,?_⟩;change spG 3 true F ([v1,v2,.ref ad]++[]) H2 (λx H1=>uT i x σ H1 D.nx) E0;rw[eo];show⟨Pn,A,[v1,v2],[w1,w2],w,ad,m2,_,rfl,a2.env.al,hA,⟨v1,_,rfl,V1.stay g2.st,v2,_,rfl,V2,rfl⟩,hb,hm,rfl,g2.pn,r2,λw' m' v' H' r' hv st pn hfr=>?_⟩;rw[u7] at r'
 cases hm':W.mut w' with
 | false=>rw[hm'] at r';exact r'.elim
 | true=>
  rw[hm',if_pos rfl,xV] at r';obtain⟨a',rfl,hF,hb'⟩:=hfr rfl;have av:=a2.let' kk.fc hi ew s1 hA;have:=av.put hi hs ⟨st,pn⟩ hF hb' hm';rw[List.set_set] at this;exact kk.nx _ _ H' _ m' this r'⟩
def zq6{x y:Str}{st:Stmt}{ps:AM}{fA:Addr}{fd:Ac}{F:PN->AU->Mo W}{f1 f2:AD}{p3 px spos:Pos}(D:Dfn X.K X.mg y st ps fA fd)(G:FnOk X.prog X.w X.K X.mg X.base CX0 j fA fd ps (spG 3 true F))(hr:Room Z X.A)(h1:JE X Pn M b1 B f1)(h2:JE X Pn M b2 q f2)(hN:X.N.Nodup)(hi:X.N[i]?=some x)(hx:Loc X.env.scope x)(I:i∈M:=by ext)(J:i∉S:=by ext)(L:j<=Z:=by ext)(hg:Gl X y:=by rfl)(O:Ah y:=by ext)(hv:Vis X.env.scope x:=by walk_at "v")(hd:Ah x:=by ext)(U:(x==("__classdict__" : Str))=false:=by ext)(q1:starEach [B,q,.Name x p3] X.env=(false,eval B X.env)::starEach [q,.Name x p3] X.env:=by rfl)(q2:starEach [q,.Name x p3] X.env=(false,eval q X.env)::starEach [.Name x p3] X.env:=by rfl)(q3:starEach [.Name x p3] X.env=(false,eval (.Name x p3) X.env)::starEach [] X.env:=by rfl)(Y:(backTo pos (starEach [q,.Name x p3] X.env)).any (·.1)=false:=by rfl)(hs:swapsWith (.Call (.Name y p) [B,q,.Name x p3] [] pos) (some (.Name x px)) spos.line X.env=pure false:=by rfl)(hf:X.fn x=true\/X.env.scope.names.lookup x=some .local:=by walk_at "l") :
  JS X Pn S M fr (.Assign [.Name x px] (.Call (.Name y p) [B,q,.Name x p3] [] pos) spos) (dGiv i (F Pn) f1 f2):=by
 obtain⟨t1,p1,r1⟩:=h1.ex;obtain⟨t2,p2,r2⟩:=h2.ex;exact⟨_,xW hN hi hx (zl2 D G hr (zG p1 (zG p2 (zG (qv i hi hv hd U) yk q3) q2) q1) L hg O q1 Y) hs hf,zsz r1 r2 I J⟩
def zhv {A:AL}{H:Hp}{N:AM}{zs:AU}{us:AT}{w:W}{a:Addr}(al:Al A H)(hA:A a)(h:zbH A H zs us)(hb:Bor A H w (.ref a))(hm:w.mut=true)(hg:zs.length∈M)(hM:∀i∈M,zs.length<=i) :
  EnvR A M (L2.y4 N (us++[.ref a])) H (xn N (zs++[w]))/\∀i u,i∈M->(xn N (zs++[w]))[i]?=some (some u)->(L2.y4 N (us++[.ref a]))[i]?=some (some (.ref a)):=by
 have hl:=h.len
 have few:∀i u,(xn N (zs++[w]))[i]?=some (some u)->i<zs.length+1/\(zs++[w])[i]?=some u:=λi u e=>by
  unfold xn at e
  have hi:i<(zs++[w]).length:=by
   apply bJ;intro z;rw[bf (by right)] at e;obtain⟨_,q⟩:=ac.mp e;right
  rw[a6 (by right),aj] at e;right
 have at':∀i v,(us++[V.ref a])[i]?=some v->(L2.y4 N (us++[.ref a]))[i]?=some (some v):=λi v e=>by unfold L2.y4;rw[a6 (by rw[ab];exact (ac.mp e).1),aj,e];rfl
 have last:(us++[V.ref a])[zs.length]?=some (.ref a):=by rw[<- hl];simp
 show⟨⟨?_,λi u e=>?_,λi j u u' b hi hj hne e1 e2=>?_,al⟩,λi u hi e=>?_⟩;unfold L2.y4 xn;simp[hl];obtain⟨h1,h2⟩:=few i u e;by_cases hi:i<zs.length;rw[a6 hi] at h2;obtain⟨v,v1,v2⟩:=h.get h2;exact⟨v,at' i v (by grind),λ_=>v2,by grind⟩;have hie:i=zs.length:=by lia
 subst hie;have:u=w:=by simpa using h2.symm
 subst this;exact⟨.ref a,at' _ _ last,λz=>absurd hg z,λ_=>⟨a,rfl,hA,hb,hm⟩⟩;have h1:=(few i u e1).1;have h2:=(few j u' e2).1;have h3:=hM i hi;have h4:=hM j hj;exact absurd (show i=j by lia) hne;have h1:=(few i u e).1;have h3:=hM i hi;have:i=zs.length:=by lia
 subst this;exact at' _ _ last
def zro(M:AR)(r:Nat)(Y:(∀vs H Q E,spG m fr F vs H Q E->vs.length=ps.length)->(∀ (I:Value) (A:Ae) (B:List Env) (s:AZ) (H:Hp) (vs:AT) (Q:VK) (E:XK),Room k (A.deeper (PyProof.Rows.envOfC J (ze st) s.heap.objs.size f I))->spG m fr F vs H Q E->
   ∃t,QSs (zcL CX0 P w K mg base N J (ze st) f I A B s H E).nox (zJ st) t/\t { nx:=λ_ H'=>Q .non H',rt:=Q } (L2.y4 N vs) H)->FnOk P w K mg base CX0 (k+1) f fd ps (spG m fr F))(hm:m=ps.length)(hg:m - 1∈M)(hM:∀i∈M,m - 1<=i)(hN:N.length=m+r)(O:∀ (I:Value) (A:Ae) (B:List Env) (s:AZ) (H:Hp) (E:XK) (Pn:PN),Room k (A.deeper (PyProof.Rows.envOfC J (ze st) s.heap.objs.size f I))->
   ∃fs,JSs (zcL CX0 P w K mg base N J (ze st) f I A B s H E).nox Pn [] M fr (zJ st) fs/\∀ws n R,F Pn ws n R->beg ws r λρ=>fs ρ n { nx:=λ_ n'=>False,rt:=R }):FnOk P w K mg base CX0 (k+1) f fd ps (spG m fr F):=by
 show Y (λvs H Q E h=>?_) (λI A B s H vs Q E hr h=>?_);obtain⟨Pn,A,Z,zs,w,a,n,R,rfl,_,_,hv,_,_,hl,_⟩:=h;rw[aD,hv.len,<- hm,<- hl];rfl;obtain⟨Pn,A3,Z,zs,w,a,n,R,rfl,al,hA,hv,U,ad,hl,hp,hF,q⟩:=h;obtain⟨fs,⟨t,qs,rs⟩,ag⟩:=O I A B s H E Pn hr;obtain⟨ev,mi⟩:=zhv (N:=N) (M:=M) al hA hv U ad (by grind) (by grind);have L:=ag (zs++[w]) n R hF;rw[zh8] at L
 have e:xn N (zs++[w])=(zs++[w]).map some++List.replicate r none:=by
  unfold xn;right
 rw[<- e] at L;show⟨t,qs,rs.run { A0:=zf6 A3 a,H0:=ziN H a,G0:=z5 A3 H,σ0:=L2.y4 N (Z++[.ref a]) } A3 (L2.y4 N (Z++[.ref a])) H (xn N (zs++[w])) n _ _ ⟨ev,⟨λ_ z=>z.1,λb z=>?_,λb o e np _=>?_,zh6 al,λ_ z=>z.elim,λ_ z=>z.elim⟩,hp,zu.refl _,⟨λi hi=>rfl,λz=>by cases z⟩,λi u b hi e1 s1=>?_⟩ ⟨?_,?_,?_,λ_ z=>z,?_⟩ L⟩;by_cases U:b=a;subst U;exact .inr (.inl ziP);exact .inl ⟨z,U⟩;by_cases U:b=a;subst U;have e:ziN H b b=some o:=e;rw[ziO] at e;cases e;exact absurd np ziQ;have e:ziN H a b=some o:=e;rwa[zb2 U] at e;have:=mi i u hi e1;rw[s1] at this;cases this;exact .inl ziP;right;right;right;intro w n' v H' an st pn ap r;exact q w n' v H' r an st.stay pn ap
def Fun.okG(M:AR)(r:Nat)(Fu:Fun K x q st f fd)(S:FnScope N ps (ze st))(O:m=ps.length)(U:m - 1∈M)(Y:∀i∈M,m - 1<=i)(Z:N.length=m+r)(B:∀ (J:Value) (A:Ae) (I:List Env) (s:AZ) (H:Hp) (E:XK) (Pn:PN),Room k (A.deeper (PyProof.Rows.envOfC q (ze st) s.heap.objs.size f J))->
   ∃fs,JSs (zcL CX0 P w K mg base N q (ze st) f J A I s H E).nox Pn [] M fr (zJ st) fs/\∀L n R,F Pn L n R->beg L r λρ=>fs ρ n { nx:=λ_ n'=>False,rt:=R }):FnOk P w K mg base CX0 (k+1) f fd ps (spG m fr F):=zro M r (λl b=>Fun.okQ Fu S l b) O U Y Z B
end
end L3
namespace L2
open PyProof.Rows PySem.W PySem.SeqAt
section
variable {X:Cx}
end
end L2
namespace L3
open L2
section
variable {X:Cx}{Pn:PN}{M S:AR}{fr fr':Bool}{e o:Expr}{f fo:AD}{pos p:Pos}
abbrev dLenK:AU->Mo W:=λq n Q=>on1 q λx=>onK x λkvs=>Q (.d (.int (kvs.length:Nat))) n
abbrev dListK:AU->Mo W:=λq n Q=>on1 q λx=>onK x λkvs=>∃ns:AG,kvs.map (·.1)=ns.map Sum.inl/\Q (.d (.lst (ns.map .int))) n
abbrev dIndex (fo f:AD):AD:=λρ n Q=>fo ρ n λx q=>onL x λl=>f ρ q λy B=>onI y λk=>∃ns:AG,l=ns.map .int/\k∈ns/\Q (.d (.int (ns.idxOf k:Nat))) B
abbrev zt8 (f:AD):AD:=λρ n Q=>f ρ n λx q=>onL x λl=>∃ns:AG,l=ns.map .int/\ns.Nodup/\ns.length<=1000/\Q (.d (.int (ns.length:Nat))) q
end
end L3
namespace L2
def us_1 {α:Type}{q:List α}(h:q.length=1):∃a,q=[a]:=match q,h with | [a],_=>⟨a,rfl⟩
def us_2 {α:Type}{q:List α}(h:q.length=2):∃a b,q=[a,b]:=match q,h with | [a,b],_=>⟨a,b,rfl⟩
def us_3 {α:Type}{q:List α}(h:q.length=3):∃a b c,q=[a,b,c]:=match q,h with | [a,b,c],_=>⟨a,b,c,rfl⟩
def us_4 {α:Type}{q:List α}(h:q.length=4):∃a b c d,q=[a,b,c,d]:=match q,h with | [a,b,c,d],_=>⟨a,b,c,d,rfl⟩
open PyProof.Rows PySem.W PySem.Calls
end L2
namespace L3
open L2
section
variable {X:Cx}{Pn:PN}{M S:AR}{fr fr':Bool}{e a b c:Expr}{es:AO}{f fa fb fc:AD}{pos p:Pos}
variable {K:AH}
abbrev dInB:W->W->Mo W:=λx y n Q=>onB x λb=>onL y λl=>∃q:List Bool,l=q.map .bl/\Q (.d (.bl (q.contains b))) n
end
end L3
namespace L2
open PyProof.Rows PySem.W PySem.Calls
section
variable {prog:Aa}{w:Ab}{A:Ae}{E:AA}{s:AZ}
variable {X:Cx}
end
end L2
namespace L3
open L2
section
variable {X:Cx}{Pn:PN}{M S:AR}{fr fr':Bool}{pos p:Pos}{e:Expr}{f:AD}
def zpU{ks:AF}(h:Bor A H (.ss P w ks) v):∃a,v = .ref a/\zes P w H a ks:=by obtain⟨a,xs,e,B,g2,F,I⟩:=h;exact⟨a,e,xs,B,λq J=>zn _ _ (F q J),g2,I⟩
abbrev dSAdd (P:Aa) (w:Ab) (i:Nat) (f:AD):Ms:=λρ n k=>onV ρ i λv=>∃ks,v = .ss P w ks/\f ρ n λx m=>∃st:AG,x = .d (stD st)/\ks.length<300/\
 ∀q:AF,(∀y,y∈q↔y=st\/y∈ks)->q.length<=ks.length+1->q.Nodup->onP ρ i (.ss P w q) λB=>k.nx B m
abbrev dSortS (P:Aa) (w:Ab):AU->Mo W:=λB n Q=>on1 B λx=>∃ (ks:AF) (m:Nat),x = .ss P w ks/\ks.length<64/\1<=m/\(∀st∈ks,st.length=m)/\∀q:AF,q.Perm ks->(q.Pairwise λa b=>HT.lexLt a b=true)->Q (.d (xf q)) n
end
def zhe {α:Type}{p:List α->Prop}(q:p [])(hs:∀l x,p l->p (l++[x]))(l:List α):p l:=by
 have h:∀l:List α,p l.reverse:=λl=>by
  induction l with
  | nil=>exact q
  | cons x l B=>rw[cJ];exact hs _ _ B
 have:=h l.reverse;grind
def zgK {α:Type}(a b:List α)(i:Nat)(d:α)(h:i<a.length):(a++b).getD i d=a.getD i d:=by grind
def zlC:∀ {cs:AF} {st:AG},st∈yj cs↔st.length=cs.length/\∀i,i<cs.length->st.getD i 0∈cs.getD i []:=by
 intro cs;show zhe (p:=λcs=>∀ {st:AG},st∈yj cs↔st.length=cs.length/\∀i,i<cs.length->st.getD i 0∈cs.getD i []) ?_ ?_ cs;intro st;simp[yj,List.length_eq_zero_iff];intro cs c I st;rw[yY];unfold xC;rw[fH];constructor;rintro⟨r,J,h⟩;obtain⟨w,L,rfl⟩:=aC.mp h;obtain⟨h1,h2⟩:=I.mp J;show⟨by simp[h1],λi hi=>?_⟩;simp at hi;by_cases e:i=cs.length;right;grind;rintro⟨h1,h2⟩;simp at h1;have q:st≠[]:=λz=>by rw[z] at h1;simp at h1
 have F:=bm q;have B:st.dropLast.length=cs.length:=by simp[h1]
 show⟨st.dropLast,I.mpr ⟨B,λi hi=>?_⟩,aC.mpr ⟨st.getLast q,?_,F⟩⟩;have:=h2 i (by simp;omega);rw[zgK _ _ _ _ hi] at this;rw[<- F,zgK _ _ _ _ (by omega)] at this;exact this;have:=h2 cs.length (by simp);rw[<- F] at this;have e:(st.dropLast++[st.getLast q]).getD cs.length 0=st.getLast q:=by simp[<- B]
 right
def znz:∀ (cs:AF),(∀c∈cs,c.Pairwise (· < ·))->Up' (yj cs):=by
 intro cs;show zhe (p:=λcs=>(∀c∈cs,c.Pairwise (· < ·))->Up' (yj cs)) ?_ ?_ cs;intro _;simp[yj,Up'];intro cs c F h;have I:=h c (by simp);have F:=F λd J=>h d (by simp[J]);rw[yY];have q:=zdl cs;generalize yj cs=rows at F q;unfold xC Up';rw[List.pairwise_flatMap];constructor;intro r hr;rw[bP];show I.imp λ{a b} B=>?_;exact lex_app r B;show (List.Pairwise.and_mem.mp F).imp λ{a b} ⟨L,O,B⟩=>?_;intro x U y Y;obtain⟨v,_,rfl⟩:=aC.mp U;obtain⟨w,_,rfl⟩:=aC.mp Y;exact lex_pre ((q a L).trans (q b O).symm) B
where
 lex_app:∀ (r:AG) {a b:Int},a<b->HT.lexLt (r++[a]) (r++[b])=true
  | [],a,b,h=>by
   change (if a=b then HT.lexLt [] [] else decide (a<b))=true;grind
  | x::r,a,b,h=>by change (if x=x then HT.lexLt (r++[a]) (r++[b]) else decide (x<x))=true;rw[if_pos rfl];exact lex_app r h
 lex_pre:∀ {r t:AG} {a b:Int},r.length=t.length->HT.lexLt r t=true->HT.lexLt (r++[a]) (t++[b])=true
  | [],[],_,_,_,h=>by rw[yV] at h;cases h
  | [],_::_,_,_,h,_=>by simp at h
  | _::_,[],_,_,h,_=>by simp at h
  | x::r,y::t,a,b,Z,h=>by
   have h:(if x=y then HT.lexLt r t else decide (x<y))=true:=h;change (if x=y then HT.lexLt (r++[a]) (t++[b]) else decide (x<y))=true;by_cases e:x=y;rw[if_pos e] at h ⊢;exact lex_pre (by simpa using Z) h;right
def zm4 {P:Bool->Prop}{a:Dt}(h:a.eqOk)(q:P true):a.eqOk/\a.eqOk/\∀r:Bool,(r=true↔a=a)->P r:=by right
def IsP (Pn:PN)(p:Addr):Prop:=∃c ns,Pn=⟨some (p,c,ns),J0⟩
def dc{yh:Int}(q:IsP Pn p)(h:∀r,0<=r->r<yh->Q (.d (.int r)) (n+1))(B:n<=1000000:=by lia)(h1:1<=yh:=by lia)(h2:yh<1073741824:=by lia):zhW Pn [.pen p,.d (.int yh)] n Q:=let ⟨c,ns,e⟩:=q;⟨p,c,ns,yh,e,rfl,B,h1,h2,h⟩
def tc(q:IsP Pn p)(h:∀l':AS,l'.Perm l->Q (.d (.lst l')) (n+l.length))(B:n+l.length<=1000000:=by lia)(h1:l.length<=100000:=by lia):zh0 Pn [.pen p,.d (.lst l)] n Q:=let ⟨c,ns,e⟩:=q;⟨p,c,ns,l,e,rfl,B,h1,h⟩
def zj8 {B:AG}{a L q:Int}(F:∀r∈B,2<=r/\r<=4)(U:2<=a/\a<=4)(I:yg B * L<=q)(h:a<=L):yg (B++[a]) * (L / a)<=q/\1<=L / a/\L / a<=L:=by
 have h1:1<=L / a:=(Int.le_ediv_iff_mul_le (by lia)).mpr (by lia);have h2:a * (L / a)<=L:=Int.mul_ediv_self_le (by lia);have J:0<=yg B:=by have:=u9 (ns:=B) (λr O=>by have:=F r O;lia);lia
 show⟨?_,h1,?_⟩;rw[ul,Int.mul_assoc];exact eS (cS h2 J) I;exact Int.ediv_le_self _ (by lia)
def znT {α:Type}(f:α->Dt)(d:α)(l:List α):enW 0 (l.map f)=(List.range l.length).map λi:Nat=>W.d (.tup [.int (i:Int),f (l.getD i d)]):=by
 apply c9;intro i;rw[zdE,aj,aj];by_cases h:i<l.length
 all_goals right
def ziz (sts:AF):enW 0 (sts.map stD)=(List.range sts.length).map λk:Nat=>W.d (.tup [.int (k:Int),stD (sts.getD k [])]):=znT stD [] sts
def zam:(zfB k).length=k:=by unfold zfB;rw[ab,az]
def zpJ:zfB k=(zk (k:Int)).map Dt.int:=by unfold zfB zk;rw[ay,aR];rfl
def zd3{α:Type}{f:α->Dt}{xs:List α}(h:l.Perm (xs.map f)):∃ys:List α,l=ys.map f/\ys.Perm xs:=by
 generalize B:xs.map f=zs at h
 induction h generalizing xs with
 | nil=>exact⟨[],rfl,by right⟩
 | @cons x U Y _ J=>
  match xs,B with
  | y::r,B=>
   rw[aB] at B;obtain⟨h1,h2⟩:=List.cons.inj B;obtain⟨ys,e,q⟩:=J h2;exact⟨y::ys,by right,q.cons y⟩
 | swap x y l=>
  match xs,B with
  | a::b::r,B=>
   rw[aB,aB] at B;obtain⟨h1,h2⟩:=List.cons.inj B;obtain⟨Z,h4⟩:=List.cons.inj h2;exact⟨b::a::r,by right,.swap ..⟩
 | trans _ _ F I=>
  obtain⟨ys,e,q⟩:=I B;obtain⟨zs,L,O⟩:=F e.symm;exact⟨zs,L,O.trans q⟩
def zg8{l:AS}(h:l.Perm (zfB k)):∃q:AG,l=q.map Dt.int/\q.Perm (zk (k:Int)):=by rw[zpJ] at h;exact zd3 h
def zak {m b:Int}:b∈zk m↔0<=b/\b<m:=by
 unfold zk;rw[aC];constructor;rintro⟨k,q,rfl⟩;grind;rintro⟨B,h1⟩;exact⟨b.toNat,aW.mpr (by lia),by lia⟩
def zfl (m:Int):(zk m).Nodup:=by unfold zk List.Nodup;rw[bP];exact List.pairwise_lt_range.imp λh=>by lia
def zjw {α q:Type}{G:Prop}(C:α->q->Prop)(P:α->q->Prop)(h:(∀a b,C a b->P a b)->G)(r:∀a b,C a b->P a b):G:=h r
def zp0 {q:AG}(h:q.Nodup){i:Nat}(hi:i<q.length):q.getD i 0∉q.take i:=λz=>by
 obtain⟨j,B,e⟩:=bB.mp z;rw[aN] at B;rw[e8] at e;have:q.getD i 0=q[i]:=by simp[hi]
 rw[this] at e;have:=(cb h).mp e;lia
def zb1{q:AG}(hi:i<q.length):q.getD i 0∈q:=by right
def ziq {α:Type}(l:List α)(lo hi:AQ):(ub l lo hi).Sublist l:=(dJ _ _).trans (List.drop_sublist _ _)
def zbX {α:Type}(l:List α):ub l (some 1) none=l.drop 1:=by
 unfold ub
 have h1:HT.sIx l.length 0 (some 1)=min 1 l.length:=by unfold HT.sIx;simp;try lia
 have h2:HT.sIx l.length l.length none=l.length:=rfl;rw[h1,h2,bX (by simp)]
 cases l with
 | nil=>rfl
 | cons a l=>simp
def zkC:∀ (l k:AS) (i:Nat),(ziW l k)[i]?=(l[i]?).bind λx=>(k[i]?).map λy=>W.d (.tup [x,y])
 | [],k,i=>by simp[ziW]
 | x::r,[],i=>by
  simp only[ziW,List.getElem?_nil,Option.map_none];right
 | x::r,y::s,0=>rfl
 | x::r,y::s,i+1=>by rw[ziW,bt,bt,bt];exact zkC r s i
def zmx (q:AF):ziW (q.map stD) (ub (q.map stD) (some 1) none)=(List.range (q.length - 1)).map λi:Nat=>W.d (.tup [stD (q.getD i []),stD (q.getD (i+1) [])]):=by
 rw[zbX];apply c9;intro i;rw[zkC,List.getElem?_drop,aj,aj,aj];grind
def zaS {κ:Type}[DecidableEq κ](kvs:List (κ×Dt))(k z:κ)(d:Dt):yy (zeu kvs k d) z=if z=k then some d else yy kvs z:=by
 unfold zeu;by_cases F:(kvs.any λkv=>decide (kv.1=k))=true;rw[if_pos F];unfold yy
 induction kvs with
 | nil=>simp at F
 | cons q r J=>
  rw[aB,bI,bI];by_cases e:q.1=k;rw[if_pos e];by_cases B:z=k;right;have h1:¬ q.1=z:=λw=>B (w.symm.trans e);rw[if_neg B];simp only[h1,decide_false];by_cases L:(r.any λkv=>decide (kv.1=k))=true;right;congr 2;show (cR λp I=>?_).trans (List.map_id _);grind;grind
 rw[if_neg F];unfold yy;rw[List.find?_append];by_cases B:z=k;subst B;have:kvs.find? (λq=>decide (q.1=z))=none:=eR.mpr λp I w=>F (fG.mpr ⟨p,I,w⟩);rw[this];simp;have:¬ k=z:=λw=>B w.symm;right
def zcA {rm st:AG}(h:StOk rm st):st∈yj (rm.map zk):=by
 rw[zlC];have q:=h.len;show⟨by grind,λi hi=>?_⟩;rw[ab] at hi;have e:(rm.map zk).getD i []=zk (rm.getD i 0):=by simp[hi]
 rw[e,zak];have:=h.box (i:Int) (by lia) (by lia);rw[zK,zK] at this;exact this
def zce {l:AF}{st:AG}:(Dt.tup (st.map Dt.int)∈l.map stD)↔st∈l:=by
 constructor;intro z;obtain⟨s,hs,e⟩:=aC.mp z;have:s=st:=eU (by grind) |>.mp (Dt.tup.inj e);grind;exact λz=>aC.mpr ⟨_,z,rfl⟩
def zeg {rm st:AG}{b x:Int}(h:StOk rm st)(q:0<=b)(J:b<rm.length)(L:0<=x)(x1:x<yh rm b):StOk rm (chg st b x):=by
 have F:=h.len;show⟨by rw[zdt q (by lia)];exact F,λc B I=>?_⟩;rw[ur q (by lia) B];split;right;exact h.box c B I
def zqp{rm:AG}(h:y8 rm bk):(Dt.lst (bk.map z8)).eqOk:=(zfN (rm:=rm) λd q=>by obtain⟨x,B,rfl⟩:=aC.mp q;exact⟨x,rfl,h x B⟩).2
def zp2{rm:AG}(h:WishOk rm x):WishOk rm (zsV x):=⟨h.giv,h.b0,h.b1,h.apart,h.w0,h.w1,h.r0,h.r1,Ne.symm h.ne⟩
def znM{rm:AG}(h:WishOk rm x){lo hi:AQ}:WishOk rm { x with g:=ub x.g lo hi }:=by have s:=ziq x.g lo hi;exact⟨⟨λq B=>h.giv.ok q (s.subset B),h.giv.up.sublist s⟩,h.b0,h.b1,λq B=>h.apart q (s.subset B),h.r0,h.r1,h.w0,h.w1,h.ne⟩
end L3
namespace L3
def zeN {α q:Type}(f:α->q):∀ (l:List α) (i:Nat),(l.eraseIdx i).map f=(l.map f).eraseIdx i
 | [],_=>rfl
 | _::_,0=>rfl
 | x::l,i+1=>by simp[zeN f l i]
open L2
def lpE (bk:AW)(q:Int)(st:AG):List (Int×Int):=(lpF bk q st).map λr=>(r.getD 0 0,r.getD 1 0)
def zio {α:Type}(l:List α)(k:Nat):ub l (some (k:Int)) none=l.drop k:=by
 unfold ub
 have h1:HT.sIx l.length 0 (some (k:Int))=min k l.length:=by unfold HT.sIx;simp;try lia
 have h2:HT.sIx l.length l.length none=l.length:=rfl;rw[h1,h2,bX (by simp)];right
end L3
namespace L3
open L2
end L3
namespace L2
open PyProof.Rows PySem.W PySem.Calls
section
variable {X:Cx}{pins:AB}{σ:St}{H:Hp}{s:AZ}{a:Addr}
def Inv.frz {kvs:List (AG×V)}(I:Inv X pins σ H s)(h:H a=some (dtO kvs)):∃ob,Inv X pins σ (upd H a (.frz ob (dtO kvs))) s:=by obtain⟨z,lo,xs,r,o,es,F,h1,h2,J,L,O⟩:=(show yi X.prog X.w H s.heap a (.dT (zgT kvs)) from I.hok a _ h);show⟨o,I.write (x:=a) (e:=a) (h':=s.heap) (t':=s.toks) (by rw[h];trivial) (.inl rfl) (λ_ _ _ e=>e) ⟨o,h1⟩ ⟨h1,z,lo,xs,Paired.imp' (λp q y=>?_) r,o,es,F,h1,h2,J,L,O⟩⟩;obtain⟨U,B,Y⟩:=y;exact⟨U,by rw[zd (λy=>by rw[y,h] at B;cases B)];exact B,Y⟩
def tFrz (te:TE):TE:=λσ H Q=>te σ H λx H1=>∃a ks,x = .ref a/\H1 a=some (dtO ks)/\∀ob,Q x (upd H1 a (.frz ob (dtO ks)))
def zsd(h:QE X e te):QE X e (tFrz te):=⟨by
 intro pins s σ H Q I q;show thn (h.run pins s σ H _ I q) ?_;rintro v L ⟨x,H1,I1,B,a,ks,rfl,F,J⟩;obtain⟨ob,I2⟩:=I1.frz F;exact⟨_,_,I2,B,J ob⟩⟩
def zk5{kvs:List (AG×V)}(I:Inv X pins σ H s)(h:H a=some (.frz ob (dtO kvs))) :
  (a==sysModules)=false/\∃ (es:Array DictEntry) (B:Nat) (ys:AE),ob.ExactDict/\ob.data = .dict es B/\zbQ s.heap a es B/\ys.map (·.1)=kvs.map (·.1)/\(∀q∈ys,H q.2=some (.tup (q.1.map V.int)))/\es.toList.map (·.key)=ys.map (λq=>Value.ref q.2)/\(kvs.map (·.1)).Nodup:=by
 have k:=I.hok a _ h;obtain⟨lo,es,B,ys,⟨o,F,J,L⟩,O,U,Y,_,Z⟩:=zkZ I (.inr ⟨ob,h⟩);have:o=ob:=by have:=k.1;rw[F] at this;exact bv this
 subst this;exact⟨lo,es,B,ys,J,L,⟨o,F,J,L⟩,O,U,Y,Z⟩
end
def Itd (d:Addr)(ob:Obj)(ks:List (AG×V))(ys:AE):It:=
 ⟨λi H=>H d=some (.frz ob (dtO ks))/\i<ys.length,λi H x H'=>H'=H/\∃q,ys[i]?=some q/\x = .ref q.2,λi H=>H d=some (.frz ob (dtO ks))/\i=ys.length⟩
def zko {P:Aa}{w:Ab}{K:AH}{tg:Expr}{ob:Obj}{ks:List (AG×V)}{ys:AE}{es:Array DictEntry}{L:Nat}(d B:Addr)(hx:ob.ExactDict)(hd:ob.data = .dict es L)(U:es.toList.map (·.key)=ys.map (λq=>Value.ref q.2)) :
  Turn P w K tg (Itd d ob ks ys) [B] B (λi h=>h.IsKeyIter B d i es.size L) where
 mem:=by simp
 obj:=λi h st b F=>by
  have e:b=B:=by simpa using F
  subst e;obtain⟨o,e,c,d⟩:=st;right
 keep:=λi h h' ⟨o,e,r⟩ k=>⟨o,k B (by simp) o e,r⟩
 item:=by
  rintro X Y Z hK hc i pins s σ H E I O st ⟨hg,hi⟩;subst Y Z hK;obtain⟨f0,f1,f2,f3,f4,f5⟩:=O B (by simp);have hm:zbQ s.heap d es L:=⟨ob,(I.hok d _ hg).1,hx,hd⟩;have hl:es.toList.length=ys.length:=by have:=congrArg List.length U;rwa[ab,ab] at this
  have e1:es[i]?=some es.toList[i]:=by rw[zbA,ah]
  have e2:es.toList[i].key=Value.ref ys[i].2:=by
   have:(es.toList.map (·.key))[i]?=(ys.map (λq=>Value.ref q.2))[i]?:=by rw[U]
   rw[aj,aj,ah (by lia),ah hi] at this;right
  show zhG st hm e1 λh' J sb=>?_;have I1:Inv X pins σ H { s with heap:=h' }:=I.turned (t':=s.toks) (λb o F e=>(sb.2 b F).trans e) f0 f1 f3 f4 f5;obtain⟨o,e,c,d⟩:=id J;exact⟨_,rfl,zk8 (s:={ s with heap:=h' }) e c d (by ext) ⟨.ref ys[i].2,H,I1,e2,⟨rfl,_,ah hi,rfl⟩,J,λb F=>(O b F).1⟩⟩
 done:=by
  rintro X Y Z hK hc i pins s σ H E I O st ⟨hg,hi⟩;subst Y Z hK;obtain⟨f0,f1,f2,f3,f4,f5⟩:=O B (by simp);have hm:zbQ s.heap d es L:=⟨ob,(I.hok d _ hg).1,hx,hd⟩;have hl:es.size=ys.length:=by have:=congrArg List.length U;rwa[ab,ab,aZ] at this
  subst hi;rw[<- hl] at st;exact zjD (I.ok.hd hc) st hm λh' eb=>⟨rfl,I.turned (t':=s.toks) (λb o F e=>eb b o F e) f0 f1 f3 f4 f5⟩
 self:=λ_ _ _ _ _ st h=>wpAny_pyIter_keyiter st h
def zuo (te:TE):TI:=λσ H R=>te σ H λx H1=>∃a ob ks,x = .ref a/\H1 a=some (.frz ob (dtO ks))/\∀ys:AE,ys.map (·.1)=ks.map (·.1)->(∀q∈ys,H1 q.2=some (.tup (q.1.map V.int)))->(ks.map (·.1)).Nodup->R (Itd a ob ks ys) H1
def zpq(h:QE X e te):QI X tg e (zuo te):=⟨by
 intro pins s σ H R I q;show thn (h.run pins s σ H _ I q) ?_;rintro v B ⟨x,H1,I1,F,a,ob,ks,rfl,J,L⟩;cases F;obtain⟨lo,es,ep,ys,O,U,Y,Z,e2,e3,e5⟩:=zk5 I1 J;show zi2 lo Y ?_;show⟨B.heap.objs.size,[B.heap.objs.size],_,_,H1,rfl,I1.kept (t':=B.toks) λb o e=>af _ e,zko a _ O U e3,⟨_,aq _ rfl,rfl,rfl⟩,λb hb=>?_,L ys Z e2 e5⟩;have e:b=B.heap.objs.size:=by simpa using hb
 subst e;exact I1.fpOk (ai _) (I1.hok.fresh (ai _))⟩
end L2
namespace L3
open L2
def zlS{ks:List (AG×V)}(h:ua Pn A n H)(q:H p=some (dtO ks)):ua Pn A n (L2.upd H p o):=by
 show⟨?_,Pn.J.frz h.2 q (zhJ _) rfl⟩;have h:=h.1;split at h;trivial;show⟨?_,h.2⟩;obtain⟨h1,_⟩:=h;obtain⟨a,l,B,g2⟩:=h1.ob;exact⟨⟨a,l,by rw[zd λz=>by rw[z,q] at B;cases B];exact B,g2⟩,by rw[zd λz=>by have:=h1.ls;rw[z,q] at this;cases this];exact h1.ls,h1.len⟩
def zgN:∀st:AG,IsL G (st.map Dt.int) (st.map V.int)
 | []=>rfl
 | _::st=>⟨_,_,rfl,rfl,zgN st⟩
abbrev onZ (w:W) (P:List (AG×Dt)->Prop):Prop:=match w with | .df i=>P i | _=>False
def zm5{P:List (AG×Dt)->Prop}:onZ w P = ∃i,w = .df i/\P i:=propext ⟨λh=>by cases w <;> first | exact False.elim h | exact⟨_,rfl,h⟩,by right⟩
section
variable {X:Cx}{Pn:PN}{M S:AR}{fr fr':Bool}{pos p:Pos}{e a b c:Expr}{f fa fb fc:AD}
abbrev dFrz (f:AD):AD:=λρ n Q=>f ρ n λx m=>onE x λkvs=>Q (.df kvs) m
def zuw (h:JE X Pn M true e f):JE X Pn M false e (dFrz f):=by
 obtain⟨te,q,r⟩:=h.ex;show⟨_,zsd q,⟨λA σ H ρ n Q R E P U k=>?_⟩⟩;show r.run A σ H ρ n _ _ E P U λw m v H' F hv g Y=>?_;rw[zg5] at F;obtain⟨kvs,rfl,F⟩:=F;obtain⟨L,Z,B,ag,ks,e2,h1,h2⟩:=Y rfl;subst Z;cases e2;have nA:=E.newF B;show⟨L,ks,rfl,h1,λob=>k _ m _ _ F ⟨L,ob,ks,rfl,zy nA zj,h2.stay λb o I J=>?_⟩ ⟨λb o I J=>?_,?_⟩ λz=>by cases z⟩;obtain⟨O,z2⟩:=zP.mp I;exact zy (λy=>O (.inl y)) (by rw[zd λy=>O (.inr y)];exact z2);rw[zd λy=>by subst y;exact B o I J];exact g.st b o I J;exact zlS g.pn h1
def zq3{ks:List (AG×V)}{ys:AE}(h:z5 A H B=some (.frz ob (dtO ks)))(F:l=ys.map λq=>W.d (stD q.1))(I:∀q∈ys,z5 A H q.2=some (.tup (q.1.map V.int))):ItV false A H (Itd B ob ks ys) l where
 one:=λi w A2 H2 e s _ _=>by subst F;rw[aj] at e;obtain⟨q,h1,rfl⟩:=aA.mp e;show⟨⟨zn _ _ (s _ _ h λk z=>by cases z),(ac.mp h1).1⟩,?_⟩;rintro y H3 ⟨rfl,J,h2,rfl⟩;rw[h1] at h2;cases h2;exact⟨λ_ _ z=>z,Val.of ⟨q.2,_,rfl,s.tup (I q (ak h1)),zgN q.1⟩⟩
 stop:=λA2 H2 s _=>by subst F;exact⟨zn _ _ (s _ _ h λk z=>by cases z),by simp⟩
abbrev dItF (fa:AD):AC:=λρ n Q=>fa ρ n λx m=>onZ x λkvs=>(kvs.map (·.1)).Nodup->Q (kvs.map λq=>W.d (stD q.1)) m
def zhC(h:JE X Pn M fr e f):JI X Pn M false tg e (dItF f):=by
 obtain⟨te,q,r⟩:=h.ex;show⟨_,zpq q,⟨λA σ H ρ n Q R E P U k=>?_⟩⟩;show r.run A σ H ρ n _ _ E P U λw m v H1 F Y g _=>?_;rw[zm5] at F;obtain⟨kvs,rfl,F⟩:=F;obtain⟨Z,ob,ks,rfl,B,hl⟩:=Y;have J:ks.map (·.1)=kvs.map (·.1):=hl.keys;have I:=(E.stay g.st).alT;show⟨Z,ob,ks,rfl,zn _ _ B,λys e1 L e3=>k _ m _ H1 (F (by rw[<- J];exact e3)) (zq3 B ?_ λq O=>zy (λy=>I _ _ y (L q O)) (L q O)) g⟩;have:(ys.map (·.1)).map (λst=>W.d (stD st))=(kvs.map (·.1)).map λst=>W.d (stD st):=by rw[e1,J]
 rw[ay,ay] at this;exact this.symm
abbrev zt2 (fd fk:AD):AD:=λρ n Q=>fd ρ n λx q=>fk ρ q λy B=>onZ x λkvs=>∃st,y = .d (stD st)/\onO (yy kvs st) λd=>Q (.d d) B
def zqt{kvs:List (AG×Dt)}(h:Bor A H (.df kvs) v):∃q ks,v = .ref q/\Rd H q (dtO ks)/\uH (z5 A H) kvs ks:=by obtain⟨q,ob,ks,e,h1,h2⟩:=h;exact⟨q,ks,e,.inr ⟨ob,h1⟩,h2⟩
def zcE.z {H:Hp}{a b:Addr}{kvs:List (AG×V)}{st:AG}(e:Rd H a (dtO kvs))(q:H b=some (.tup (st.map V.int))):zcE H a (.ref b) (za6 kvs st):=
 .inr ⟨_,st.map Sum.inl,b,e,rfl,by rw[zb3];exact q,(zgU kvs st).symm⟩
def zf1 (J:X.A.units+1<cLine)(L:JB X Pn M a fa)(O:JB X Pn M b fb)(hs:zqj b):JE X Pn M false (.Subscript a b pos) (zt2 fa fb):=by obtain⟨ta,U,Y⟩:=L.ex;obtain⟨tb,Z,rb⟩:=O.ex;show⟨_,x6 J U Z hs,⟨λA σ H ρ n Q R E P hf k=>?_⟩⟩;show Y.run A σ H ρ n _ _ E P hf λw1 m1 v1 H1 r1 b1 B=>?_;show rb.run A σ H1 ρ m1 _ _ (E.stay B.st) B.pn r1 λw2 m2 v2 H2 q b2 g2=>?_;rw[zm5] at q;obtain⟨kvs,rfl,st,rfl,q⟩:=q;rw[zbr] at q;obtain⟨d,e3,r⟩:=q;obtain⟨ad,ks,rfl,F,hk⟩:=zqt (b1.stay g2.st);obtain⟨bd,xs,rfl,I,hx⟩:=xb b2;obtain rfl:=hx.of_ints;obtain⟨v,h1,h2⟩:=(hk.look (k:=st)).2 d e3;show⟨ad,v,rfl,?_,k _ m2 _ H2 r (Val.of h2) (B.trans g2) λz=>by cases z⟩;rw[<- h1];exact zcE.z F I
abbrev dGetFD (fd fk q:AD):AD:=λρ n Q=>fd ρ n λx B=>onZ x λkvs=>fk ρ B λy F=>q ρ F λz I=>∃st,y = .d (stD st)/\onD z λi=>Q (.d ((yy kvs st).getD i)) I
abbrev zmJ:AU->Mo W:=λB n Q=>on1 B λx=>∃kvs:List (AG×Dt),x = .d (.lst (kvs.map λq=>Dt.tup [stD q.1,q.2]))/\(kvs.map (·.1)).Nodup/\kvs.length<=lim/\Q (.dt kvs) n
def ziY:∀ {kvs:List (AG×Dt)} {xs:AT},IsL G (kvs.map λq=>Dt.tup [stD q.1,q.2]) xs->∃ps:List Pr,xs=ps.map (λq=>V.ref q.1)/\(∀q∈ps,G q.1=some (.tup [.ref q.2.1,q.2.2.2])/\G q.2.1=some (.tup (q.2.2.1.map V.int)))/\ps.map (·.2.2.1)=kvs.map (·.1)/\uH G kvs (prK ps)
 | [],_,h=>by cases h;exact⟨[],rfl,λ_ z=>by simp at z,rfl,rfl⟩
 | q::r,xs,⟨x,s,e,⟨p,us,J,L,kv,s2,O,⟨kb,zs,U,B,Y⟩,I,s3,Z,hv,e6⟩,h2⟩=>by
  obtain⟨ps,h1,h3,h4,h5⟩:=ziY h2;subst e J O U Z e6 h1;obtain rfl:=Y.of_ints;show⟨(p,kb,q.1,I)::ps,rfl,λy F=>?_,by right,I,_,rfl,hv,h5⟩;rcases aE.mp F with rfl | F;exact⟨L,B⟩;exact h3 y F
def zks:FL Pn true znd zmJ:=⟨λA H xs ws n Q R U b Pp h k=>by
 simp only[zmJ,zat] at h;obtain⟨x,e,kvs,rfl,B,Y,h⟩:=h;subst e;obtain⟨v,rfl,Z⟩:=za9 b;obtain⟨ad,xs,rfl,F,hl⟩:=Z;obtain⟨ps,rfl,h1,h2,L⟩:=ziY hl;have I:ps.length=kvs.length:=by have:=congrArg List.length h2;simpa using this
 show⟨ad,ps,rfl,⟨F,λq O=>⟨zn _ _ (h1 q O).1,zn _ _ (h1 q O).2⟩,by rw[h2];exact B,by rw[I];exact Y⟩,λp H' J g S=>?_⟩;exact k _ n _ H' h ⟨p,_,rfl,zy (U.new J) g,L.stay (zM (zu.same S))⟩ (Go.same Pp S) λ_=>⟨p,rfl,.of J,p,_,rfl,g,L.stay (yG (zu.same S) (.of J))⟩⟩
end
def zdD(xs:AF)(hl:l=xs.map λi=>W.d (stD i))(J:Ev->Prop)(P:AG->Bool)(E:AG->Dt)(hN:xs.Nodup)(ag:xs.length<=lim)(j0:J L)(h:∀a∈xs,∀ F,J F->∀C:Ev->Nat->Option (AG×Dt)->Prop,(∀ {B},P a=true->J B->C B n (some (a,E a)))->(∀ {B},P a=false->J B->C B n none)->mg (.d (stD a)) F λB=>ft B n λb n2=>onC b (fk B n2 λy n3=>fv B n3 λx U=>∃j,y = .d (stD j)/\onD x λd=>C B U (some (j,d))) (C B n2 none))(fin:Q (.dt ((xs.filter P).map λa=>(a,E a))) n):zmL mg ft fk fv L Q l n:=by
 subst hl;show⟨by right,λi F Y acc=>J F/\Y=n/\acc=((xs.take i).filter P).map λa=>(a,E a),⟨j0,rfl,rfl⟩,?_,?_⟩;rintro i w F Y acc hw ⟨Z,rfl,rfl⟩;rw[aj] at hw;obtain⟨a,O,rfl⟩:=aA.mp hw
 have:=h a (ak O) F Z (λB U o=>match o with
  | some q=>J B/\U=Y/\zeu (((xs.take i).filter P).map λa=>(a,E a)) q.1 q.2=((xs.take (i+1)).filter P).map λa=>(a,E a)
  | none=>J B/\U=Y/\(((xs.take i).filter P).map λa=>(a,E a))=((xs.take (i+1)).filter P).map λa=>(a,E a)) (λ{B} hp I=>by
   show⟨I,rfl,?_⟩;have hi:=(ac.mp O).1;have hn:((((xs.take i).filter P).map λa=>(a,E a)).any λkv=>decide (kv.1=a))=false:=by rw[List.any_eq_false];intro kv ad z;obtain⟨b,hb,rfl⟩:=aC.mp ad;have e:b=a:=bz z;subst e;obtain⟨j,Z,e2⟩:=bB.mp (bu.mp hb).1;rw[aN] at Z;rw[e8] at e2;have e3:=(ac.mp O).2;rw[<- e3] at e2;have:=(cb hN).mp e2;lia
   unfold zeu;rw[hn,if_neg (by ext),zh O,cV,aF]
   simp[hp]) (λ{B} hp I=>by
   show⟨I,rfl,?_⟩;rw[zh O,cV,aF];simp[hp])
 simp only[u7,xI] at this;grind;grind
def zdw {st:AG}{b x:Int}(q:0<=b)(B:b<st.length):chg st b x=st.set b.toNat x:=by unfold chg;rw[List.set_eq_take_append_cons_drop,if_pos (by lia)];simp
def zgA {st:AG}{b o x y:Int}(q:0<=b)(B:b<st.length)(o0:0<=o)(F:o<st.length)(h:b≠o):chg (chg st b x) o y=chg (chg st o y) b x:=by
 have I:chg (chg st b x) o y=(st.set b.toNat x).set o.toNat y:=by rw[zdw o0 (by rw[zdt q B];exact F),zdw q B]
 have J:chg (chg st o y) b x=(st.set o.toNat y).set b.toNat x:=by rw[zdw q (by rw[zdt o0 F];exact B),zdw o0 F]
 rw[I,J];exact List.set_comm _ _ (by lia)
abbrev lpD (bk:AW) (b:Int) (st:AG):Dt:=.lst ((lpE bk b st).map x4)
abbrev rowD (rm:AG) (bk:AW) (st:AG):Dt:=.lst ((List.range rm.length).map λb:Nat=>lpD bk (b:Int) st)
def zs8 {l:AF}(h:Up' l):l.Nodup:=h.imp λh e=>by subst e;rw[yV] at h;cases h
def zmC (rm:AG):(yj (rm.map zk)).Nodup:=zs8 (znz _ λc q=>by obtain⟨m,_,rfl⟩:=aC.mp q;unfold zk;rw[bP];exact List.pairwise_lt_range.imp λh=>by lia)
def znB {rm:AG}(q:RoomOk rm):(yj (rm.map zk)).length<=65536:=by
 have:=zdm q.few q.box rm.length;right
def zfR {rm:AG}{g:List (Int×Int)}(h:Giv rm g):g.length<=rm.length:=by
 have:=ya (l:=g.map (·.1)) (l':=zk rm.length) (bP.mpr (h.up.imp λh e=>by lia)) λx B=>by obtain⟨q,F,rfl⟩:=aC.mp B;have:=h.ok q F;exact zak.mpr ⟨this.1,this.2.1⟩
 rw[ab,yL] at this;lia
section
variable {X:Cx}{Pn:PN}{M S cM:AR}{fr fr':Bool}{e:Expr}{es:AO}{pos:Pos}{A:AL}{acc:Addr}{H1 H H':Hp}{σc σ:St}{ρc ρ:Ev}{n m:Nat}{ds:AS}
def inR (mg:W->Ev->(Ev->Prop)->Prop)(L:Ev->Mo Bool)(O:AD)(B:Ev)(F:AS)(K:Ev->Nat->AS->Prop):AU->Nat->Prop:=λl U=>∃I:Nat->Ev->Nat->AS->Prop,I 0 B U F/\
 (∀i w ρ n ds,l[i]?=some w->I i ρ n ds->mg w ρ λq=>L q n λb J=>if b=true then O q J λx Y=>∃d,x = .d d/\ds.length<=lim/\I (i+1) q Y (ds++[d]) else I (i+1) q J ds)/\
 ∀ ρ n ds,I l.length ρ n ds->K ρ n ds
def zqu (mg:W->Ev->(Ev->Prop)->Prop)(U:Ev->Mo Bool)(B:AC)(F:W->Ev->(Ev->Prop)->Prop)(J:Ev->Mo Bool)(Y:AD)(L:Ev)(Q:AV):AU->Nat->Prop:=λl Z=>∃I:Nat->Ev->Nat->AS->Prop,I 0 L Z []/\
 (∀i w ρ n ds,l[i]?=some w->I i ρ n ds->mg w ρ λq=>U q n λb O=>if b=true then B q O (inR F J Y q ds (I (i+1))) else I (i+1) q O ds)/\
 ∀ ρ n ds,I l.length ρ n ds->Q (.d (.lst ds)) n
abbrev mComp2 (I:AC) (mg:W->Ev->(Ev->Prop)->Prop) (J:Ev->Mo Bool) (q:AC) (B:W->Ev->(Ev->Prop)->Prop) (F:Ev->Mo Bool) (L:AD) (cix:List (Option Nat)):AD:=λρ n Q=>I ρ n (zqu mg J q B F L (zcF ρ cix) Q)
end
end L3
namespace L2
open PyProof.Rows PySem.W PySem.Calls
section
variable {X:Cx}{pins:AB}{σ:St}{H:Hp}{s:AZ}{a:Addr}
end
end L2
namespace L3
open L2
abbrev onY (w:W) (P:List (Key×Dt)->Prop):Prop:=match w with | .kf i=>P i | _=>False
section
variable {X:Cx}{Pn:PN}{M S:AR}{fr fr':Bool}{pos p:Pos}{e a b c:Expr}{f fa fb fc:AD}
abbrev dFrzK (f:AD):AD:=λρ n Q=>f ρ n λx m=>onK x λkvs=>Q (.kf kvs) m
abbrev dItK (fa:AD):AC:=λρ n Q=>fa ρ n λx m=>onY x λkvs=>∃ns:AG,kvs.map (·.1)=ns.map Sum.inl/\Q (ns.map λi=>W.d (.int i)) m
abbrev dGetY (fd fk:AD):AD:=λρ n Q=>fd ρ n λx q=>fk ρ q λy B=>onY x λkvs=>onI y λi=>onO (yy kvs (Sum.inl i)) λd=>Q (.d d) B
abbrev dListY:AU->Mo W:=λq n Q=>on1 q λx=>onY x λkvs=>∃ns:AG,kvs.map (·.1)=ns.map Sum.inl/\Q (.d (.lst (ns.map .int))) n
abbrev dRetT (f:AD) (i:Nat):Ms:=λρ n k=>f ρ n λw m=>onD w λd=>onV ρ i λx=>onL x λl=>k.rt (.d (.tup [d,.lst l])) m
end
end L3
namespace L2
open PyProof.Rows PySem.SeqAt
section
variable {prog:Aa}{w:Ab}{t:SetTable}{es:Array (Int×Value)}{xs:List (List Key×Addr)}{A:Ae}{E:AA}{s:AZ}
def zn5{ns:AG}(U:A.units<cLine)(S:xA prog w s.heap a xs)(Y:(tk prog w).is s.heap (ns.map Sum.inl) b)(B:∀q∈xs,(tk prog w).is s.heap q.1 q.2)(h:∀r:Option Nat,(r.isSome=true↔(ns.map Sum.inl)∈xs.map (·.1))->Q r s) :
  Ag prog w A (setFind a (.ref b) ((tk prog w).hash (ns.map Sum.inl))) Q E s:=by
 obtain⟨o,es,ep,t,J,hx,L,T,F⟩:=S;unfold setFind;rw[show (100000:Nat)=99999+1 from rfl];unfold setFindIn;show aa (bq J L T.fits ?_);dsimp only;rw[show byScan (.ref b) es=false from rfl];simp only[aP,if_false];unfold setSearch;have O:=T.msk.le;show aa (zcy U T Y B J L ?found ?free 100000 0 none rfl (by unfold SetTable.turns;lia) (aK _) (λm O=>absurd O (cq _)))
 case found=>
  intro r i q Z I hr;obtain rfl:r=some i:=hr.resolve_left λz=>by cases z.2
  exact ae (h _ ⟨λ_=>aC.mpr ⟨q,ak Z,I⟩,λ_=>rfl⟩)
 case free=>
  intro N hN he hp;exact ae (h none ⟨λz=>(by cases z),λz=>absurd z (T.out hN he hp)⟩)
def zuq{ns:AG}(J:A.in1.units<cLine)(S:xA prog w s.heap a xs)(L:(tk prog w).is s.heap (ns.map Sum.inl) b)(B:∀q∈xs,(tk prog w).is s.heap q.1 q.2)(h:∀ (c:Bool) (n:Nat),(c=true↔(ns.map Sum.inl)∈xs.map (·.1))->Q c { s with toks:=n }) :
  Ag prog w A (contains (.ref a) (.ref b)) Q E s:=by
 have I:s.TypeIs (.ref a) "set" := by obtain⟨o,es,Z,t,O,U,_⟩:=S;exact⟨o,O,U.1⟩
 unfold contains;show be ?_;show aa (er I F.slot_set_contains.lookup ?_);change wpAny _ _ (if (some (Value.builtin "set.__contains__")==some Value.none)=true then _ else _) _ E s;rw[if_neg (by rw[beq_builtin_none];exact aI)]
 show aa (wpAny_callSpecialUnlessNone?_slot (name:=Str.ofString "__contains__") I F.slot_set_contains
  (aS F.slot_set_contains I entry_set_contains ?_ (F.args_set_contains_2 _ _)))
 unfold Builtin.«frozenset.__contains__» Builtin.Frozenset.oneOther;simp only[List.isEmpty_nil,bind_assoc];unfold Builtin.Frozenset.addrOf Builtin.Frozenset.withSetAsKey setContains;show aa (ae ?_);try dsimp only;show aa (ae ?_);try dsimp only;show aa (wpAny_tryCatch ?_);show be ?_;show aa ((tk prog w).pyHash J L ?_);show aa (zn5 (s:={ s with toks:=s.toks+(tk prog w).draws (ns.map Sum.inl) }) J S L B λr Y=>?_);show ae ?_;change wpAny _ _ (ret (Value.bool r.isSome)) _ _ _;exact ae ⟨_,rfl,bZ (h _ _ Y)⟩
variable {X:Cx}
def rInS (P:Aa)(w:Ab):R2:=λx y H Q=>∃ (a b:Addr) (ns:AG) (ks:AF),x = .ref b/\y = .ref a/\zes P w H a ks/\H b=some (.tup (ns.map V.int))/\∀c:Bool,(c=true↔ns∈ks)->Q (.bl c) H
def zrD (hu:X.A.units+1<cLine):OpQ X (compareOp .In) (rInS X.prog X.w):=⟨by
 intro pins s σ H x y v u Q I rx ry h;obtain⟨a,b,ns,ks,rfl,rfl,⟨xs,hH,hel,rfl,hnd⟩,hb,q⟩:=h;cases rx;cases ry;have S:=(show yi X.prog X.w H s.heap a (zfq X.prog X.w a (yK xs)) from I.hok a _ hH).1;change wpAny _ _ (do return Value.bool (<- contains (.ref a) (.ref b))) _ _ _;show aa (zuq (by lia) S (zb7 I hb) (λq hq=>?_) λc n hc=>ae ⟨.bl c,H,I.tok _,rfl,q c (hc.trans zcd)⟩);obtain⟨z,hz,rfl⟩:=aC.mp hq;exact zb7 I (hel z hz)⟩
def zpz:V->AT->Hp->VK->Prop:=λx vs H Q=>∃ (l:Addr) (xs:AT) (v:V) (d:Dt) (ds:AS),x = .ref l/\vs=[v]/\H l=some (.lst xs)/\IsL H ds xs/\Is H d v/\d.eqOk/\(Dt.lst ds).eqOk/\d∈ds/\∀j:Nat,ds[j]?=some d->(∀i,i<j->ds[i]?≠some d)->Q (.int j) H
open Classical in
def zjz (hu:X.A.units+64<cLine):MtM X "list.index" zpz:=by
 intro pins s σ H x vs v us Q I rx rv h;obtain⟨l,xs,u0,d,ds,rfl,rfl,hH,Z,hd,kd,ks,hm,q⟩:=h;cases rx;obtain⟨u,rfl,ru⟩:=rv.one;obtain⟨z,its,n,r,hl,e⟩:=I.lstM hH;obtain⟨as,ra⟩:=yT I.hok 8 hd ru kd;obtain⟨bs,rb⟩:=uw I.hok 7 Z r λw hw=>by rw[zao] at hw;obtain⟨d',ad,rfl⟩:=aC.mp hw;exact zaL ks d' ad
 obtain⟨l1,l2,l3⟩:=zjh kd ks hu;have B:=readsAll_map _ _ _ l1 rb;rw[zb8,zao,ay] at B;have L:its.length=ds.length:=by have:=congrArg List.length B;rwa[ab,ab] at this
 have rd:∀ (m:Nat) (h1:m<its.length) (h2:m<ds.length),readOf s.heap its[m]=PySem.W.kqdP ds[m].toW:=λm h1 h2=>by have:=congrArg (λl=>l[m]?) B;rw[aj,aj,ah h1,ah h2] at this;exact bv this
 have ev:∀ (m:Nat) (h2:m<ds.length),PyData.eqv (PySem.W.kqdP ds[m].toW) (PySem.W.kqdP d.toW)=true↔ds[m]=d:=λm h2=>(eD 7 _ _ 8 (zaL ks _ (bL h2)) kd).trans ⟨λh=>zek h,λh=>by rw[h]⟩
 let j:=ds.findIdx λx=>decide (x=d)
 have O:j<ds.length:=List.findIdx_lt_length_of_exists ⟨d,hm,a9 rfl⟩;have U:ds[j]=d:=bz (List.findIdx_getElem (p:=λx=>decide (x=d)) (w:=O));have Y:∀m (h2:m<ds.length),m<j->ds[m]≠d:=λm h2 J z=>by have:=List.not_of_lt_findIdx (p:=λx=>decide (x=d)) J;rw[a9 z] at this;cases this
 have z:xs.length<=sizeLine:=z;rw[bN] at z;have:=r.length
 show dw F.slot_list_index ⟨_,e,rfl⟩ F.entry_list_index (F.args_list_index_2 _ _)
  (list_indexAt l its.toArray n none #[] u (λy=>PyData.eqv (readOf s.heap y) (PySem.W.kqdP d.toW)) j (by simpa [L] using O) (by lia) ?_ ?_) ⟨e,items_eqAt rb ra l1 l2 l3,?_⟩
 change PyData.eqv (readOf s.heap its[j]) _=true;rw[rd j (by lia) O];exact (ev j O).mpr U;intro m ag J;have h2:m<ds.length:=by lia
 change PyData.eqv (readOf s.heap its[m]) _=false;rw[rd m (by lia) h2,<- Bool.not_eq_true];exact λh=>Y m h2 J ((ev m h2).mp h);show⟨.int (j:Nat),H,I.tok _,⟨_,rfl⟩,q j (by rw[ah O,U]) λi hi z=>?_⟩;have h2:i<ds.length:=by lia
 rw[ah h2] at z;exact Y i h2 hi (bv z)
end
end L2
namespace L3
open L2
section
variable {X:Cx}{Pn:PN}{M S:AR}{fr fr':Bool}{pos p:Pos}{e o a b c:Expr}{es:AO}{f fo fa fc:AD}
abbrev dAug (F:Int->Int->Int) (i:Nat) (f:AD):Ms:=λρ n k=>onV ρ i λx=>onI x λa=>f ρ n λy m=>onI y λb=>onP ρ i (.d (.int (F a b))) λq=>k.nx q m
def zq5 {i:Nat}{x:Str}{op:Operator}{F:Int->Int->Int}{pos':Pos}(hN:X.N.Nodup)(ho:PIp X op (ipI F))(he:JB X Pn M e f)(hi:X.N[i]?=some x:=by rfl)(hx:Loc X.env.scope x:=by first | exact Or.inl rfl | exact Or.inr rfl)(J:i∉M:=by ext)(U:i∉S++M:=by ext)(I:X.fn x=true\/X.env.scope.names.lookup x=some .local:=by walk_at "l") :
  JS X Pn S M fr (.AugAssign (.Name x pos') op e pos) (dAug F i f):=by
 obtain⟨te,q,r⟩:=he.ex;show⟨_,⟨zr0 hN hi hx q.run ho I⟩,⟨λB A σ H ρ n k D a kk I=>?_⟩⟩;simp only[dAug,zau,xJ,xV] at I;obtain⟨w0,e0,L,rfl,I⟩:=I;obtain⟨v,s1,s2,_⟩:=a.env.val i _ e0;obtain rfl:v = .int L:=(s2 J).is;show⟨_,s1,r.run A σ H ρ n _ _ a.env a.pn I ?_⟩;rintro y m v2 H1 ⟨O,rfl,r1⟩ b1 g1;obtain rfl:v2 = .int O:=yv b1;have a1:=a.step g1;exact⟨L,O,rfl,rfl,(zeb J U).run A σ H1 ρ (.int (F L O)) (.d (.int (F L O))) _ (λY=>k.nx Y m) a1.env (Val.of rfl) r1 λZ ad r2 E2 f2=>kk.nx A Z H1 ad m (EnvR.mineG a1 E2 f2) r2⟩
abbrev zqy (F:Int->Int->Int) (i:Nat) (fk f:AD):Ms:=λρ n k=>onV ρ i λx=>onE x λkvs=>fk ρ n λy m=>∃st,y = .d (stD st)/\∃a,yy kvs st=some (.int a)/\f ρ m λw B=>onI w λb=>kvs.length<lim/\onP ρ i (.dt (zeu kvs st (.int (F a b)))) λq=>k.nx q B
def zi9 (i:Nat){x:Str}{op:Operator}{F:Int->Int->Int}{np:Pos}(hu:X.A.units+1<cLine)(hk:JB X Pn M c fc)(ho:zts X op (ipI F))(he:JB X Pn M e f)(hi:i∈M:=by ext)(hN:X.N[i]?=some x:=by rfl)(hv:Vis X.env.scope x:=by walk_at "v")(hd:Ah x:=by ext)
  (hcd:(x==("__classdict__" : Str))=false:=by ext) (ha:∀ov iv new,augStore c ov iv new=(do holding [new,ov,iv] (setItem ov iv new);release [new,ov,iv] [];pure .next):=by intros;rfl) :
  JS X Pn S M fr (.AugAssign (.Subscript (.Name x np) c p) op e pos) (zqy F i fc f):=by
 obtain⟨te,q,r⟩:=he.ex;obtain⟨tk,qk,rk⟩:=hk.ex;show⟨_,⟨zo6 hu (qv i hN hv hd hcd).run qk.run q.run ho ha⟩,⟨λB A σ H ρ n k D a kk hf=>?_⟩⟩;simp only[zqy,zau,zg5,xJ,xV] at hf;obtain⟨w0,e0,kvs,rfl,hf⟩:=hf;obtain⟨v0,s0,_,o3⟩:=a.env.val i _ e0;obtain⟨ad,rfl,hA,_,_⟩:=o3 hi;show⟨.ref ad,s0,rk.run A σ H ρ n _ _ a.env a.pn hf ?_⟩;rintro y m v2 H1 ⟨st,rfl,a0,ha0,r1⟩ b1 g1;have a1:=a.step g1;obtain⟨bd,xs,rfl,hbd,hx⟩:=xb b1;obtain rfl:=hx.of_ints;have own:∀ {H1:Hp} {m:Nat},At3 Pn B S M A σ H1 ρ m->∃ks,H1 ad=some (dtO ks)/\uH (z5 A H1) kvs ks:=λa1=>by obtain⟨v3,s3,_,o4⟩:=a1.env.val i _ e0;rw[s0] at s3;cases s3;obtain⟨ad2,e4,_,hb,_⟩:=o4 hi;cases e4;obtain⟨a5,ks,e5,had,hkv⟩:=hb;cases e5;exact⟨ks,had,hkv⟩
 obtain⟨ks,had,hkv⟩:=own a1;obtain⟨v,h1,h2⟩:=(hkv.look (k:=st)).2 _ ha0;show⟨ad,v,rfl,h1 ▸ zcE.i had hbd,r.run A σ H1 ρ m _ _ a1.env a1.pn r1 ?_⟩;rintro w m2 v3 H2 ⟨b0,rfl,hz,r2⟩ b2 g2;have a2:=a1.step g2;obtain rfl:v3 = .int b0:=yv b2;obtain⟨ks2,had2,hkv2⟩:=own a2;exact⟨a0,b0,h2,rfl,_,zcI.i had2 (g2.st.tup hbd) (zc4 (by rw[hkv2.len];exact cg hz)),kk.nx A σ _ _ m2 (a2.wrX (w':=.dt (zeu kvs st (.int (F a0 b0)))) hi e0 s0 ⟨ad,_,rfl,zj,hkv2.put (show Is _ (.int _) _ from rfl)⟩ rfl (λk z=>by cases z) rfl) r2⟩
abbrev zqI (P:Aa) (w:Ab):AU->Mo W:=λq n Q=>on1 q λx=>∃sts:AF,x = .d (.lst (sts.map stD))/\(∀ks:AF,ks.Nodup->(∀z∈ks,z∈sts)->ks.length<300)/\∀ks:AF,ks.Nodup->(∀st,st∈ks↔st∈sts)->Q (.ss P w ks) n
def zs3:FL Pn true (znf P w) (zqI P w):=⟨λA H xs ws n Q R L b Pp h k=>by
 simp only[zqI,zat] at h;obtain⟨x,rfl,sts,rfl,I,h⟩:=h;obtain⟨v,r,rfl,U,rfl⟩:=b;obtain⟨Y,ys,rfl,Z,hl⟩:=yM U;show⟨Y,ys,sts,rfl,Z,hl.stay (zu.same zn),I,λl H' ks O SV mm Sm=>?_⟩;obtain⟨xs,h1,h2,I,J⟩:=SV;have F:=L.stay (zu.same Sm);show k _ n _ H' (h ks J mm) ⟨l,xs,rfl,zy (L.new O) h1,I,λq B=>zy (λz=>F.noT _ _ z (h2 q B)) (h2 q B),J⟩ (Go.same Pp Sm) λ_=>⟨l,rfl,.of O,l,xs,rfl,h1,I,λq B=>zy (λz=>?_) (h2 q B),J⟩;rcases z with z | z;exact F.noT _ _ z (h2 q B);have:=h2 q B;rw[z,h1] at this;cases this⟩
abbrev dInS (P:Aa) (w:Ab):W->W->Mo W:=λx y n Q=>∃ (st:AG) (ks:AF),x = .d (stD st)/\y = .ss P w ks/\∀c:Bool,(c=true↔st∈ks)->Q (.d (.bl c)) n
def zvv:F2 Pn false (rInS P w) (dInS P w):=⟨λA H x y U Y n Q R Z B F Pp h k=>by obtain⟨st,ks,rfl,rfl,h⟩:=h;obtain⟨I,rfl,SV⟩:=zpU F;obtain⟨J,xs,rfl,q,L⟩:=xb B;obtain rfl:=L.of_ints;exact⟨I,J,st,ks,rfl,rfl,SV,q,λc O=>k _ n _ H (h c O) (Val.of rfl) (Go.refl Pp) λz=>by cases z⟩⟩
abbrev dItEF (fa:AC):AC:=λρ n Q=>fa ρ n λq m=>on1 q λx=>onZ x λkvs=>(kvs.map (·.1)).Nodup->Q (enW 0 ((kvs.map (·.1)).map stD)) m
abbrev znO (fo f:AD):AD:=λρ n Q=>fo ρ n λx q=>onL x λl=>f ρ q λy B=>onD y λd=>d.eqOk/\(Dt.lst l).eqOk/\d∈l/\∀j:Nat,l[j]?=some d->(∀i,i<j->l[i]?≠some d)->Q (.d (.int j)) B
def zlk (K:AH)(Z:X.K=K)(hu:X.A.units+64<cLine){apos cpos:Pos}(ho:JB X Pn M o fo)(he:JB X Pn M e f)
  (B:attributeBase o "index" X.env (eval o X.env)=eval o X.env:=by rfl)
  (J:((backTo cpos (starEach [e] X.env)).all (λx=>!x.1)&&(backToKw cpos (keywordEach [] X.env)).all (λx=>x.1.isSome)
   && decide (([e]:AO).length+([]:List Keyword).length+(if ([]:List Keyword).isEmpty then 0 else 1)<30))=true:=by rfl)
  (I:(apos.endLine==cpos.line)=true:=by rfl) (hs:starEach [e] X.env=(false,eval e X.env)::starEach [] X.env:=by rfl) (q:(backTo cpos (starEach [] X.env)).any (·.1)=false:=by rfl) :
  JE X Pn M false (.Call (.Attribute o "index" apos) [e] [] cpos) (znO fo f):=by
 subst Z;obtain⟨to,qo,ro⟩:=ho.ex;obtain⟨te,qe,re⟩:=he.ex;show⟨_,zfj bE PySem.F.slot_list_index PySem.F.type_list_index (zjz hu) qo (zG qe yk hs) B J I hs q,⟨λA σ H ρ n Q R E P hf k=>?_⟩⟩;show ro.run A σ H ρ n _ _ E P hf λw m v H1 L b1 U=>?_;rw[xx] at L;obtain⟨l,rfl,L⟩:=L;obtain⟨ad,xs,rfl,Y,hl⟩:=yM b1;show⟨.inl ⟨rfl,_,SqL.of Y⟩,?_⟩;show re.run A σ H1 ρ m _ _ (E.stay U.st) U.pn L λw2 m2 v2 H2 O b2 g2=>?_;rw[xI] at O;obtain⟨d,rfl,k1,k2,k3,O⟩:=O;exact⟨ad,xs,v2,d,l,rfl,rfl,g2.st.lst Y,(hl.stay (zu.same zn)).stay g2.st,b2.is,k1,k2,k3,λj h1 h2=>k _ m2 _ H2 (O j h1 h2) (Val.of rfl) (U.trans g2) λz=>by cases z⟩
abbrev snN:AU->(AU->Prop)->Prop
 | [],P=>P [.d .non]
 | a::r,P=>snN r λq=>P (a::q)
def znn:∀ {q:AU} {P:AU->Prop},snN q P=P (q++[.d .non])
 | [],P=>rfl
 | a::r,P=>by rw[snN,znn];rfl
def zbH.non:∀ {q:AU} {vs:AT},zbH A H q vs->zbH A H (q++[.d .non]) (vs++[.non])
 | [],_,h=>by cases h;exact⟨_,_,rfl,Val.of rfl,rfl⟩
 | _::_,_,⟨v,r,e,h1,h2⟩=>by subst e;exact⟨v,_,rfl,h1,zbH.non h2⟩
abbrev dFnD (k:Nat) (F:AU->Mo W) (fs:AC):AD:=λρ n Q=>fs ρ n λB m=>snN B λq=>zcT k q (F q m Q)
def zuv(D:DfnD X.K X.mg x st ps [Value.none] fA fd)(G:FnOk X.prog X.w X.K X.mg X.base CX0 j fA fd ps (spV k fr F))(L:Room q X.A)(O:JA X Pn M (e::es) fs)(B:j<=q:=by ext)(U:Gl X x:=by rfl)(I:Ah x:=by ext)(Y:starEach (e::es) X.env=(false,eval e X.env)::starEach es X.env:=by rfl)(J:(backTo pos (starEach es X.env)).any (·.1)=false:=by rfl) :
  JE X Pn M fr (.Call (.Name x p) (e::es) [] pos) (dFnD k (F Pn) fs):=by
 obtain⟨ta,Z,ra⟩:=O.ex;show⟨_,zsc (dv:=[.non]) D (.cons rfl .nil) G L Z B U I Y J,⟨λA σ H ρ n Q R E P hf q=>?_⟩⟩;show ra.run A σ H ρ n _ _ E P hf λws m vs H1 h b g=>?_;rw[znn,zbO] at h;exact⟨Pn,A,_,m,R,(E.stay g.st).al,b.non,h.1,g.pn,h.2,λw m' v H' h1 h2 h3 h4=>q w m' v H' h1 h2 (g.trans h3) λz=>(h4 z).back g.st⟩
end
end L3
namespace L2
open PyProof.Rows
section
variable {X:Cx}{pins:AB}{σ:St}{H G G':Hp}{s:AZ}{d l:Addr}{ob:Obj}{kvs:List (List Key×V)}
variable {e:Expr}{te:TE}
end
end L2
namespace L3
open L2
def Sm (G G':Hp):Prop:=∀b o,G b=some o->imm o=true\/¬ NP o->G' b=some o
section
variable {K:AH}{P:Aa}{w:Ab}{C:Addr}{H:Hp}{Q:VK}{E:XK}{D:Ends}
end
end L3
namespace L2
open PyProof.Rows PySem.SeqAt
section
variable {X:Cx}
end
end L2
namespace L3
open L2
abbrev W.isD:W->Bool
 | .d _=>true
 | _=>false
section
variable {X:Cx}{Pn:PN}{M:AR}{fr:Bool}{e:Expr}{f:AD}
abbrev onFl (w:W) (P:AS->Prop):Prop:=match w with | .fl i=>P i | _=>False
abbrev dInF (q:Bool):W->W->Mo W:=λx y n Q=>onD x λd=>onFl y λds=>d.eqOk/\(Dt.lst ds).eqOk/\∀b:Bool,(b=true↔d∈ds)->Q (.d (.bl (xr q b))) n
variable {s:Stmt}{C fI fA:Addr}{dI dA:Ac}
end
end L3
namespace L2
open PyProof.Rows PySem.SeqAt
def okT:Nat->Dt->Bool
 | _,.non=>true
 | _,.int _=>true
 | _,.bl _=>true
 | _,.str x=>PyData.strOk x
 | n+1,.tup l=>l.all (okT n)
 | n+1,.lst l=>l.all (okT n)
 | _,_=>false
abbrev Dt.py (d:Dt):PyData:=PySem.W.kqdP d.toW
section
variable {P:Aa}{w:Ab}{H:Hp}{h:Heap}
variable {X:Cx}
def zvf (P:Aa)(w:Ab):AT->Hp->VK->Prop:=λxs H Q=>∃ (a:Addr) (ks:AF),xs=[.ref a]/\zes P w H a ks/\ks.length<300/\Q (.int (ks.length:Int)) H
def znK:CallQ X (.builtin "len") (zvf X.prog X.w):=⟨by
 intro pins s σ H xs O Q I r h;obtain⟨a,ks,rfl,⟨xs,h1,h2,rfl,U⟩,Y,q⟩:=h;obtain⟨u,rfl,B⟩:=zaD r;cases B;obtain⟨⟨o,es,Z,t,F,J,L,T,_⟩,_⟩:=(show yi X.prog X.w H s.heap a (zfq X.prog X.w a (yK xs)) from I.hok a _ h1);have e:es.size=(xs.map (·.1)).length:=by rw[T.size];unfold yK;rw[ab,ab]
 exact call_len_set F J L T.fits (by lia) ⟨.int _,H,I.tok _,⟨_,by rw[e]⟩,q⟩⟩
end
end L2
namespace L3
open L2
section
variable {X:Cx}{Pn:PN}{M:AR}{e:Expr}{f:AD}{pos p:Pos}
abbrev dNeT:W->W->Mo W:=λx y n Q=>onD x λd=>onD y λe=>d=e/\okT 8 d=true/\Q (.d (.bl false)) n
abbrev dNiT:W->W->Mo W:=λx y n Q=>onD x λd=>onL y λds=>okT 8 d=true/\(Dt.lst ds).eqOk/\∀b:Bool,(d∈ds->b=true)->(b=true->∃e∈ds,PyData.eqv e.py d.py=true)->Q (.d (.bl (!b))) n
abbrev zkY (f:AD):AD:=λρ n Q=>f ρ n λx q=>onL x λl=>∃sts:AF,l=sts.map stD/\(∀ks:AF,ks.Nodup->(∀z∈ks,z∈sts)->ks.length<300)/\∀ks:AF,ks.Nodup->(∀st,st∈ks↔st∈sts)->Q (.d (.int (ks.length:Nat))) q
def zi7 {p2 B:Pos}(hu:X.A.units+64<cLine)(hc:X.calm=true)(J:X.mg "len" = none)(L:X.mg "set" = none)(he:JB X Pn M e f)(O:Gl X "len" := by rfl)(U:Gl X "set" := by rfl)
  (h1:starEach [e] X.env=(false,eval e X.env)::starEach [] X.env:=by rfl) (h2:(backTo B (starEach [] X.env)).any (·.1)=false:=by rfl)
  (Y:starEach [.Call (.Name "set" p2) [e] [] B] X.env=(false,eval (.Call (.Name "set" p2) [e] [] B) X.env)::starEach [] X.env:=by rfl) (h4:(backTo pos (starEach [] X.env)).any (·.1)=false:=by rfl) :
  JE X Pn M false (.Call (.Name "len" p) [.Call (.Name "set" p2) [e] [] B] [] pos) (zkY f):=by
 obtain⟨te,qe,re⟩:=he.ex;show⟨_,y0 znK O J aX (zG (zaa (zil hu hc) U L PyProof.Rows.boot_set (zG qe yk h1) (by ext) (by ext) h1 h2) yk Y) (by ext) (by ext) Y h4,⟨λA σ H ρ n Q R E P hf k=>?_⟩⟩;show re.run A σ H ρ n _ _ E P hf λw m v H1 I b1 Z=>?_;rw[xx] at I;obtain⟨l,rfl,sts,rfl,hz,I⟩:=I;obtain⟨ad,xs,rfl,ha,hl⟩:=yM b1;show⟨ad,xs,sts,rfl,ha,hl.stay (zu.same zn),hz,λq H' ks nq SV hm Sm=>?_⟩;have F:ks.Nodup:=let ⟨_,_,_,_,h⟩:=SV;h;exact⟨q,ks,rfl,SV,hz ks F λz h=>(hm z).mp h,k _ m _ H' (I ks F hm) (Val.of rfl) (Z.trans (Go.same Z.pn Sm)) λz=>by cases z⟩
end
end L3
namespace L2
open PyProof.Rows
section
variable {X:Cx}
end
end L2
namespace L3
open L2
section
variable {Pn:PN}
abbrev dMaxT:AU->Mo W:=λq n Q=>on1 q λx=>∃ns:AG,x = .d (stD ns)/\ns≠[]/\∀m,m∈ns->(∀x∈ns,x<=m)->Q (.d (.int m)) n
end
end L3
namespace L2
open PyProof.Rows
def zpg{X:Cx}{apos cpos:Pos}(I:QE X o to)(q:attributeBase o "clear" X.env (eval o X.env)=eval o X.env:=by rfl)(B:(apos.endLine==cpos.line)=true:=by rfl):QE X (.Call (.Attribute o "clear" apos) [] [] cpos) (zvq X.K "list" zj0 to):=⟨zrM bE PySem.F.slot_list_clear PySem.F.type_list_clear zlD I.run q B⟩
end L2
namespace L3
open L2
structure ItV0 (J:It)(l:AU):Prop where
 one:∀i w (A2:AL) H2,l[i]?=some w->J.go i H2/\∀x H3,J.yld i H2 x H3->y3 H2 H3/\Val A2 H3 w x
 stop:∀H2,J.stop l.length H2
def zlg{lo:Int}:ItV0 (Itr lo n) (zev lo n) where
 one:=λi w A2 H2 e=>by unfold zev at e;rw[aj] at e;obtain⟨j,h1,rfl⟩:=aA.mp e;obtain⟨hi,h2⟩:=ac.mp h1;rw[bF] at h2;subst h2;rw[az] at hi;show⟨hi,?_⟩;rintro y H3 ⟨q,B⟩;subst q B;exact⟨λ_ _ z=>z,Val.of rfl⟩
 stop:=λH2=>by
  change n<=(zev lo n).length;unfold zev;right
section
variable {X:Cx}{Pn:PN}{M S:AR}{fr:Bool}{a:Expr}{pos p:Pos}
def zpK(hi:RAB Pn M ta fs)(hg:RG (S++M) M g mg)(hb:RS Pn S M fr tb fb):RS Pn S M fr (ztM (λσ H R=>ta σ H λvs H1=>∃j:Int,vs=[.int j]/\-(2 ^ 62)<=j/\j<2 ^ 62/\R (Itr 0 j.toNat) H1) g tb) (ztB (ztC fs) mg fb):=⟨λB A σ H ρ n k D a kk hf=>by
 show hi.run A σ H ρ n _ _ a.env a.pn hf  ?_;rintro ws m vs H1 ⟨j,e,j1,j2,I,i0,it,ie⟩ hv g1;subst e;obtain⟨v,rfl,bb⟩:=za9 hv;obtain rfl:v = .int j:=yv bb;have iv:=zlg (lo:=0) (n:=j.toNat);generalize zev 0 j.toNat=l at *;have a1:=a.step g1;show⟨j,rfl,by lia,by lia,?_⟩;show⟨λi mm L H'=>mm=l.length - i/\i<=l.length/\∃A' q J,At3 Pn B S M A' L H' q J/\I i q J,⟨l.length,by simp,aK _,A,ρ,m,a1,i0⟩,?_⟩;rintro i mm L H' ⟨rfl,an,A',q,J,a',hI⟩;by_cases Y:i<l.length
 show Or.inr ?_;have O:l[i]?=some l[i]:=ah Y;obtain⟨go,yl⟩:=iv.one i l[i] A' H' O;show⟨go,λZ H2=>∃A' q J,At3 Pn B S M A' Z H2 q J/\I (i+1) q J,λZ H2 h=>⟨l.length - (i+1),by lia,rfl,Y,h⟩,λx H2 hy=>?_⟩;obtain⟨S2,V2⟩:=yl x H2 hy;have a2:=a'.step (Go.same a'.pn S2);show hg.run A' L H2 q x l[i] _ _ a2.env V2 (it i l[i] q J O hI) λad ag r3 E3 f3=>?_;show hb.run B A' ad H2 ag J _ _ (EnvR.mineG a2 E3 f3) ⟨?_,?_,?_,kk.fc,?_⟩ r3
 exact λA4 U H4 F n4 a4 r4=>⟨A4,F,n4,a4,r4⟩;exact λA4 U H4 F n4 a4 r4=>kk.nx A4 U H4 F n4 a4 r4;exact λA4 U H4 F n4 a4 r4=>⟨A4,F,n4,a4,r4⟩;exact kk.rt;show Or.inl ?_;have al:i=l.length:=by lia
 subst al;exact⟨iv.stop H',kk.nx A' L H' q J a' (ie q J hI)⟩⟩
def W.nl:W->Prop
 | .d x=>x.noL=true
 | .pen _=>True
 | _=>False
def Fg:Ev->Ev->Prop
 | [],q=>q=[]
 | o::ρ,q=>∃o' r,q=o'::r/\(o'=none\/(o'=o/\∀w,o=some w->w.nl))/\Fg ρ r
def Fg.len:∀ {ρ q:Ev},Fg ρ q->q.length=ρ.length
 | [],_,h=>by cases h;rfl
 | _::_,_,⟨_,_,e,_,h⟩=>by subst e;rw[aO,aO,h.len]
def Fg.get:∀ {ρ q:Ev} {j:Nat} {w:W},Fg ρ q->q[j]?=some (some w)->ρ[j]?=some (some w)/\w.nl
 | [],_,_,_,h,e=>by cases h;simp at e
 | o::ρ,_,0,w,⟨o',r,B,h1,h⟩,e=>by
  subst B;have e:o'=some w:=by simpa using e
  subst e;rcases h1 with h1 | ⟨rfl,h1⟩;cases h1;exact⟨rfl,h1 w rfl⟩
 | o::ρ,_,j+1,w,⟨o',r,B,h1,h⟩,e=>by subst B;have:=Fg.get (ρ:=ρ) h (show r[j]?=some (some w) by simpa using e);simpa using this
def zrl {w:W}(h:w.nl):w.mut=false:=by
 cases w with
 | d x=>cases x <;> first | rfl | cases h
 | pen p=>rfl
 | _=>cases h
abbrev zmY (i:Nat):Ms:=λρ n k=>∃F l st q,ρ[i]?=some (some (.d (.tup [F,.lst l])))/\F.noL=true/\stD st∈l/\Fg ρ q/\onP q i (.d (.tup [F,.lst []])) λB=>k.nx B n
def zmU(h:H q=some (.lst ys))(B:x.noL=true)(hi:Is (z5 A H) x v):Is (z5 A (upd H q o)) x v:=by have h1:=zmT (A:=λb=>b=q) (H:=z5 A H) (λa xs e z=>by subst e;rw[zn _ _ z] at h;cases h) B hi;show h1.stay (zu.same λb u e=>?_);obtain⟨F,I⟩:=zP.mp e;obtain⟨J,L⟩:=zP.mp I;exact zy J (by rw[zd F];exact L)
def zme(hS:9999∈S)(hi:i∉M):RS Pn S M fr (zmm (zvq K "list" zj0 (tOp (zsm K) (zkG i) (tC (.int 1))))) (zmY i):=⟨by
 rintro B A σ H ρ n k D a kk ⟨d0,l,st,Z,e0,a0,a1,hF,r⟩;rw[xV] at r;obtain⟨v,s1,s2,_⟩:=a.env.val i _ e0;obtain⟨b,xs,rfl,hb,hl⟩:=Val.is (s2 hi);obtain⟨x0,r0,rfl,h0,x1,r1,rfl,h1,ap⟩:=hl;obtain⟨L,ys,rfl,a2,a3⟩:=h1;cases ap;obtain⟨nA,O⟩:=zP.mp a2;obtain⟨nB,hB⟩:=zP.mp hb;have a4:b≠L:=λz=>by rw[z,O] at hB;cases hB
 obtain⟨nG,nH⟩:=a.fix.2 hS;have ag:∀ {j:Nat} {w:W},j∈M->(Z.set i (some (.d (.tup [d0,.lst []]))))[j]?=some (some w)->False:=λ{j w} Y e=>by have I:j≠i:=λz=>hi (z ▸ Y);rw[ao (Ne.symm I)] at e;obtain⟨e1,e2⟩:=hF.get e;obtain⟨_,_,_,h3⟩:=a.env.val j w e1;obtain⟨_,_,_,_,h4⟩:=h3 Y;rw[zrl e2] at h4;cases h4
 show⟨.ref b,s1,b,_,1,.ref L,rfl,rfl,SqT.of hB,rfl,.inl ⟨rfl,_,SqL.of O⟩,L,ys,rfl,rfl,O,?_⟩;have as:i<Z.length:=by rw[hF.len];exact (ac.mp e0).1
 show kk.nx A σ (upd H L (.lst [])) (Z.set i (some (.d (.tup [d0,.lst []])))) n ⟨⟨by rw[a8,hF.len];exact a.env.len,λj w e=>?_,λj k' w u F Y _ _ e1=>(ag Y e1).elim,λF z=>?_⟩,⟨a.frm.sub,a.frm.new,λF o e np nc=>?_,a.frm.al,a.frm.cn,λF z=>?_⟩,?_,λF o e np=>?_,a.fix,λj w F Y e=>(ag Y e).elim⟩ r;by_cases I:j=i;subst I;rw[aJ as] at e;cases e;show⟨.ref b,s1,λ_=>Val.of ⟨b,_,rfl,zy nB (by rw[zd a4];exact hB),x0,_,rfl,zmU O a0 h0,.ref L,_,rfl,⟨L,[],rfl,zy nA zj,rfl⟩,rfl⟩,λz=>absurd z hi⟩;rw[ao (Ne.symm I)] at e;obtain⟨e1,e2⟩:=hF.get e;obtain⟨v,q1,U,q3⟩:=a.env.val j w e1;show⟨v,q1,λz=>?_,λz=>(ag z (by rw[ao (Ne.symm I)];exact e)).elim⟩;have:=U z
 cases w with
 | d x=>exact Val.of (zmU O e2 (Val.is this))
 | pen p=>exact this
 | _=>cases e2
 obtain⟨o,q1,U,q3⟩:=a.env.al F z;exact⟨o,by rw[zd (show F≠L from λy=>nA (by rw[<- y];exact z))];exact q1,U,q3⟩;have:=a.frm.st F o e np nc;have an:F≠L:=λy=>by rw[y,O] at this;cases this;exact nH _ _ e
 rw[zd an];exact this;obtain⟨o,q1,U⟩:=a.frm.cs F z;by_cases av:F=L;subst av;exact⟨_,zj,NP.lst⟩;exact⟨o,by rw[zd av];exact q1,U⟩
 ·have hp:=a.pn;show⟨?_,Pn.J.frz hp.2 O NP.lst rfl⟩;have hp:=hp.1;split at hp;trivial
  ·show⟨?_,hp.2⟩;obtain⟨⟨a',l',g1,g2⟩,g3,g4⟩:=hp.1;rename_i p' c' a7 _;show⟨⟨a',l',by rw[zd λz=>by rw[z,O] at g1;cases g1];exact g1,g2⟩,?_,g4⟩;rw[zd λz=>?_];exact g3;rw[z,O] at g3;cases g3;obtain⟨j,Y⟩:=dU.mp a1;obtain⟨y,hy,a5⟩:=a3.getD Y;rw[aj] at hy;obtain⟨q,_,e⟩:=aA.mp hy;obtain⟨_,_,e2,_⟩:=a5;rw[<- e] at e2;cases e2
 have:=a.prot F o e np;obtain⟨q1,U⟩:=zP.mp this;have an:F≠L:=λy=>by rw[y,O] at U;cases U;exact nG _ _ e
 exact zy q1 (by rw[zd an];exact U)⟩
def zln (i:Nat){x:Str}{k:Nat}{L O sp J q B:Pos}(Y:9999∈S:=by ext)(hi:i∉M:=by ext)(Z:X.N[i]?=some x:=by rfl)(hv:Vis X.env.scope x:=by walk_at "v")(hd:Ah x:=by ext)
  (U:(x==("__classdict__" : Str))=false:=by ext) (hs:swapsWith (.Call (.Attribute (.Subscript (.Name x J) (.Constant (.int 1) k q) B) "clear" L) [] [] O) none sp.line X.env=pure false:=by rfl) (F:attributeBase (.Subscript (.Name x J) (.Constant (.int 1) k q) B) "clear" X.env (eval (.Subscript (.Name x J) (.Constant (.int 1) k q) B) X.env)=eval (.Subscript (.Name x J) (.Constant (.int 1) k q) B) X.env:=by rfl) (I:(L.endLine==O.line)=true:=by rfl) :
  JS X Pn S M fr (.Expr (.Call (.Attribute (.Subscript (.Name x J) (.Constant (.int 1) k q) B) "clear" L) [] [] O) sp) (zmY i):=
 ⟨_,zcl (zpg (zpk yo (qv i Z hv hd U) yu (λ_ _=>rfl)) F I) hs,zme Y hi⟩
def zok {tg:Expr}{fs:AC}{body:List Stmt}{mg:W->Ev->(Ev->Prop)->Prop}{fb:Ms}(I:PassesOwn (model X.prog X.w) X.A X.env X.xe)(J:X.calm=true)(B:Gl X "range")(L:X.mg "range" = none)(O:JAB X Pn M [a] fs)(U:JG X (S++M) M tg mg)(Y:JSs X Pn S M fr body fb)(F:starEach [a] X.env=[(false,eval a X.env)]:=by rfl)(hs:∀x,foldedSetIterable (.Call (.Name "range" p) [a] [] pos) X.env x=pure x:=by intro _;rfl){q:Pos} :
  JS X Pn S M fr (.For tg (.Call (.Name "range" p) [a] [] pos) body [] q) (ztB (zt5 fs) mg fb):=by
 rw[<- xG];obtain⟨ti,Z,ri⟩:=O.ex;obtain⟨ad,qg,rg⟩:=U.ex;obtain⟨tb,qb,rb⟩:=Y.ex;exact⟨_,zjX I J (zfk B L Z F) qg qb hs,zpK ri rg rb⟩
end
end L3
local macro_rules | `(tactic| left)=>`(tactic| ((try (with_reducible conv=>whnf));repeat (with_reducible refine L3.zqr ?_;try (with_reducible conv=>whnf)));try dsimp only)
local macro_rules | `(tactic| walk_at "ct")=>`(tactic| (with_reducible refine L3.zlI ?_ ?_;(first | decide | assumption | rfl));left)
local macro_rules | `(tactic| walk_at "cf")=>`(tactic| (with_reducible refine L3.zdY ?_ ?_;(first | decide | assumption | rfl));left)
namespace Law
open L2 L3
abbrev la:AM:=[Ai,Aj]
abbrev lb:AM:=["given","box","better","worse",Ak,"left_alone"]
abbrev lc:AM:=[Ai,Am]
abbrev ld:AM:=[Ai,Aj,An]
abbrev lh:AM:=["_law_script"]
abbrev li:AM:=[Ao,Ap]
abbrev lj:AM:=[Aj,An,Aq]
abbrev ll:AM:=[Aj,An,"_law_ring"]
abbrev lm:AM:=[Ao,Ap,An]
abbrev ln:AM:=[Ar,As,At]
abbrev lq:AM:=[Ai,"_law_some"]
abbrev lr:AM:=[Aj]
abbrev lu:AM:=[Au,Av]
abbrev lv:AM:=[Ak,"box","worth"]
abbrev lw:AM:=[An,At]
abbrev lx:AM:=[As,Ao]
abbrev ly:AM:=[Au,Av,Ak,"held"]
abbrev lz:AM:=[Aj,Aw]
abbrev lA:AM:=[Ak,"waiting"]
abbrev lB:AM:=[Ai,"_law_most"]
abbrev lC:AM:=[Ax,Ai,Aj]
abbrev lD:AM:=[Ao,"_law_left",Ai]
abbrev lE:AM:=[As,Ay,Az]
abbrev lF:AM:=[Ao,As]
abbrev lG:AM:=["row","worth","worths"]
abbrev lH:AM:=[Ax,Ao,Ap]
abbrev lI:AM:=[Ax,Ao,Az]
abbrev lJ:AM:=[Ak,"given"]
abbrev lK:AM:=["_law_thing"]
abbrev lL:AM:=[A1,"left"]
abbrev lM:AM:=[Ak]
abbrev lN:AM:=[Ao]
abbrev lO:AM:=["choices"]
def top (i:Nat):Stmt:=PySem.Challenge.pw_allelse_k22_ring_or_worths.main.body.getD i (.Pass ⟨0,0,0,0⟩)
abbrev zdc:Stmt:=top 14
abbrev zcq:Stmt:=top 15
abbrev zct:Stmt:=top 16
abbrev zcs:Stmt:=top 17
abbrev uM:Stmt:=top 18
abbrev zdd:Stmt:=top 20
abbrev zcu:Stmt:=top 21
abbrev zac:Stmt:=top 22
abbrev zab:Stmt:=top 23
abbrev zcr:Stmt:=top 24
abbrev zbv:Stmt:=top 25
abbrev zbu:Stmt:=top 26
abbrev za3:Stmt:=top 27
abbrev zav:Stmt:=top 28
abbrev zcp:Stmt:=top 29
abbrev zde:Stmt:=top 1
abbrev zcw:Stmt:=top 2
abbrev zfn:Stmt:=top 3
abbrev zka:Stmt:=top 5
abbrev zbx:Stmt:=top 7
abbrev uN:Stmt:=top 8
abbrev zcv:Stmt:=top 10
abbrev zby:Stmt:=top 11
abbrev uO:Stmt:=top 12
abbrev zbw:Stmt:=top 19
abbrev zad:Stmt:=top 30
abbrev um:Stmt:=top 31
abbrev xN:Stmt:=top 32
abbrev zsG:Stmt:=top 33
def zgn:FnScope lh lh (ze zdc):=by walk_at "f"
def ym:FnScope [Ai,Am,A5,Ar,"_law_cell","_law_mixed"] lc (ze zcq):=by walk_at "f"
def zbz:FnScope [Ai,"_law_some","_law_left"] lq (ze zct):=by walk_at "f"
def yn:FnScope [Ai,"_law_most","_law_way","_law_wanted",Aj,"_law_left",Am] lB (ze zcs):=by walk_at "f"
def zU:FnScope [Aj,A5,Am,A6,Ao] lr (ze uM):=by walk_at "f"
def zcx:FnScope [Ai,Am,Ao] lc (ze zdd):=by walk_at "f"
def yJ:FnScope [Ai,Aj,Az,"_law_share",Ay,Ar,A7,A8] la (ze zcu):=by walk_at "f"
def z9:FnScope [Aj,Aw,A5,Az,A6,Ay] lz (ze zac):=by walk_at "f"
def zE:FnScope [Ai,Aj,Aw,A5,"_law_place",Az,"_law_looks",Ay,"_law_ranks",Ax] la (ze zab):=by walk_at "f"
def zae:FnScope [Ao,Ap,Az,Ay] li (ze zcr):=by walk_at "f"
def zS:FnScope [Aj,A5,Am,A6,Ax,Ao,Aq] lr (ze zbv):=by walk_at "f"
def uD:FnScope [Ai,Aj,"_law_way"] la (ze zbu):=by walk_at "f"
def zH:FnScope [Ai,Aj,A9,"_law_rank",Ax,Ao,A5,Az,As,Ap] la (ze za3):=by walk_at "f"
def zY:FnScope [Ai,Aj,An,"_law_way",Ar,Ay,Az,A7,A8] ld (ze zav):=by walk_at "f"
def yc:FnScope [Ai,Aj,"_law_kind","_law_spoil",Am,An] la (ze zcp):=by walk_at "f"
def uE:FnScope ["choices","rows","worths"] lO (ze zde):=by walk_at "f"
def zfo:FnScope [Au] [Au] (ze zcw):=by walk_at "f"
def zhO:FnScope lv lv (ze zfn):=by walk_at "f"
def zed:FnScope [Ak,"given","box","worth"] lJ (ze zka):=by walk_at "f"
def za4:FnScope [Au,Av,Ak,"held","left_alone"] ly (ze zbx):=by walk_at "f"
def zbj:FnScope lu lu (ze uN):=by walk_at "f"
def xY:FnScope [A1,"many",Ak,"there"] [A1] (ze zcv):=by walk_at "f"
def yd:FnScope [A1,"left","among","came_from","here","there","row"] lL (ze zby):=by walk_at "f"
def zx:FnScope [Au,Av,A1,"waiting","longest","row","at","here","there","left"] lu (ze uO):=by walk_at "f"
def yq:FnScope [An,At,A5,Ay,Az,A7,A8,"_law_there"] lw (ze zbw):=by walk_at "f"
def zbG:FnScope lK lK (ze zad):=by walk_at "f"
def y1:FnScope [Aj,An,"_law_ring",A9,Ao] ll (ze um):=by walk_at "f"
def zI:FnScope [Aj,An,Aq,A9,"_law_held","_law_due",Ao,Ap] lj (ze xN):=by walk_at "f"
def zaw:FnScope ["_law_script",Ai,"_law_turn_here","_law_most",Aj,An,A5,"_law_wider","_law_more"] lh (ze zsG):=by walk_at "f"
set_option genInjectivity false in
structure Ad where
 f0:Addr
 d0:Ac
 f1:Addr
 d1:Ac
 f2:Addr
 d2:Ac
 f3:Addr
 d3:Ac
 f4:Addr
 d4:Ac
 f5:Addr
 d5:Ac
 f6:Addr
 d6:Ac
 f7:Addr
 d7:Ac
 f8:Addr
 d8:Ac
 f9:Addr
 d9:Ac
 f10:Addr
 d10:Ac
 f11:Addr
 d11:Ac
 f12:Addr
 d12:Ac
 f13:Addr
 d13:Ac
 f14:Addr
 d14:Ac
 f15:Addr
 d15:Ac
 f16:Addr
 d16:Ac
 f17:Addr
 d17:Ac
 f18:Addr
 d18:Ac
 f19:Addr
 d19:Ac
 f20:Addr
 d20:Ac
 f21:Addr
 d21:Ac
 f22:Addr
 d22:Ac
 f23:Addr
 d23:Ac
 f24:Addr
 d24:Ac
 f25:Addr
 d25:Ac
 f26:Addr
 d26:Ac
 f27:Addr
 d27:Ac
 f28:Addr
 d28:Ac
structure Txt (K:AH)(mg:AI)(t:Ad):Prop where
 q0:Dfn K mg "_law_pen" zdc lh t.f0 t.d0
 q1:Dfn K mg "_law_draw" zcq lc t.f1 t.d1
 q2:Dfn K mg "_law_turn" zct lq t.f2 t.d2
 q3:Dfn K mg "_law_room" zcs lB t.f3 t.d3
 q4:Dfn K mg "_law_standings" uM lr t.f4 t.d4
 q5:Dfn K mg "_law_two" zdd lc t.f5 t.d5
 q6:Dfn K mg "_law_wish" zcu la t.f6 t.d6
 q7:Dfn K mg "_law_contexts" zac lz t.f7 t.d7
 q8:Dfn K mg "_law_by_order" zab la t.f8 t.d8
 q9:Dfn K mg "_law_full" zcr li t.f9 t.d9
 q10:Dfn K mg "_law_snake" zbv lr t.f10 t.d10
 q11:Dfn K mg "_law_along" zbu la t.f11 t.d11
 q12:Dfn K mg "_law_rising" za3 la t.f12 t.d12
 q13:Dfn K mg "_law_spoiled" zav ld t.f13 t.d13
 q14:Dfn K mg "_law_book" zcp la t.f14 t.d14
 q15:Dfn K mg "combined" zde lO t.f15 t.d15
 q16:Dfn K mg "standings" zcw [Au] t.f16 t.d16
 q17:Dfn K mg "changed" zfn lv t.f17 t.d17
 q18:Dfn K mg "keeps" zka lJ t.f18 t.d18
 q19:DfnD K mg "betterings" zbx ly [Value.none] t.f19 t.d19
 q20:Dfn K mg "all_betterings" uN lu t.f20 t.d20
 q21:Dfn K mg "many_into" zcv [A1] t.f21 t.d21
 q22:Dfn K mg "ring_among" zby lL t.f22 t.d22
 q23:Dfn K mg "ring_or_worths" uO lu t.f23 t.d23
 q24:Dfn K mg "_law_steps" zbw lw t.f24 t.d24
 q25:Dfn K mg "_law_is_whole" zad lK t.f25 t.d25
 q26:Dfn K mg "_law_ring_right" um ll t.f26 t.d26
 q27:Dfn K mg "_law_worths_right" xN lj t.f27 t.d27
 q28:Dfn K mg "law" zsG lh t.f28 t.d28
 b_sorted:mg "sorted" = none
 b_set:mg "set" = none
 b_list:mg "list" = none
 b_tuple:mg "tuple" = none
 b_range:mg "range" = none
 b_enumerate:mg "enumerate" = none
 b_len:mg "len" = none
 b_all:mg "all" = none
 b_dict:mg "dict" = none
 b_isinstance:mg "isinstance" = none
 b_int:mg "int" = none
 b_max:mg "max" = none
 b_abs:mg "abs" = none
 b_zip:mg "zip" = none
 b_bool:mg "bool" = none
section
variable {P:Aa}{w:Ab}{K:AH}{mg:AI}{base:Heap}{t:Ad}
def zgc (T:Txt K mg t):FnOk P w K mg base CX0 1 t.f0 t.d0 lh (zmk K):=by
 show T.q0.F.okQ zgn (λvs H Q E h=>?_) (λU A I s H vs Q E hr h=>?_);obtain⟨a,ns,rfl,_⟩:=h;rfl;obtain⟨a,ns,rfl,Y,Z,k⟩:=h;show⟨_,(uC (zbt (zpj (zd7 xL (zd5 zki (qv 0) zjV (zjW yu)) (zd7 xL yu (zd7 xL yu zpu))) rfl rfl (by simp) (by ext)))),?_⟩;intro p J;show⟨_,rfl,_,rfl,a,_,rfl,(y3.upd J).seq Y,λc B=>?_⟩;have q:p≠c:=λe=>by subst e;rw[zj] at B;cases B
 have L:H c=none:=by rw[zd (Ne.symm q)] at B;exact B
 show⟨by rw[zd q,zj],za7 c 0 0,rfl,(by change 3<=15;decide),?_⟩;rw[zrS]
 have O:zcK (ns.map V.int) none (some 63)=ns.map V.int:=by
  unfold zcK;rw[HT.sIx_none]
  have ad:HT.sIx (ns.map V.int).length (ns.map V.int).length (some 63)=(ns.map V.int).length:=by
   have:=HT.sIx_nat (ns.map V.int).length (ns.map V.int).length 63;right
  grind
 show k p c _ ⟨⟨0,0,zj,by lia,by lia,by lia⟩,?_,Z⟩ ?_;rw[zd (Ne.symm q),zj];grind;intro b o e;rw[zd (zc e J),zd (zc e L),zd (zc e J)];exact e
def zbq (T:Txt K mg t):FnOk P w K mg base CX0 1 t.f1 t.d1 lc zkg:=by
 show T.q1.F.okQ ym (λvs H Q E h=>?_) (λa2 A as s H vs Q E hr h=>?_);obtain⟨p,c,ns,n,yh,rfl,_⟩:=h;rfl
 ·obtain⟨p,c,ns,n,yh,rfl,hP,hn,h1,h2,k⟩:=h;have L:=xc hr;obtain⟨⟨a,l,U,Y,ad,ag⟩,hc,O⟩:=id hP;have Z:c≠p:=zlE hc U (by intro z;cases z)
  show⟨_,(yb (zl6 (zcm zlK (x6 L (qv 0) xL (λ_ _=>rfl)) yu (zA _)) (yb (xW (i:=2) ym.nd rfl (Or.inl rfl) (yW za0 (x6 L (qv 0) xL (λ_ _=>rfl)) (qv 1)))
   (yb (zd8 L (qv 0) xL (yW zd0 (x6 L (qv 0) xL (λ_ _=>rfl)) (qv 1)) rfl)
   (uC (zbt (qv 2))))) zd9)
   (yb (xW (i:=3) ym.nd rfl (Or.inl rfl) (x6 L (qv 0) xL (λ_ _=>rfl)))
   (yb (zd8 L (qv 0) xL (yW yS (qv 3) yu) rfl)
   (yb (xW (i:=4) ym.nd rfl (Or.inl rfl) (yW yS (yW zch yu (qv 3)) yu))
   (yb (zl6 (zcm zlK (y0 yQ (by rfl) T.b_len aX (zG (x6 L (qv 0) xL (λ_ _=>rfl)) yk)) yu (zA _)) (uC (xW (i:=4) ym.nd rfl (Or.inl rfl) (zpk x9 (x6 L (qv 0) xL (λ_ _=>rfl)) (yW za0 (qv 3) (y0 yQ (by rfl) T.b_len aX (zG (x6 L (qv 0) xL (λ_ _=>rfl)) yk))) (λ_ _=>rfl)))) zd9)
   (yb (zl6 (QW.pt (znc (zcm zgf (qv 3) (y0 yQ (by rfl) T.b_len aX (zG (x6 L (qv 0) xL (λ_ _=>rfl)) yk)) (zA _)) (zjY (zcm zu2 (y0 zii (by rfl) T.b_abs dX (zG (qv 4) yk)) (yW zjN yu yu) (zA _))))) (yb (zd8 L (qv 0) xL (yW zd0 (y0 zii (by rfl) T.b_abs dX (zG (qv 4) yk)) (qv 1)) rfl)
   (uC (zbt (yW za0 (y0 zii (by rfl) T.b_abs dX (zG (qv 4) yk)) (qv 1))))) zd9)
   (yb (xW (i:=5) ym.nd rfl (Or.inl rfl) (yW yS (yW yS (yW zch (yW yS (yW za0 (qv 4) yu) yu) (yW yS (yW zch yu (qv 3)) yu)) (yW zch (yW zch yu (qv 3)) (qv 3))) (yW zch yu (qv 3))))
   (yb (xW (i:=5) ym.nd rfl (Or.inl rfl) (yW za0 (yW zjN (qv 5) yu) yu))
   (yb (xW (i:=5) ym.nd rfl (Or.inl rfl) (yW za0 (yW zjN (yW yS (yW yS (qv 5) (yW zch yu (qv 3))) yu) yu) yu))
   (uC (zbt (yW za0 (yW zd0 (qv 5) yu) (qv 1))))))))))))),?_⟩
  show⟨_,rfl,p,_,rfl,zjQ U,_,_,rfl,rfl,_,rfl,ztx (λhl=>?_) (λhl=>?_)⟩;have a3:0<l:=bz hl;show⟨_,rfl,p,_,rfl,zjQ U,_,rfl,_,_,rfl,rfl,(by lia),?_⟩;show⟨_,rfl,p,_,rfl,zjQ U,_,rfl,_,_,rfl,rfl,⟨by lia,h2⟩,_,rfl,p,_,rfl,zna U _,?_⟩;show⟨_,rfl,k _ _ (cI _ (by lia)) (b8 _ (by lia)) ⟨⟨a,_,zj,Y,by lia,Int.ediv_nonneg ag (by lia)⟩,by rw[zd Z];exact hc,O⟩ (zeh U)⟩
  ·show⟨_,rfl,p,_,rfl,zrR U,?_⟩;show⟨_,rfl,_,_,rfl,rfl,_,rfl,p,_,rfl,zrV U _,?_⟩;have I:upd H p (.dK (za7 c (a+1) l)) p=some (.dK (za7 c (a+1) l)):=zj;have J:upd H p (.dK (za7 c (a+1) l)) c=some (.lst (ns.map V.int)):=by rw[zd Z];exact hc
   generalize av:upd H p (.dK (za7 c (a+1) l))=H1 at I J ⊢;have al:zu H H1:=av ▸ zeh U;show⟨_,rfl,_,_,rfl,rfl,.inl ⟨by lia,by lia⟩,_,_,rfl,rfl,?_⟩;refine' meet (α:=Int) _ (λzQ=>?_) ?_;rotate_left
   
   show⟨_,rfl,p,_,rfl,zg7 I,_,_,rfl,.inl ⟨_,.of J,rfl⟩,_,_,rfl,rfl,_,rfl,ztx (λhz=>?_) (λhz=>?_)⟩;have an:0<((ns.map V.int).length:Int):=bz hz;obtain⟨B,ap⟩:=zqm ns a an;show⟨_,rfl,p,_,rfl,zg7 I,_,rfl,_,rfl,p,_,rfl,zg7 I,_,_,rfl,.inl ⟨_,.of J,rfl⟩,_,_,rfl,rfl,an,c,_,_,_,rfl,rfl,.of J,ap,?_⟩;exact zQ B;exact zQ (31 * a+7)
   ·intro B;have a4:∀ {q:Addr},H1 q=none->p≠q:=λhq=>zc I hq;refine' zuS _ (λzQ=>?_) ?_;rotate_left
    ·show⟨_,rfl,_,rfl,p,_,rfl,zg7 I,_,_,rfl,.inl ⟨_,.of J,rfl⟩,_,_,rfl,rfl,_,rfl,ztx (λh3=>?_) (λh3=>?_)⟩;rotate_left;show iteF ?_;exact zQ;show⟨_,rfl,_,rfl,_,_,rfl,rfl,⟨by ext,by ext,by ext⟩,_,_,rfl,rfl,_,rfl,ztx (λh4=>?_) (λh4=>?_)⟩;rotate_left;exact zQ;have ha:0<=(if B<0 then -B else B):=by split <;> lia
     show⟨_,rfl,_,rfl,_,rfl,_,_,rfl,rfl,⟨by lia,h2⟩,_,rfl,p,_,rfl,zna I _,?_⟩;show⟨_,rfl,_,rfl,_,rfl,_,_,rfl,rfl,by grind,k _ _ (cI _ (by lia)) (b8 _ (by lia)) ⟨⟨a+1,_,zj,by lia,by lia,Int.ediv_nonneg ha (by lia)⟩,by rw[zd Z];exact J,O⟩ (al.trans (zeh I))⟩
    obtain⟨a5,a7⟩:=zml Y ad hn;have a0:=cI B (show (2147483549:Int)≠0 by ext);have a1:=b8 B (show (0:Int)<2147483549 by ext);obtain⟨bb,bd⟩:=zjx Y ad hn a0 a1;show⟨_,rfl,_,_,rfl,rfl,(by lia),_,_,rfl,rfl,_,rfl,_,_,rfl,rfl,.inl ⟨by ext,by ext⟩,_,_,rfl,rfl,_,_,rfl,rfl,.inr ⟨by lia,by lia⟩,_,rfl,_,_,rfl,rfl,.inl ⟨by ext,by ext⟩,_,rfl,_,_,rfl,rfl,.inr ⟨by lia,by lia⟩,_,_,rfl,rfl,_,rfl,_,_,rfl,rfl,.inl ⟨by ext,by ext⟩,_,_,rfl,rfl,_,rfl,_,_,rfl,rfl,⟨by ext,by ext,?_⟩,_,_,rfl,rfl,by grind,?_⟩;grind;generalize bk:(((B % 2147483549+70009) * (2 * a+1)+6133 * a * a+577 * a) ^ (5:Int).toNat:Int)=w1;have w0:=cI w1 (show (2147483647:Int)≠0 by ext);have w2:=b8 w1 (show (0:Int)<2147483647 by ext);show⟨_,rfl,_,rfl,_,_,rfl,rfl,.inl ⟨by ext,by ext⟩,_,_,rfl,rfl,_,_,rfl,rfl,_,_,rfl,rfl,⟨by ext,by ext,?_⟩,_,_,rfl,rfl,by grind,?_⟩;change (w1 % 2147483647+5 * a+1).natAbs<2 ^ 64;lia;show⟨_,rfl,_,_,rfl,rfl,⟨by ext,by ext⟩,_,rfl,_,_,rfl,rfl,(by lia),?_⟩;exact k _ _ (cI _ (by lia)) (b8 _ (by lia)) ⟨⟨a+1,l,I,by lia,by lia,ag⟩,J,O⟩ al
def zR (T:Txt K mg t):FnOk P w K mg base CX0 1 t.f1 t.d1 lc (spV 2 false zhW):=FnOk.lift (FnOk.mono (zbq T) (by ext)) zjk
def zfb (T:Txt K mg t):FnOk P w K mg base CX0 2 t.f2 t.d2 lq zno:=by
 have G1:FnOk P w K mg base CX0 1 t.f1 t.d1 lc zkg:=zbq T;show T.q2.F.okQ zbz (λvs H Q E h=>?_) (λap A ad s H vs Q E hr h=>?_);obtain⟨p,c,a,ns,n,xs,rfl,_⟩:=h;rfl;obtain⟨p,c,a,ns,n,xs,rfl,hP,hn,hx,ha,k⟩:=h
 show⟨_,(yb (xW (i:=2) zbz.nd rfl (Or.inr rfl) (zaa zbU (by rfl) T.b_list cT (zG (qv 1) yk)))
  (uC (zbt (zha (N:=lD) (cix:=[none,some 2,some 0]) rfl (by walk_at "c") (zd6 (qv 1)) (λ_ _ _ _=>(zck (i:=0) (show (lD:AM).Nodup by decide +kernel) rfl (Or.inl rfl))) (λ_ _ _ _=>zea) (λ_ _ _ _=>(zpl K rfl (qv 1) (zG (zl2 T.q1 G1 hr (zG (qv 2) (zG (y0 (znJ K rfl) (by rfl) T.b_len aX (zG (qv 1) yk)) yk))) yk))))))),?_⟩
 show⟨_,rfl,a,xs,rfl,.inl (.of ha),λb H1 U Y S1=>?_⟩;show⟨_,rfl,a,rfl,⟨_,.of (S1 _ _ ha)⟩,λacc q=>?_⟩;have P1:=hP.same S1;have ag:c≠acc:=zc P1.ls q;have I:b≠acc:=zc Y q;have al:c≠b:=zc hP.ls U
 show zif (xs:=xs) q (λi J H'=>(∃v,J=[v,some (.ref b),some (.ref p)])/\∃ys zs:AT,H' acc=some (.lst ys)/\H' b=some (.lst zs)/\(ys++zs).Perm xs/\ys.length=i/\Pen H' p c ns (n+i)/\zu H H')
  (λH' z1 z2=>⟨⟨_,rfl⟩,[],xs,z1,z2 _ _ Y,.refl _,rfl,P1.same z2,zu.same (S1.trans z2)⟩) (λ_ _ _ _ ⟨_,_,_,_,_,_,_,_,S⟩=>.of (S.lst ha)) ?_ ?_
 rintro i y J H' an ⟨⟨v,rfl⟩,ys,zs,L,hb,O,hi,P',S'⟩;have as:=(ac.mp an).1;have hz:=O.length_eq;rw[aD,hi] at hz;show zmG ⟨_,rfl,.inl ⟨rfl,_,SqL.of hb⟩,_,rfl,_,rfl,_,_,rfl,.inl ⟨_,.of hb,rfl⟩,p,c,ns,n+i,(zs.length:Int),rfl,P',by lia,by lia,by lia,λr H2 r0 r1 P2 S2=>?_⟩;have hk:r.toNat<zs.length:=by lia
 have Z:=S2.lst hb;have B:=S2.lst L;show⟨b,zs,r,r.toNat,zs[r.toNat],rfl,rfl,Z,by lia,by lia,L3.znm r0 r1,ah hk,ys,by rw[zd (Ne.symm I)];exact B,aM (by lia:ys.length<=100000) (by ext),⟨_,rfl⟩,ys++[zs[r.toNat]],zs.eraseIdx r.toNat,zj,by rw[zd I];exact zj,L3.zhx hk O,by right,(P2.app Z al).app (by rw[zd (Ne.symm I)];exact B) ag,?_⟩;have Sa:zu H (upd H2 b (.lst (zs.eraseIdx r.toNat))):=zhh U (S'.trans S2);exact zhh (S1.free q) Sa;rintro J H' ⟨⟨v,rfl⟩,ys,zs,L,hb,O,hi,P',S'⟩;have hz:=O.length_eq;rw[aD,hi] at hz;have:zs=[]:=bi (by lia);subst this;rw[eo] at O;exact k acc ys H' (S1.free q) L O P' S'
def uB (T:Txt K mg t):FnOk P w K mg base CX0 2 t.f2 t.d2 lq (spV 2 true zh0):=FnOk.lift (FnOk.mono (zfb T) (by ext)) zjl
def zkJ  : FV:=λPn B n R=>∃ (p:Addr) (q:Int),B=[.pen p,.d (.int q)]/\(IsP Pn p)/\(n+30<=1000000)/\(4<=q)/\(q<=256)/\(∀rm m,RoomOk rm->yg rm<=q->m<=n+20->R (.d (stD rm)) m)
def zkJ.i{q:Int}(B:IsP Pn p)(F:4<=q)(I:q<=256)(h:∀rm m,RoomOk rm->yg rm<=q->m<=n+20->R (.d (stD rm)) m)(J:n+30<=1000000:=by lia):zkJ Pn [.pen p,.d (.int q)] n R:=⟨p,q,rfl,B,J,F,I,h⟩
def zdV (T:Txt K mg t):FnOk P w K mg base CX0 2 t.f3 t.d3 lB (spV 2 false zkJ):=by
 have G1:=zR (P:=P) (w:=w) (base:=base) T
 show Fun.okW (k:=1) (fr:=false) [4] 5 T.q3.F yn rfl (by ext) rfl λa5 A an s H E Pn O=>⟨_,(zb (wS zp <| zD (i:=2) yn.nd (wE zr <| yX T.q1 G1 O (za (kv 0) (za zq zg))))
   (zb (wS zp <| zjb (i:=3) (zbL (ix:=3) yn.nd rfl rfl (N:=[Ax,Ai]) (cix:=[none,some 0]) rfl (by walk_at "c") (wI xG <| yR rfl T.b_range (zl (JE.bo (zaB yS zbl (JE.bo zq) (JE.bo (wE zr <| yX T.q1 G1 O (za (kv 0) (za zq zg)))))) zo)) (λ_ _ _ _=>(wG zB <| zi (i:=0) (show ([Ax,Ai]:AM).Nodup by decide +kernel))) (λ_ _ _ _=>yx) (λ_ _ _ _=>(zaB yS zbl (JE.bo zq) (JE.bo (wE zr <| yX T.q1 G1 O (za (kv 1) (za zq zg))))))))
   (zb (wS zC <| yI (wT zm <| zz xP zcG (kb 2) (JE.bo zq) (zA _)) (zf (wS zp <| zD (i:=3) yn.nd (zah x9 zem (JE.bo (uR (za (uR (za zq zg)) (za (zaB zm7 zns (JE.bo (uR (za zq zg))) (JE.bo zq)) (za (zaB zm7 zns (JE.bo (uR (za zq zg))) (JE.bo zq)) zg))))) (JE.bo (wE zr <| yX T.q1 G1 O (za (kv 0) (za zq zg)))) (λ_ _=>rfl)))) zF)
   (zb (wS yf <| xj (i:=4) yn.nd (uR zg))
   (zb (wS zp <| zD (i:=5) yn.nd (kv 1))
   (zb (yr aH rfl (wI yz <| yw K rfl (kv 3)) (wG zB <| zi (i:=6) yn.nd) (zf (wS zC <| yI (wT zm <| zz zrE u_le (kb 6) (kb 5) (zA _)) (zb (wS uY <| zbm 4 (kv 6))
   (zf (wS zp <| zD (i:=5) yn.nd (zaB zd0 zsY (kb 5) (kb 6))))) zF)))
   (zf (zN (xy xh zcC (by rfl) T.b_tuple bV (zl (kb 4) zo)))))))))),λU n R hF=>?_⟩
 obtain⟨p,q,rfl,hP,hn,m1,m2,r⟩:=hF;left;show dc hP λap w0 w1=>?_;left;show dc hP λt t0 t1=>?_;left;show⟨⟨by lia,by lia⟩,?_⟩;rw[zan];show zgB (List.range (1+t).toNat) (λk:Nat=>W.d (.int (k:Int))) rfl (by rw[az];exact aw (by lia:_<=100) (by ext)) (λi Z n' acc=>n'=n+2+i/\i<=6/\∃ (v:Option W) (U:AG),Z=[v,some (.pen p)]/\acc=U.map Dt.int/\(∀r∈U,2<=r/\r<=4)/\U.length=i) ⟨by lia,by lia,none,[],rfl,rfl,by simp,rfl⟩ ?_ ?_;rintro i k Z n' acc hk ⟨rfl,hi,v,U,rfl,rfl,hb,hl⟩ C hC;have as:=(ac.mp hk).1;rw[az] at as;left;show dc hP λx x0 x1=>?_
 exact hC ⟨by lia,by lia,_,U++[2+x],rfl,by simp,λr O=>by
  rcases aG.mp O with z | z;exact hb r z;rw[ax.mp z];lia,by right⟩
 rintro Z n' acc ⟨rfl,hi,v,U,rfl,rfl,hb,hl⟩;rw[az] at hi hl;rw[az];left;refine' zjw (λ(zs:AG) (n1:Nat)=>(∀r∈zs,2<=r/\r<=4)/\zs≠[]/\n1<=n+12) _ (λzQ=>?_) ?_;rotate_left;show xm (λ_=>?_) (λ_=>?_);left;show⟨⟨by ext,by ext,by ext⟩,?_⟩;left;show⟨⟨by ext,by ext,by ext⟩,?_⟩;left;show dc hP λx x0 x1=>?_;left;show zrr x0 x1 λy hy=>?_
 obtain⟨zs,rfl,hz,av⟩:∃zs:AG,y=lsD zs/\(∀r∈zs,2<=r/\r<=4)/\zs≠[]:=by
  simp only[aE,bM,or_false] at hy;rcases hy with rfl | rfl | rfl;exact⟨[4],rfl,by ext,by ext⟩;exact⟨[2,2,2,2,2,2,2,2],rfl,by ext,by ext⟩;exact⟨[4,4,4,4],rfl,by ext,by ext⟩
 left;generalize hk:n+2+(1+t).toNat+1=n1;exact zQ zs n1 ⟨hz,av,by lia⟩;left;generalize hk:n+2+(1+t).toNat=n1;exact zQ U n1 ⟨hb,by grind,by lia⟩;rintro U n1 ⟨hb,a0,a7⟩;show zL U (λi=>.d (.int i)) (by simp) (λi ρ m=>m=n1/\∃ (J:AG) (L:Int) (v6:Option W),ρ=[some (.pen p),some (.d (.int q)),some (.d (.int ap)),some (.d (lsD U)),some (.d (lsD J)),some (.d (.int L)),v6]/\(∀r∈J,2<=r/\r<=4)/\yg J * L<=q/\1<=L/\L<=q/\(i=0->L=q)/\(1<=i->J≠[])) ⟨rfl,[],q,_,rfl,by simp,by change 1 * q<=q;lia,by lia,by lia,λ_=>rfl,by lia⟩ ?_ ?_;rintro i a ρ m ha ⟨rfl,J,L,v6,rfl,I,hp,Y,ag,al,ad⟩ C B E hC _ _;have a1:=hb a (ak ha);have a2:=u9 (ns:=J) λr O=>by have:=I r O;lia
 have h8:J.length<=8:=zbs I (by have:yg J * 1<=yg J * L:=cS Y (by lia);lia);left;show xm (λh=>?_) (λh=>?_);obtain⟨q1,q2,q3⟩:=zj8 I a1 hp h;left;show⟨by rw[ab];exact aM h8 (by ext),?_⟩;left;show⟨⟨by lia,by lia⟩,hC ⟨rfl,J++[a],L / a,some (.d (.int a)),?_,?_,q1,q2,by lia,by lia,λ_=>by simp⟩⟩;right;intro r O;rcases aG.mp O with z | z;exact I r z;right;left
 exact hC ⟨rfl,J,L,_,rfl,I,hp,Y,ag,λz=>by lia,λ_=>by
  by_cases h0:i=0;have:=al h0;lia;exact ad (by lia)⟩
 rintro ρ m ⟨rfl,J,L,v6,rfl,I,hp,Y,ag,al,ad⟩;have a2:=u9 (ns:=J) λr O=>by have:=I r O;lia
 have a3:yg J<=q:=by have:yg J * 1<=yg J * L:=cS Y (by lia);lia
 have a4:0<U.length:=eI.mpr a0;left;exact r J _ ⟨ad (by lia),zbs I (by lia),I⟩ a3 (by lia)
def zbR  : FV:=λPn q n R=>∃ (rm:AG),q=[.d (stD rm)]/\(RoomOk rm)/\(R (.d (xf (yj (rm.map zk)))) n)
def zbR.i{rm:AG}(q:RoomOk rm)(h:R (.d (xf (yj (rm.map zk)))) n)  : zbR Pn [.d (stD rm)] n R:=⟨rm,rfl,q,h⟩
def yC (T:Txt K mg t):FnOk P w K mg base CX0 1 t.f4 t.d4 lr (spV 1 false zbR):=by
 show Fun.okW (k:=0) (fr:=false) [3] 4 T.q4.F zU rfl (by ext) rfl λal A U s H E Pn hr=>⟨_,(zb (wS zp <| zD (i:=1) zU.nd (uR (za (xq zg) zg)))
   (zb (yr aH rfl (wI uy <| zaN K rfl (kv 0)) (wG zB <| zi (i:=2) zU.nd) (zb (wS yf <| xj (i:=3) zU.nd (uR zg))
   (zb (yr aH rfl (wI yz <| yw K rfl (kv 1)) (wG zB <| zi (i:=4) zU.nd) (zf (wS zf8 <| zja 3 (xw (N:=lx) (cix:=[none,some 4]) rfl (by walk_at "c") (wI xG <| yR rfl T.b_range (zl (kb 2) zo)) (λ_ _ _ _=>(wG zB <| zi (i:=0) (show (lx:AM).Nodup by decide +kernel))) (λ_ _ _ _=>yx) (λ_ _ _ _=>(zaB xK zax (kb 1) (JE.bo (xq (za (kv 0) zg)))))))))
   (zf (wS zdR <| zf3 (i:=1) 3 zU.nd rfl (Or.inl rfl))))))
   (zf (zN (kv 1))))),λws n R hF=>?_⟩
 obtain⟨rm,rfl,Y,r⟩:=hF;left;have h8:=Y.few;show zL rm (λi=>.d (.int i)) (by simp) (λi ρ m=>m=n/\∃ (Z v3 L:Option W),ρ=[some (.d (stD rm)),some (.d (xf (yj ((rm.take i).map zk)))),Z,v3,L]) ⟨rfl,_,_,_,rfl⟩ ?_ ?_;rintro i a ρ m ha ⟨rfl,Z,v3,L,rfl⟩ C B E hC _ _;have hm:=Y.box a (ak ha);have O:=zdm h8 Y.box i;have J:∀st∈yj ((rm.take i).map zk),st.length<=8:=λst ad=>by rw[zdl _ _ ad,ab,aN];lia
 have q:xC (yj ((rm.take i).map zk)) (zk a)=yj ((rm.take (i+1)).map zk):=by rw[zh ha,aF,aB,dS,yY]
 generalize yj ((rm.take i).map zk)=rows at O J q;left;show zL rows (λst=>.d (stD st)) (by simp) (λj ρ m'=>m'=m/\∃L,ρ=[some (.d (stD rm)),some (.d (xf rows)),some (.d (.int a)),some (.d (xf (xC (rows.take j) (zk a)))),L]) ⟨rfl,_,rfl⟩ ?_ ?_;rintro j I ρ m' hj ⟨rfl,L,rfl⟩ C' B' E' ag _ _;have an:=J I (ak hj);have ap:=(ac.mp hj).1;left;show⟨⟨by lia,by lia⟩,?_⟩;rw[zan];show uI (List.range a.toNat) (λk:Nat=>W.d (.int (k:Int))) rfl (λρ=>∃v,ρ=[v,some (.d (stD I))]) (λk:Nat=>stD (I++[(k:Int)])) (by rw[az];exact aw (by lia:_<=4) (by ext)) ⟨_,rfl⟩ ?_ ?_;rintro k hk as ⟨v,rfl⟩ D hD;left;show⟨len1 (by lia),?_⟩;rw[cat1];exact hD ⟨_,rfl⟩;have e:(List.range a.toNat).map (λk:Nat=>stD (I++[(k:Int)]))=((zk a).map λw=>I++[w]).map stD:=by unfold zk;rw[ay,ay];rfl
 rw[e];have hl:(xC (rows.take j) (zk a)).length=(rows.take j).length * a.toNat:=by rw[ue,yL]
 have av:(rows.take j).length * a.toNat<=65536 * 4:=Nat.mul_le_mul (by rw[aN];lia) (by lia);show⟨?_,?_⟩;rw[ab,ab,ab,yL,hl];exact aw (by lia:_<=300000) (by ext);rw[<- aF,<- zbV,<- zh hj];exact ag ⟨rfl,_,rfl⟩;rintro ρ m' ⟨rfl,L,rfl⟩;rw[aT,q];left;exact hC ⟨rfl,_,_,_,rfl⟩;rintro ρ m ⟨rfl,Z,v3,L,rfl⟩;rw[aT];left;exact r
def zkL  : FV:=λPn B n R=>∃ (p:Addr) (q:Int),B=[.pen p,.d (.int q)]/\(IsP Pn p)/\(n+10<=1000000)/\(2<=q)/\(q<=4)/\(∀a b,0<=a->a<q->0<=b->b<q->a≠b->R (.d (.tup [.int a,.int b])) (n+2))
def zkL.i{q:Int}(B:IsP Pn p)(h2:2<=q)(F:q<=4)(h:∀a b,0<=a->a<q->0<=b->b<q->a≠b->R (.d (.tup [.int a,.int b])) (n+2))(I:n+10<=1000000:=by lia):zkL Pn [.pen p,.d (.int q)] n R:=⟨p,q,rfl,B,I,h2,F,h⟩
def zfc (T:Txt K mg t):FnOk P w K mg base CX0 2 t.f5 t.d5 lc (spV 2 false zkL):=by
 have G1:=zR (P:=P) (w:=w) (base:=base) T
 show Fun.okW (k:=1) (fr:=false) [] 1 T.q5.F zcx rfl (by ext) rfl λU A I s H E Pn L=>⟨_,(zb (wS zp <| zD (i:=2) zcx.nd (wE zr <| yX T.q1 G1 L (za (kv 0) (za (kv 1) zg))))
   (zf (zN (xq (za (kv 2) (za (zaB za0 zs2 (JE.bo (zaB yS zbl (JE.bo (zaB yS zbl (kb 2) (JE.bo zq))) (JE.bo (wE zr <| yX T.q1 G1 L (za (kv 0) (za (zaB zm8 zs4 (kb 1) (JE.bo zq)) zg)))))) (kb 1)) zg)))))),λws n R Y=>?_⟩
 obtain⟨p,q,rfl,O,hn,h2,h4,r⟩:=Y;left;show dc O λB Z w1=>?_;left;show dc O λt t0 t1=>?_;left;show⟨by lia,?_⟩;have c0:=cI (B+1+t) (show q≠0 by lia);have c1:=b8 (B+1+t) (show 0<q by lia)
 have J:(B+1+t) % q≠B:=by
  have h3:q=2\/q=3\/q=4:=by lia
  grind
 exact r _ _ Z w1 c0 c1 (Ne.symm J)
def zhZ  : FV:=λPn q n R=>∃ (p:Addr) (rm:AG),q=[.pen p,.d (stD rm)]/\(IsP Pn p)/\(n+60<=1000000)/\(RoomOk rm)/\(∀x m,WishOk rm x->m<=n+30->R (.d (z8 x)) m)
def zhZ.i{rm:AG}(q:IsP Pn p)(B:RoomOk rm)(h:∀x m,WishOk rm x->m<=n+30->R (.d (z8 x)) m)(F:n+60<=1000000:=by lia):zhZ Pn [.pen p,.d (stD rm)] n R:=⟨p,rm,rfl,q,F,B,h⟩
def zaX (T:Txt K mg t):FnOk P w K mg base CX0 3 t.f6 t.d6 la (spV 2 false zhZ):=by
 have G1:=zR (P:=P) (w:=w) (base:=base) T;have G5:=zfc (P:=P) (w:=w) (base:=base) T
 show Fun.okW (k:=2) (fr:=false) [4] 6 T.q6.F yJ rfl (by ext) rfl λas A ad s H E Pn U=>⟨_,(zb (wS zp <| zD (i:=2) yJ.nd (wE zr <| yX T.q1 G1 U (za (kv 0) (za (zO yQ zag (by rfl) T.b_len aX (zl (kb 1) zo)) zg))))
   (zb (wS zp <| zD (i:=3) yJ.nd (zaB yS zbl (JE.bo zq) (JE.bo (wE zr <| yX T.q1 G1 U (za (kv 0) (za zq zg))))))
   (zb (wS yf <| xj (i:=4) yJ.nd (uR zg))
   (zb (yr aH rfl (wI xG <| yR rfl T.b_range (zl (JE.bo (zO yQ zag (by rfl) T.b_len aX (zl (kb 1) zo))) zo)) (wG zB <| zi (i:=5) yJ.nd) (zf (wS zC <| yI (JW.t (wW ux <| zaP (wT zm <| zz zd1 zmp (kb 5) (kb 2) (zA _)) (xR (.inl rfl) (wT zm <| zz xP zcG (JE.bo (wE zr <| yX T.q1 G1 U (za (kv 0) (za (kv 3) zg)))) (JE.bo zq) (zA _))))) (zf (wS uY <| zbm 4 (xq (za (kv 5) (za (wE zr <| yX T.q1 G1 U (za (kv 0) (za (zah yo xu (kb 1) (kb 5) (λ_ _=>rfl)) zg))) zg))))) zF)))
   (zb (zmW (wE zr <| yX T.q5 G5 U (za (kv 0) (za (zah yo xu (kb 1) (kb 2) (λ_ _=>rfl)) zg))) (wG uK <| uL (n:=2) K rfl rfl (wH z7 <| zw (wG zB <| zi (i:=6) yJ.nd) (wH z7 <| zw (wG zB <| zi (i:=7) yJ.nd) (wH uJ xt)))))
   (zf (zN (xq (za (xy xh zcC (by rfl) T.b_tuple bV (zl (kb 4) zo)) (za (kv 2) (za (kv 6) (za (kv 7) zg)))))))))))),λws n R hF=>?_⟩
 obtain⟨p,rm,rfl,Y,hn,hR,r⟩:=hF;left;have h8:=hR.few;have ap:=hR.pos;rw[ab];show dc Y λI b0 b1=>?_;have hm:=xM hR.box b0 b1;left;show dc Y λsh s0 s1=>?_;left;rw[ab];show⟨⟨by lia,by lia⟩,zeQ (λi ρ m=>m<=n+2+2 * i/\i<=rm.length/\∃g O,ρ=[some (.pen p),some (.d (stD rm)),some (.d (.int I)),some (.d (.int (2+sh))),some (.d (.lst (g.map x4))),O,none,none]/\Giv rm g/\(∀q∈g,q.1≠I)/\(∀q∈g,q.1<(i:Int))/\g.length<=i) ⟨by lia,aK _,[],_,rfl,⟨by simp,.nil⟩,by simp,by simp,aK _⟩ ?_ ?_⟩;rintro i ρ m hi ⟨ag,al,g,O,rfl,hG,J,L,an⟩ C B E hC _ _;have av:=xM hR.box (b:=(i:Int)) (by lia) (by lia);have Z:∀m',m'<=m+1->∀O,C [some (.pen p),some (.d (stD rm)),some (.d (.int I)),some (.d (.int (2+sh))),some (.d (.lst (g.map x4))),O,none,none] m':=λm' a2 O=>hC ⟨by lia,by lia,g,_,rfl,hG,J,λq hq=>by have:=L q hq;lia,by lia⟩;left;show zhK (λhb=>?_) (λ_=>⟨Z _ (by lia) _⟩);left;show dc Y λt t0 t1=>?_;left;show xm (λ_=>?_) (λ_=>⟨Z _ (by lia) _⟩);left;show onA (by lia) (by lia) ?_;left;show dc Y λu u0 u1=>?_;left;show⟨by rw[ab];exact aM (by lia:_<=8) (by ext),hC ⟨by lia,by lia,g++[((i:Int),u)],_,by rw[aF];rfl,hG.snoc L (by lia) (by lia) u0 u1,λq hq=>?_,λq hq=>?_,by rw[aD];simp;lia⟩⟩;rcases aG.mp hq with z | z;exact J q z;rw[ax.mp z];exact hb;rcases aG.mp hq with z | z;have:=L q z;lia;rw[ax.mp z];change (i:Int)<((i+1:Nat):Int);lia;rintro ρ m ⟨ag,al,g,O,rfl,hG,J,L,an⟩;left;show onA b0 b1 ?_;left;show zkL.i Y hm.1 hm.2 λa b a0 a1 c0 c1 ne=>?_;left;exact r ⟨g,I,a,b⟩ _ ⟨hG,b0,b1,J,a0,a1,c0,c1,ne⟩ (by lia)
def zkI  : FV:=λPn F n R=>∃ (rm B:AG),F=[.d (stD rm),.d (lsD B)]/\(RoomOk rm)/\(B.Nodup)/\(∀b∈B,0<=b/\b<rm.length)/\(B.length<=2)/\(∀gs:List (List (Int×Int)),(∀g∈gs,Giv rm g/\∀q∈g,q.1∈B)->gs.length<=16->R (.d (.lst (gs.map zet))) n)
def zkI.i{rm B:AG}(F:RoomOk rm)(I:B.Nodup)(J:∀b∈B,0<=b/\b<rm.length)(h2:B.length<=2)(h:∀gs:List (List (Int×Int)),(∀g∈gs,Giv rm g/\∀q∈g,q.1∈B)->gs.length<=16->R (.d (.lst (gs.map zet))) n)  : zkI Pn [.d (stD rm),.d (lsD B)] n R:=⟨rm,B,rfl,F,I,J,h2,h⟩
def zbg (T:Txt K mg t):FnOk P w K mg base CX0 1 t.f7 t.d7 lz (spV 2 false zkI):=by
 show Fun.okW (k:=0) (fr:=false) [4] 4 T.q7.F z9 rfl (by ext) rfl λa2 A al s H E Pn hr=>⟨_,(zb (wS zp <| zD (i:=2) z9.nd (uR (za (xq zg) zg)))
   (zb (yr aH rfl (wI yz <| yw K rfl (zO zkU zp3 (by rfl) T.b_sorted dy (zl (kb 1) zo))) (wG zB <| zi (i:=3) z9.nd) (zb (wS yf <| xj (i:=4) z9.nd (uR zg))
   (zb (yr aH rfl (wI yz <| yw K rfl (kv 2)) (wG zB <| zi (i:=5) z9.nd) (zf (wS zf8 <| zja 4 (xw (N:=lE) (cix:=[none,some 5,some 3]) rfl (by walk_at "c") (wI xG <| yR rfl T.b_range (zl (JE.bo (zah yo xu (kb 0) (kb 3) (λ_ _=>rfl))) zo)) (λ_ _ _ _=>(wG zB <| zi (i:=0) (show (lE:AM).Nodup by decide +kernel))) (λ_ _ _ _=>yx) (λ_ _ _ _=>(zaB xK zax (kb 1) (JE.bo (xq (za (xq (za (kv 2) (za (kv 0) zg))) zg)))))))))
   (zf (wS zdR <| zf3 (i:=2) 4 z9.nd rfl (Or.inl rfl))))))
   (zf (zN (kv 2))))),λws n R hF=>?_⟩
 obtain⟨rm,bs,rfl,hR,hN,hb,h2,r⟩:=hF;left;have h8:=hR.few;show⟨bs,rfl,by lia,λcs hp hs=>?_⟩;have an:cs.Nodup:=hp.nodup_iff.mpr hN;have ap:cs.Pairwise (· < ·):=(hs.and an).imp λ{a b} ⟨h1,h2⟩=>by lia
 have ad:∀c∈cs,c∈bs:=λc hc=>hp.mem_iff.mp hc;have a3:=hp.length_eq;left;show zL cs (λi=>.d (.int i)) (by simp) (λi ρ m=>m=n/\∃ (gs:List (List (Int×Int))) (v3 v4 U:Option W),ρ=[some (.d (stD rm)),some (.d (lsD bs)),some (.d (.lst (gs.map zet))),v3,v4,U]/\(∀g∈gs,Giv rm g/\∀q∈g,q.1∈cs.take i)/\gs.length<=4 ^ i) ⟨rfl,[[]],_,_,_,rfl,λg Y=>?_,by ext⟩ ?_ ?_;rw[ax.mp Y];exact⟨⟨by simp,.nil⟩,by simp⟩;rintro i c ρ m hc ⟨rfl,gs,v3,v4,U,rfl,J,as⟩ C B E hC _ _;have I:=hb c (ad c (ak hc));have a4:=xM hR.box I.1 I.2;have hi:=(ac.mp hc).1;have av:4 ^ i<=4:=cE (by ext) (by lia:i<=1)
 have ag:∀x∈cs.take i,x<c:=λx hx=>by
  obtain⟨j,hj,rfl⟩:=bB.mp hx;rw[aN] at hj;have:=b7.mp ap j i (by lia) hi (by lia);rw[(ac.mp hc).2] at this;right
 left;show zL gs (λg=>.d (zet g)) (by simp) (λj ρ m'=>m'=m/\∃ (lg:List (List (Int×Int))) (U:Option W),ρ=[some (.d (stD rm)),some (.d (lsD bs)),some (.d (.lst (gs.map zet))),some (.d (.int c)),some (.d (.lst (lg.map zet))),U]/\(∀g∈lg,Giv rm g/\∀q∈g,q.1∈cs.take (i+1))/\lg.length<=j * 4) ⟨rfl,[],_,rfl,by simp,by simp⟩ ?_ ?_;rintro j g ρ m' Y ⟨rfl,lg,U,rfl,Z,a0⟩ C' B' E' a1 _ _;have L:=J g (ak Y);have a5:=ziL L.1 h8;have hj:=(ac.mp Y).1;left;show onA I.1 I.2 ?_;left;show⟨⟨by lia,by lia⟩,?_⟩;rw[zan];show uI (List.range (yh rm c).toNat) (λk:Nat=>W.d (.int (k:Int))) rfl (λρ=>∃v,ρ=[v,some (.d (zet g)),some (.d (.int c))]) (λk:Nat=>zet (g++[(c,(k:Int))])) (by rw[az];exact aw (by lia:_<=4) (by ext)) ⟨_,rfl⟩ ?_ ?_;rintro k hk a7 ⟨v,rfl⟩ D hD;left;show⟨by rw[ab];exact aw (by simp;lia:_<=101) (by ext),?_⟩;rw[show g.map x4++[Dt.tup [Dt.int c,Dt.int (k:Int)]]=(g++[(c,(k:Int))]).map x4 by simp];exact hD ⟨_,rfl⟩;have e:(List.range (yh rm c).toNat).map (λk:Nat=>zet (g++[(c,(k:Int))]))=((List.range (yh rm c).toNat).map λk:Nat=>g++[(c,(k:Int))]).map zet:=by rw[ay];rfl
 rw[e];show⟨by rw[ab,ab,ab,az];exact aw (by lia:_<=100) (by ext),?_⟩;rw[<- aF];show a1 ⟨rfl,_,_,rfl,λz hz=>?_,by rw[aD,ab,az];lia⟩;rcases aG.mp hz with hz | hz;exact Z z hz;obtain⟨k,hk,rfl⟩:=aC.mp hz;have hk:=aW.mp hk;show⟨L.1.snoc (λq O=>ag _ (L.2 q O)) I.1 I.2 (by lia) (by lia),λq O=>?_⟩;rw[zh hc];rcases aG.mp O with O | O;exact bA _ (L.2 q O);right;rintro ρ m' ⟨rfl,lg,U,rfl,Z,a0⟩;left;exact hC ⟨rfl,lg,_,_,_,rfl,Z,by rw[Nat.pow_succ];lia⟩;rintro ρ m ⟨rfl,gs,v3,v4,U,rfl,J,as⟩;rw[aT] at J;have av:4 ^ cs.length<=16:=cE (by ext) (by lia:cs.length<=2);left;exact r gs (λg Y=>⟨(J g Y).1,λq O=>ad _ ((J g Y).2 q O)⟩) (by lia)
def zhU  : FV:=λPn q n R=>∃ (p:Addr) (rm:AG),q=[.pen p,.d (stD rm)]/\(IsP Pn p)/\(n+2000<=1000000)/\(RoomOk rm)/\(∀bk m,y8 rm bk->bk.length<=400->m<=n+1000->R (.d (.lst (bk.map z8))) m)
def zhU.i{rm:AG}(q:IsP Pn p)(B:RoomOk rm)(h:∀bk m,y8 rm bk->bk.length<=400->m<=n+1000->R (.d (.lst (bk.map z8))) m)(F:n+2000<=1000000:=by lia):zhU Pn [.pen p,.d (stD rm)] n R:=⟨p,rm,rfl,q,F,B,h⟩
def zbf (T:Txt K mg t):FnOk P w K mg base CX0 3 t.f8 t.d8 la (spV 2 true zhU):=by
 have G1:=zR (P:=P) (w:=w) (base:=base) T;have G2:=uB (P:=P) (w:=w) (base:=base) T;have G7:=zbg (P:=P) (w:=w) (base:=base) T
 show Fun.okW (k:=2) (fr:=true) [3] 8 T.q8.F zE rfl (by ext) rfl λca A a7 s H E Pn hr=>⟨_,(zb (wS zp <| zD (i:=2) zE.nd (wE zr <| yX T.q2 G2 hr (za (kv 0) (za (wE uz <| zaM T.b_list T.b_range (zl (JE.bo (zO yQ zag (by rfl) T.b_len aX (zl (kb 1) zo))) zo)) zg))))
   (zb (wS yf <| xj (i:=3) zE.nd (uR zg))
   (zb (yr aH rfl (wI zdP <| zdM rfl T.b_enumerate (za (kv 2) zg)) (wG uK <| uL (n:=2) K rfl rfl (wH z7 <| zw (wG zB <| zi (i:=4) zE.nd) (wH z7 <| zw (wG zB <| zi (i:=5) zE.nd) (wH uJ xt)))) (zb (wS zp <| zD (i:=6) zE.nd (wE uZ <| zeX (JE.bo (xw (N:=[Ao,Ai]) (cix:=[none,some 0]) rfl (by walk_at "c") (wI yz <| yw K rfl (wE uZ <| zeX (kb 2) yN (wO ye <| yO (kb 4)))) (λ_ _ _ _=>(wG zB <| zi (i:=0) (show ([Ao,Ai]:AM).Nodup by decide +kernel))) (λ_ _ _ _=>(zbd (wT zm <| zz xP zcG (JE.bo (wE zr <| yX T.q1 G1 hr (za (kv 1) (za zq zg)))) (JE.bo zq) (zA _)))) (λ_ _ _ _=>(kv 0)))) yN (wO ye <| yO (JE.bo zq))))
   (zf (yr aH rfl (wI yz <| yw K rfl (wE zr <| yX T.q7 G7 hr (za (kv 1) (za (kv 6) zg)))) (wG zB <| zi (i:=7) zE.nd) (zb (wS zp <| zD (i:=8) zE.nd (wE zr <| yX T.q2 G2 hr (za (kv 0) (za (wE uz <| zaM T.b_list T.b_range (zl (JE.bo (zah yo xu (kb 1) (kb 5) (λ_ _=>rfl))) zo)) zg))))
   (zf (yr aH rfl (wI xG <| yR rfl T.b_range (zl (JE.bo (zaB zm8 zs4 (JE.bo (zO yQ zag (by rfl) T.b_len aX (zl (kb 8) zo))) (JE.bo zq))) zo)) (wG zB <| zi (i:=9) zE.nd) (zf (wS uY <| zbm 3 (xq (za (kv 7) (za (kv 5) (za (zah x9 zem (kb 8) (kb 9) (λ_ _=>rfl)) (za (zah x9 zem (kb 8) (JE.bo (zaB yS zbl (kb 9) (JE.bo zq))) (λ_ _=>rfl)) zg))))))))))))))
   (zf (wS zaU <| zb6 3))))),λws n R hF=>?_⟩
 obtain⟨p,rm,rfl,hP,hn,hR,r⟩:=hF;left;have h8:=hR.few;rw[ab];show⟨⟨by lia,by lia⟩,?_⟩;left;show tc hP (λl hl=>?_) (by rw[zam];lia) (by rw[zam];lia);rw[zam];obtain⟨J,rfl,ag⟩:=zg8 hl;have av:J.Nodup:=ag.nodup_iff.mpr (zfl _);have a0:∀b∈J,0<=b/\b<rm.length:=λb hb=>by have:=zak.mp (ag.mem_iff.mp hb);lia
 have bb:=ag.length_eq;rw[yL] at bb;left;have b4:J.length<=8:=by lia
 generalize cc:n+(rm.length:Int).toNat=n1;show zL (List.range J.length) (λi=>W.d (.tup [.int (i:Int),.int (J.getD i 0)])) (znU J) (λi ρ m=>m<=n1+100 * i/\∃ (bk:AW) (v4 v5 v6 v7 v8 Y:Option W),ρ=[some (.pen p),some (.d (stD rm)),some (.d (.lst (J.map Dt.int))),some (.d (.lst (bk.map z8))),v4,v5,v6,v7,v8,Y]/\y8 rm bk/\bk.length<=48 * i) ⟨by lia,[],_,_,_,_,_,_,rfl,by intro x hx;simp at hx,by simp⟩ ?_ ?_;rintro i k ρ m bd ⟨hm,bk,v4,v5,v6,v7,v8,Y,rfl,Z,L⟩ C B E hC _ _;obtain⟨O,a1⟩:=ac.mp bd;rw[az] at O;rw[bF] at a1;subst a1;have I:=a0 _ (zb1 O);have ad:=zp0 av O;generalize J.getD i 0=box at I ad;have cd:=xM hR.box I.1 I.2;left;rw[xo,L3.zbJ];have ch:(J.take i).length<=8:=by rw[aN];lia
 show zgB (J.take i) (λx=>W.d (.int x)) (by rw[ay];rfl) (aw (by lia:_<=100) (by ext)) (λj al n' acc=>n'=m+j/\∃ (v:Option W) (ls:AG),al=[v,some (.pen p)]/\acc=ls.map Dt.int/\ls.Sublist ((J.take i).take j)) ⟨by lia,none,[],rfl,rfl,List.nil_sublist _⟩ ?_ ?_;rintro j x al n' acc hx ⟨rfl,v,ls,rfl,rfl,hs⟩ D hD;have cl:=(ac.mp hx).1;left;show dc hP (λt t0 t1=>?_) (by lia);left;show xm (λ_=>?_) (λ_=>?_);show hD ⟨by lia,_,ls++[x],rfl,by rw[aF];rfl,?_⟩;rw[zh hx];exact hs.append (List.Sublist.refl _);show hD ⟨by lia,_,ls,rfl,rfl,?_⟩;rw[zh hx];exact hs.trans (List.sublist_append_left _ _);rintro al n' acc ⟨rfl,v,ls,rfl,rfl,hs⟩;rw[aT] at hs;left;rw[xo,show (2:Int)=((2:Nat):Int) from rfl,L3.zbJ];have an:=(dJ 2 ls).trans hs;have ap:∀x∈ls.take 2,x∈J/\x≠box:=λx hx=>⟨bW (an.subset hx),λe=>ad (by rw[<- e];exact an.subset hx)⟩;have a2:(ls.take 2).Nodup:=(av.sublist (dJ _ _)).sublist an;have a3:(ls.take 2).length<=2:=by rw[aN];lia
 generalize ls.take 2=lk at ap a2 a3;generalize cn:m+(J.take i).length=n2;left;show zkI.i hR a2 (λb hb=>a0 b (ap b hb).1) a3 λgs bl co=>?_;left;show zL gs (λg=>.d (zet g)) (by rw[ay];rfl) (λj ρ m'=>m'<=n2+4 * j/\∃ (bk:AW) (v7 v8 Y:Option W),ρ=[some (.pen p),some (.d (stD rm)),some (.d (.lst (J.map Dt.int))),some (.d (.lst (bk.map z8))),some (.d (.int (i:Int))),some (.d (.int box)),some (.d (.lst (lk.map Dt.int))),v7,v8,Y]/\y8 rm bk/\bk.length<=48 * i+3 * j) ⟨by lia,bk,_,_,_,rfl,Z,by lia⟩ ?_ ?_;rintro j g ρ m' hg ⟨bx,bk,v7,v8,Y,rfl,Z,L⟩ C' B' E' b0 _ _;have a4:=bl g (ak hg);have hj:=(ac.mp hg).1;left;show onA I.1 I.2 ?_;left;show⟨⟨by lia,by lia⟩,?_⟩;left;show tc hP (λl hl=>?_) (by rw[zam];lia) (by rw[zam];lia);rw[zam];obtain⟨U,rfl,as⟩:=zg8 hl;have b1:U.Nodup:=as.nodup_iff.mpr (zfl _);have b2:=as.length_eq;rw[yL] at b2;have a5:∀x∈U,0<=x/\x<yh rm box:=λx hx=>by have:=zak.mp (as.mem_iff.mp hx);lia
 left;rw[ab];show⟨⟨by lia,by lia⟩,zeQ (λk ρ m2=>m2=m'+(yh rm box).toNat/\∃ (bk:AW) (Y:Option W),ρ=[some (.pen p),some (.d (stD rm)),some (.d (.lst (J.map Dt.int))),some (.d (.lst (bk.map z8))),some (.d (.int (i:Int))),some (.d (.int box)),some (.d (.lst (lk.map Dt.int))),some (.d (zet g)),some (.d (.lst (U.map Dt.int))),Y]/\y8 rm bk/\bk.length<=48 * i+3 * j+k) ⟨rfl,bk,_,rfl,Z,by lia⟩ ?_ ?_⟩;rintro k ρ m2 hk ⟨rfl,bk,Y,rfl,Z,L⟩ C2 B2 E2 b3 _ _;have O:k+1<U.length:=by lia
 left;show onA (cW k) (by lia) ?_;left;show onA (by lia) (by lia) ?_;rw[show ((k:Int)+1)=((k+1:Nat):Int) from rfl,zK,zK];have q1:=a5 _ (zb1 (i:=k) (by lia));have q2:=a5 _ (zb1 O)
 have q3:U.getD k 0≠U.getD (k+1) 0:=λe=>by
  have e1:U.getD k 0=U[k]:=by simp[show k<U.length by lia]
  have e2:U.getD (k+1) 0=U[k+1]:=by simp[O]
  rw[e1,e2] at e;have:=(cb b1).mp e;lia
 left;show⟨by rw[ab];exact aM (by lia:_<=1000) (by ext),?_⟩;show b3 ⟨rfl,bk++[⟨g,box,U.getD k 0,U.getD (k+1) 0⟩],_,by rw[aF];rfl,Z.app λy hy=>?_,by rw[aD];simp;lia⟩;rw[ax.mp hy];exact⟨a4.1,I.1,I.2,λq hq=>(ap _ (a4.2 q hq)).2,q1.1,q1.2,q2.1,q2.2,q3⟩;rintro ρ m2 ⟨rfl,bk,Y,rfl,Z,L⟩;left;exact b0 ⟨by lia,bk,_,_,_,rfl,Z,by lia⟩;rintro ρ m' ⟨bx,bk,v7,v8,Y,rfl,Z,L⟩;left;exact hC ⟨by lia,bk,_,_,_,_,_,_,rfl,Z,by lia⟩;rintro ρ m ⟨hm,bk,v4,v5,v6,v7,v8,Y,rfl,Z,L⟩;rw[az] at hm L;left;exact r bk m Z (by lia) (by lia)
def zue (a b:AG):Nat:=((List.range a.length).filter λk=>!decide (a.getD k 0=b.getD k 0)).headD 0
def zew  : FV:=λPn q n R=>∃ (rm a b:AG),q=[.d (stD a),.d (stD b)]/\(RoomOk rm)/\(StOk rm a)/\(StOk rm b)/\(a≠b)/\(∀x,WishOk rm x->x=zk6 a b (zue a b)->R (.d (z8 x)) n)
def zew.i{rm a b:AG}(B:RoomOk rm)(F:StOk rm a)(I:StOk rm b)(q:a≠b)(h:∀x,WishOk rm x->x=zk6 a b (zue a b)->R (.d (z8 x)) n)  : zew Pn [.d (stD a),.d (stD b)] n R:=⟨rm,a,b,rfl,B,F,I,q,h⟩
def zaW (T:Txt K mg t):FnOk P w K mg base CX0 1 t.f9 t.d9 li (spV 2 false zew):=by
 show Fun.okW (k:=0) (fr:=false) [] 2 T.q9.F zae rfl (by ext) rfl λag A B s H E Pn hr=>⟨_,(zb (wS zp <| zD (i:=2) zae.nd (zah x9 zem (JE.bo (xw (N:=lH) (cix:=[none,some 0,some 1]) rfl (by walk_at "c") (wI xG <| yR rfl T.b_range (zl (JE.bo (zO yQ zag (by rfl) T.b_len aX (zl (kb 0) zo))) zo)) (λ_ _ _ _=>(wG zB <| zi (i:=0) (show (lH:AM).Nodup by decide +kernel))) (λ_ _ _ _=>(zbd (wT zm <| zz zd1 zmp (JE.bo (zah yo xu (kb 1) (kb 0) (λ_ _=>rfl))) (JE.bo (zah yo xu (kb 2) (kb 0) (λ_ _=>rfl))) (zA _)))) (λ_ _ _ _=>(kv 0)))) (JE.bo zq) (λ_ _=>rfl)))
   (zb (wS zp <| zD (i:=3) zae.nd (xy xh zcC (by rfl) T.b_tuple bV (zl (JE.bo (xw (N:=lI) (cix:=[none,some 0,some 2]) rfl (by walk_at "c") (wI xG <| yR rfl T.b_range (zl (JE.bo (zO yQ zag (by rfl) T.b_len aX (zl (kb 0) zo))) zo)) (λ_ _ _ _=>(wG zB <| zi (i:=0) (show (lI:AM).Nodup by decide +kernel))) (λ_ _ _ _=>(zbd (wT zm <| zz zd1 zmp (kb 0) (kb 2) (zA _)))) (λ_ _ _ _=>(xq (za (kv 0) (za (zah yo xu (kb 1) (kb 0) (λ_ _=>rfl)) zg)))))) zo)))
   (zf (zN (xq (za (kv 3) (za (kv 2) (za (zah yo xu (kb 1) (kb 2) (λ_ _=>rfl)) (za (zah yo xu (kb 0) (kb 2) (λ_ _=>rfl)) zg))))))))),λws n R hF=>?_⟩
 obtain⟨rm,a,b,rfl,hR,ha,hb,I,r⟩:=hF;left;have J:=ha.len;have L:=hb.len;have h8:=hR.few;rw[ab];show⟨⟨by lia,by lia⟩,?_⟩;rw[aR,zan];show zdy (List.range a.length) (λk:Nat=>W.d (.int (k:Int))) rfl (λρ=>∃v,ρ=[v,some (.d (stD a)),some (.d (stD b))]) (λk=>!decide (a.getD k 0=b.getD k 0)) (λk=>.int (k:Int)) (by rw[az];exact aw (by lia:a.length<=8) (by ext)) ⟨_,rfl⟩ ?_ ?_;rintro k q O ⟨v,rfl⟩ C U Y;have al:=aW.mp q;left;show onA (by lia) (by lia) ?_;left;show onA (by lia) (by lia) ?_;left;rw[zK,zK];show zhK (λh=>?_) (λh=>?_);exact U (by rw[bc h];rfl) ⟨_,rfl⟩;exact Y (by rw[a9 h];rfl) ⟨_,rfl⟩;obtain⟨k,zQ,q,Z,ad⟩:=ziw (J.trans L.symm) I;rw[q];left;show yD (zcW (i:=0) rfl) ?_;left;rw[ab];show⟨⟨by lia,by lia⟩,?_⟩;rw[aR,zan];show zdy (List.range a.length) (λk:Nat=>W.d (.int (k:Int))) rfl (λρ=>∃v,ρ=[v,some (.d (stD a)),some (.d (.int (k:Int)))]) (λi=>!decide (i=k)) (λi=>x4 ((i:Int),a.getD i 0)) (by rw[az];exact aw (by lia:a.length<=8) (by ext)) ⟨_,rfl⟩ ?_ ?_;rintro i hi O ⟨v,rfl⟩ C U Y;have an:=aW.mp hi;left;show zhK (λh=>?_) (λh=>?_);left;show onA (by lia) (by lia) ?_;left;rw[zK];exact U (by lia) ⟨_,rfl⟩;exact Y (by lia) ⟨_,rfl⟩;left;show onA (by lia) (by lia) ?_;left;show onA (by lia) (by lia) ?_;left;have:=r _ (zk7 ha hb Z ad) (by unfold zue;rw[q];rfl);unfold zk6 z8 at this;rw[ay] at this;rw[zK,zK];exact this
def zgt  : FV:=λPn q n R=>∃ (rm:AG),q=[.d (stD rm)]/\(RoomOk rm)/\(∀sts:AF,sts.Nodup->(∀st∈sts,StOk rm st)->(sts.length:Int)=yg rm->R (.d (xf sts)) n)
def zgt.i{rm:AG}(q:RoomOk rm)(h:∀sts:AF,sts.Nodup->(∀st∈sts,StOk rm st)->(sts.length:Int)=yg rm->R (.d (xf sts)) n)  : zgt Pn [.d (stD rm)] n R:=⟨rm,rfl,q,h⟩
def zcQ (T:Txt K mg t):FnOk P w K mg base CX0 1 t.f10 t.d10 lr (spV 1 false zgt):=by
 show Fun.okW (k:=0) (fr:=false) [3] 6 T.q10.F zS rfl (by ext) rfl λa3 A av s H E Pn hr=>⟨_,(zb (wS zp <| zD (i:=1) zS.nd (uR (za (xq zg) zg)))
   (zb (yr aH rfl (wI uy <| zaN K rfl (kv 0)) (wG zB <| zi (i:=2) zS.nd) (zb (wS yf <| xj (i:=3) zS.nd (uR zg))
   (zb (yr aH rfl (wI zdP <| zdM rfl T.b_enumerate (za (kv 1) zg)) (wG uK <| uL (n:=2) K rfl rfl (wH z7 <| zw (wG zB <| zi (i:=4) zS.nd) (wH z7 <| zw (wG zB <| zi (i:=5) zS.nd) (wH uJ xt)))) (zb (wS zp <| zD (i:=6) zS.nd (wE uz <| zaM T.b_list T.b_range (zl (kb 2) zo)))
   (zb (wS zC <| yI (wT zm <| zz xP zcG (JE.bo (zaB za0 zs2 (kb 4) (JE.bo zq))) (JE.bo zq) (zA _)) (zf (wS zp <| zD (i:=6) zS.nd (wE zgY <| zmV (kb 6)))) zF)
   (zf (wS zf8 <| zja 3 (xw (N:=lx) (cix:=[none,some 5]) rfl (by walk_at "c") (wI yz <| yw K rfl (kv 6)) (λ_ _ _ _=>(wG zB <| zi (i:=0) (show (lx:AM).Nodup by decide +kernel))) (λ_ _ _ _=>yx) (λ_ _ _ _=>(zaB xK zax (kb 1) (JE.bo (xq (za (kv 0) zg)))))))))))
   (zf (wS zdR <| zf3 (i:=1) 3 zS.nd rfl (Or.inl rfl))))))
   (zf (zN (kv 1))))),λJ n R hF=>?_⟩
 obtain⟨rm,rfl,hR,r⟩:=hF;left;have h8:=hR.few;have Z:∀i,yg (rm.take i)<=65536:=λi=>by rw[<- y9 _ λn hn=>by have:=hR.box n (bW hn);lia];have:=zdm h8 hR.box i;lia
 show zL rm (λi=>.d (.int i)) (by simp) (λi ρ m=>m=n/\∃ (sts:AF) (v2 v3 L O v6:Option W),ρ=[some (.d (stD rm)),some (.d (xf sts)),v2,v3,L,O,v6]/\sts.Nodup/\(∀st∈sts,StOk (rm.take i) st)/\(sts.length:Int)=yg (rm.take i)) ⟨rfl,[[]],_,_,_,_,_,rfl,by ext,λst ad=>?_,rfl⟩ ?_ ?_;rw[ax.mp ad];exact⟨rfl,λb b0 b1=>absurd b1 (by simp;lia)⟩;rintro i a ρ m ha ⟨rfl,sts,v2,v3,L,O,v6,rfl,hN,q,I⟩ C B E hC _ _;have hm:=hR.box a (ak ha);have hf:=Z i;have a4:=Z (i+1);have a5:yg (rm.take (i+1))=yg (rm.take i) * a:=by rw[zh ha,ul]
 obtain⟨w,rfl⟩:∃w:Nat,a=(w:Int):=⟨a.toNat,by lia⟩;have a7:sts.length * w<=65536:=by grind
 left;show zL (List.range sts.length) (λk:Nat=>W.d (.tup [.int (k:Int),stD (sts.getD k [])])) (ziz sts) (λk ρ m'=>m'=m/\∃ (U:AF) (L O v6:Option W),ρ=[some (.d (stD rm)),some (.d (xf sts)),some (.d (.int (w:Int))),some (.d (.lst (U.map stD))),L,O,v6]/\U.Nodup/\(∀x∈U,∃b∈sts.take k,∃v:Int,0<=v/\v<w/\x=b++[v])/\U.length=k * w) ⟨rfl,[],_,_,_,rfl,.nil,by simp,by simp⟩ ?_ ?_;rintro j k ρ m' a0 ⟨rfl,U,L,O,v6,rfl,ag,Y,al⟩ C' B' E' a1 _ _;obtain⟨an,ap⟩:=ac.mp a0;rw[az] at an;rw[bF] at ap;subst ap;have hk:=an;have a2:=(q _ (zb0 hk)).len;rw[aN] at a2;have bb:(j+1) * w<=sts.length * w:=Nat.mul_le_mul_right _ hk;left;show⟨⟨by lia,by lia⟩,?_⟩;rw[aR];have as:zfB w=(zk (w:Int)).map Dt.int:=by unfold zfB zk;rw[ay,aR];rfl
 rw[as]
 have fin:∀J:AG,J.Perm (zk (w:Int))->∀L O,zeG (eN 0) ztD (zly zkX (zfL 1) (zrj (ze7 (zfL 0) zrh))) [none,some (.d (stD (sts.getD j [])))] (λx n2=>onL x λl2=>(U.map stD).length+l2.length<=lim/\C' [some (.d (stD rm)),some (.d (xf sts)),some (.d (.int (w:Int))),some (.d (.lst (U.map stD++l2))),L,O,some (.d (lsD J))] n2) ((J.map Dt.int).map W.d) m':=λJ hp L O=>by
  show uI J (λv=>W.d (.int v)) (by simp) (λρ=>∃v,ρ=[v,some (.d (stD (sts.getD j [])))]) (λv=>stD (sts.getD j []++[v])) (by rw[hp.length_eq,yL];exact aw (by lia:_<=4) (by ext)) ⟨_,rfl⟩ ?_ ?_;rintro v hv bd ⟨u,rfl⟩ D hD;left;show⟨len1 (by lia),?_⟩;rw[cat1];exact hD ⟨_,rfl⟩
  have hB:(J.map λv=>sts.getD j []++[v]).Perm ((List.range w).map λv:Nat=>sts.getD j []++[(v:Int)]):=by
   have:=hp.map λv=>sts.getD j []++[v];unfold zk at this;rw[ay,aR] at this;exact this
  obtain⟨q1,q2,q3⟩:=zhQ hk hN ag Y al hB;rw[show J.map (λv=>stD (sts.getD j []++[v]))=(J.map λv=>sts.getD j []++[v]).map stD by rw[ay];rfl];show⟨?_,a1 ⟨rfl,U++J.map (λv=>sts.getD j []++[v]),_,_,_,by rw[aF],q1,q2,q3⟩⟩;rw[ab,ab,<- aD,q3];exact aw (by lia:_<=65536) (by ext)
 show⟨by lia,?_⟩;left;show xm (λ_=>?_) (λ_=>?_);left;rw[<- List.map_reverse];exact fin _ (List.reverse_perm _) _ _;left;exact fin _ (.refl _) _ _;rintro ρ m' ⟨rfl,U,L,O,v6,rfl,ag,Y,al⟩;rw[az] at Y al;left;show hC ⟨rfl,U,_,_,_,_,_,rfl,ag,λst ad=>?_,?_⟩;obtain⟨b,hb,v,v0,v1,rfl⟩:=Y st ad;rw[aT] at hb;rw[zh ha];exact (q b hb).snoc v0 v1;right;rintro ρ m ⟨rfl,sts,v2,v3,L,O,v6,rfl,hN,q,I⟩;rw[aT] at I q;left;exact r sts hN q I
def zdi  : FV:=λPn q n R=>∃ (p:Addr) (rm:AG),q=[.pen p,.d (stD rm)]/\(IsP Pn p)/\(n+10<=1000000)/\(RoomOk rm)/\(yg rm<=256)/\(∀bk m,y8 rm bk->bk.length<=400->m<=n+5->R (.d (.lst (bk.map z8))) m)
def zdi.i{rm:AG}(q:IsP Pn p)(B:RoomOk rm)(F:yg rm<=256)(h:∀bk m,y8 rm bk->bk.length<=400->m<=n+5->R (.d (.lst (bk.map z8))) m)(I:n+10<=1000000:=by lia):zdi Pn [.pen p,.d (stD rm)] n R:=⟨p,rm,rfl,q,I,B,F,h⟩
def zcP (T:Txt K mg t):FnOk P w K mg base CX0 2 t.f11 t.d11 la (spV 2 true zdi):=by
 have G1:=zR (P:=P) (w:=w) (base:=base) T;have G9:=zaW (P:=P) (w:=w) (base:=base) T;have G10:=zcQ (P:=P) (w:=w) (base:=base) T
 show Fun.okW (k:=1) (fr:=true) [] 1 T.q11.F uD rfl (by ext) rfl λan A ad s H E Pn Z=>⟨_,(zb (wS zp <| zD (i:=2) uD.nd (wE zr <| yX T.q10 G10 Z (za (kv 1) zg)))
   (zb (wS zC <| yI (wT zm <| zz xP zcG (JE.bo (wE zr <| yX T.q1 G1 Z (za (kv 0) (za zq zg)))) (JE.bo zq) (zA _)) (zf (wS zp <| zD (i:=2) uD.nd (wE uZ <| zeX (kb 2) (wO ye <| yO (JE.bo (wE zr <| yX T.q1 G1 Z (za (kv 0) (za (zO yQ zag (by rfl) T.b_len aX (zl (kb 2) zo)) zg))))) yN))) zF)
   (zf (zN (xw (N:=li) (cix:=[none,none]) rfl (by walk_at "c") (wI zgX <| zi8 rfl T.b_zip (za (kv 2) (za (wE uZ <| zeX (kb 2) (wO ye <| yO (JE.bo zq)) yN) zg))) (λ_ _ _ _=>(wG uK <| uL (n:=2) K rfl rfl (wH z7 <| zw (wG zB <| zi (i:=0) (show (li:AM).Nodup by decide +kernel)) (wH z7 <| zw (wG zB <| zi (i:=1) (show (li:AM).Nodup by decide +kernel)) (wH uJ xt))))) (λ_ _ _ _=>yx) (λ_ _ _ _=>(wE zr <| yX T.q9 G9 Z (za (kv 0) (za (kv 1) zg))))))))),λws n R hF=>?_⟩
 obtain⟨p,rm,rfl,hP,hn,hR,hp,r⟩:=hF;left;show zgt.i hR λsts hN B al=>?_;have h2:=zjT hR.ne λn hn=>(hR.box n hn).1;left;show dc hP λa a0 a1=>?_;left;refine' zjw (λ(I:AF) (J:Nat)=>I.Nodup/\(∀st∈I,StOk rm st)/\I.length<=256/\J<=n+2) _ (λzQ=>?_) ?_;rotate_left;show xm (λ_=>?_) (λ_=>?_);left;rw[ab];show dc hP λb b0 b1=>?_;left;rw[xo];have q:=ziq sts (some b) none;generalize ub sts (some b) none=I at q;generalize hk:n+1+1=J;exact zQ I J ⟨hN.sublist q,λst ag=>B st (q.subset ag),by grind,by lia⟩;left;generalize hk:n+1=J;exact zQ sts J ⟨hN,B,by lia,by lia⟩;rintro I J ⟨hN,B,hl,ap⟩;rw[zmx];show zgB (List.range (I.length - 1)) (λi:Nat=>W.d (.tup [stD (I.getD i []),stD (I.getD (i+1) [])])) rfl (by rw[az];exact aw (by lia:_<=256) (by ext)) (λi L n' acc=>n'=J/\i<=I.length - 1/\∃ (v0 v1:Option W) (bk:AW),L=[v0,v1]/\acc=bk.map z8/\y8 rm bk/\bk.length=i) ⟨rfl,aK _,none,none,[],rfl,rfl,by intro x hx;simp at hx,rfl⟩ ?_ ?_;rintro i k L n' acc hk ⟨rfl,hi,v0,v1,bk,rfl,rfl,hB,O⟩ C hC;obtain⟨U,Y⟩:=ac.mp hk;rw[az] at U;rw[bF] at Y;subst Y;left;show zew.i hR (B _ (zb0 (by lia))) (B _ (zb0 (by lia))) (zhI hN (by lia)) λx hx _=>?_;exact hC ⟨rfl,U,_,_,bk++[x],rfl,by simp,hB.app (λy hy=>by right),by right⟩;rintro L n' acc ⟨rfl,hi,v0,v1,bk,rfl,rfl,hB,O⟩;rw[az] at O;exact r bk _ hB (by lia) (by lia)
def zgs  : FV:=λPn q n R=>∃ (p:Addr) (rm:AG),q=[.pen p,.d (stD rm)]/\(IsP Pn p)/\(n+3000<=1000000)/\(RoomOk rm)/\(yg rm<=16)/\(∀bk m,y8 rm bk->bk.length<=1000->m<=n+1000->R (.d (.lst (bk.map z8))) m)
def zgs.i{rm:AG}(q:IsP Pn p)(B:RoomOk rm)(F:yg rm<=16)(h:∀bk m,y8 rm bk->bk.length<=1000->m<=n+1000->R (.d (.lst (bk.map z8))) m)(I:n+3000<=1000000:=by lia):zgs Pn [.pen p,.d (stD rm)] n R:=⟨p,rm,rfl,q,I,B,F,h⟩
def zcg (T:Txt K mg t):FnOk P w K mg base CX0 3 t.f12 t.d12 la (spV 2 true zgs):=by
 have G1:=zR (P:=P) (w:=w) (base:=base) T;have G2:=uB (P:=P) (w:=w) (base:=base) T;have G4:=yC (P:=P) (w:=w) (base:=base) T;have G9:=zaW (P:=P) (w:=w) (base:=base) T
 show Fun.okW (k:=2) (fr:=true) [3,6] 8 T.q12.F zH rfl (by ext) rfl λbx A a2 s H E Pn hr=>⟨_,(zb (wS zp <| zD (i:=2) zH.nd (wE zr <| yX T.q4 G4 hr (za (kv 1) zg)))
   (zb (wS yf <| xj (i:=3) zH.nd zi6)
   (zb (yr aH rfl (wI zdP <| zdM rfl T.b_enumerate (za (wE zr <| yX T.q2 G2 hr (za (kv 0) (za (kv 2) zg))) zg)) (wG uK <| uL (n:=2) K rfl rfl (wH z7 <| zw (wG zB <| zi (i:=4) zH.nd) (wH z7 <| zw (wG zB <| zi (i:=5) zH.nd) (wH uJ xt)))) (zf (wS zaT <| zbM 3 (xc hr) (kb 5) (kv 4))))
   (zb (wS yf <| xj (i:=6) zH.nd (uR zg))
   (zb (yr aH rfl (wI yz <| yw K rfl (kv 2)) (wG zB <| zi (i:=5) zH.nd) (zf (yr aH rfl (wI xG <| yR rfl T.b_range (zl (JE.bo (zO yQ zag (by rfl) T.b_len aX (zl (kb 1) zo))) zo)) (wG zB <| zi (i:=7) zH.nd) (zf (yr aH rfl (wI xG <| yR rfl T.b_range (zl (JE.bo (zah yo xu (kb 1) (kb 7) (λ_ _=>rfl))) zo)) (wG zB <| zi (i:=8) zH.nd) (zb (wS zp <| zD (i:=9) zH.nd (zaB xK zax (JE.bo (zaB xK zax (JE.bo (wE u4 <| zeY (kb 5) yN (wO ye <| yO (kb 7)))) (JE.bo (xq (za (kv 8) zg))))) (JE.bo (wE u4 <| zeY (kb 5) (wO ye <| yO (JE.bo (zaB yS zbl (kb 7) (JE.bo zq)))) yN))))
   (zf (wS zC <| yI (JW.t (wW ux <| zaP (wT zm <| zz zgf zqe (JE.bo (wE yt <| xp (xc hr) (kb 3) (kb 5) (λ_ _=>rfl))) (JE.bo (wE yt <| xp (xc hr) (kb 3) (kb 9) (λ_ _=>rfl))) (zA _)) (xR (.inl rfl) (wT zm <| zz zlK u_gt (JE.bo (wE zr <| yX T.q1 G1 hr (za (kv 0) (za zq zg)))) (JE.bo zq) (zA _))))) (zf (wS uY <| zbm 6 (wE zr <| yX T.q9 G9 hr (za (kv 5) (za (kv 9) zg))))) zF))))))))
   (zf (wS zaU <| zb6 6))))))),λws n R hF=>?_⟩
 obtain⟨p,rm,rfl,hP,hn,hR,hp,r⟩:=hF;left;have h8:=hR.few
 have hsz:(yj (rm.map zk)).length<=16:=by
  have:=y9 rm λn hn=>by have:=hR.box n hn;lia
  lia
 have al:∀st∈yj (rm.map zk),StOk rm st:=λst J=>xB rm st J;have an:∀st,StOk rm st->st∈yj (rm.map zk):=λst J=>zcA J;show zbR.i hR ?_;left;generalize yj (rm.map zk)=ev at hsz al an;show tc hP (λl hl=>?_) (by rw[ab];lia) (by rw[ab];lia);rw[ab];obtain⟨ys,rfl,ap⟩:=zd3 hl;have b0:=ap.length_eq;left;generalize b1:n+ev.length=n1;show zL (List.range ys.length) (λk:Nat=>W.d (.tup [.int (k:Int),stD (ys.getD k [])])) (ziz ys) (λi ρ m=>m=n1/\i<=ys.length/\∃ (kvs:List (AG×Dt)) (v4 v5:Option W),ρ=[some (.pen p),some (.d (stD rm)),some (.d (xf ev)),some (.dt kvs),v4,v5,none,none,none,none]/\(∀j,j<i->∃r:Int,yy kvs (ys.getD j [])=some (.int r))/\kvs.length<=i) ⟨rfl,aK _,[],_,_,rfl,λj hj=>by lia,ai _⟩ ?_ ?_;rintro i k ρ m a3 ⟨rfl,as,kvs,v4,v5,rfl,Z,a4⟩ C B E hC _ _;obtain⟨av,a0⟩:=ac.mp a3;rw[az] at av;rw[bF] at a0;subst a0;left;show⟨ys.getD i [],rfl,aM (by lia:_<=100) (by ext),hC ⟨rfl,av,_,_,_,rfl,λj hj=>?_,by have:=zgh kvs (ys.getD i []) (.int (i:Int));lia⟩⟩;by_cases e:ys.getD j []=ys.getD i [];exact⟨i,by rw[zaS,if_pos e]⟩
 obtain⟨r',a5⟩:=Z j (by
  rcases Nat.lt_succ_iff_lt_or_eq.mp hj with h | h;exact h;subst h;exact absurd rfl e)
 exact⟨r',by rw[zaS,if_neg e];exact a5⟩;rintro ρ n2 ⟨rfl,as,kvs,v4,v5,rfl,Z,a4⟩;rw[az] at Z;have L:∀st,StOk rm st->∃r:Int,yy kvs st=some (.int r):=λst J=>by have:=ap.mem_iff.mpr (an st J);obtain⟨j,hj,rfl⟩:=bB.mp this;have:=Z j hj;rwa[show ys.getD j []=ys[j] by simp[hj]] at this
 left;show zL ev (λst=>.d (stD st)) (by rw[ay];rfl) (λi ρ m=>m<=n2+32 * i/\∃ (bk:AW) (v5 v7 O U:Option W),ρ=[some (.pen p),some (.d (stD rm)),some (.d (xf ev)),some (.dt kvs),v4,v5,some (.d (.lst (bk.map z8))),v7,O,U]/\y8 rm bk/\bk.length<=32 * i) ⟨by lia,[],_,_,_,_,rfl,by intro x hx;simp at hx,by simp⟩ ?_ ?_;rintro i q ρ m ho ⟨hm,bk,v5,v7,O,U,rfl,I,Y⟩ C B E hC _ _;have as:=(ac.mp ho).1;have hO:=al q (ak ho);have b2:=hO.len;obtain⟨ra,a1⟩:=L q hO;left;rw[ab];show⟨⟨by lia,by lia⟩,zeQ (λj ρ m'=>m'<=m+4 * j/\∃ (bk:AW) (v7 O U:Option W),ρ=[some (.pen p),some (.d (stD rm)),some (.d (xf ev)),some (.dt kvs),v4,some (.d (stD q)),some (.d (.lst (bk.map z8))),v7,O,U]/\y8 rm bk/\bk.length<=32 * i+4 * j) ⟨by lia,bk,_,_,_,rfl,I,by lia⟩ ?_ ?_⟩;rintro j ρ m' hj ⟨a7,bk,v7,O,U,rfl,I,Y⟩ C' B' E' bb _ _;have hj:j<rm.length:=by lia
 have b3:=xM hR.box (cW j) (by lia);left;show onA (cW j) (by lia) ?_;left;show⟨⟨by lia,by lia⟩,zeQ (λk ρ m2=>m2<=m'+k/\k<=4/\∃ (bk:AW) (O U:Option W),ρ=[some (.pen p),some (.d (stD rm)),some (.d (xf ev)),some (.dt kvs),v4,some (.d (stD q)),some (.d (.lst (bk.map z8))),some (.d (.int (j:Int))),O,U]/\y8 rm bk/\bk.length<=32 * i+4 * j+k) ⟨by lia,by lia,bk,_,_,rfl,I,by lia⟩ ?_ ?_⟩;rintro k ρ m2 hk ⟨bd,bl,bk,O,U,rfl,I,Y⟩ C2 B2 E2 ad _ _;left;show⟨zdu (by lia),?_⟩;left;show⟨zdv (by lia),?_⟩;rw[zfI (cW j) (by lia)];have hT:StOk rm (chg q (j:Int) (k:Int)):=zeg hO (cW j) (by lia) (by lia) (by lia);obtain⟨rb,ag⟩:=L _ hT;left;show⟨q,rfl,yD a1 ?_⟩;left;show⟨chg q (j:Int) (k:Int),rfl,yD ag ?_⟩;left;show xm (λb4=>?_) (λ_=>⟨ad ⟨by lia,by lia,bk,_,_,rfl,I,by lia⟩⟩);have bs:q≠chg q (j:Int) (k:Int):=λe=>by rw[<- e,a1] at ag;cases ag;lia
 left;show dc hP (λd d0 d1=>?_) (by lia);left;show xm (λ_=>?_) (λ_=>⟨ad ⟨by lia,by lia,bk,_,_,rfl,I,by lia⟩⟩);left;show zew.i hR hO hT bs λx hx _=>?_;left;show⟨by rw[ab];exact aM (by lia:_<=1000) (by ext),ad ⟨by lia,by lia,bk++[x],_,_,by rw[aF];rfl,I.app (λy hy=>by rw[ax.mp hy];exact hx),by rw[aD];simp;lia⟩⟩;rintro ρ m2 ⟨bd,bl,bk,O,U,rfl,I,Y⟩;left;exact bb ⟨by lia,bk,_,_,_,rfl,I,by lia⟩;rintro ρ m' ⟨a7,bk,v7,O,U,rfl,I,Y⟩;left;exact hC ⟨by lia,bk,_,_,_,_,rfl,I,by lia⟩;rintro ρ m ⟨hm,bk,v5,v7,O,U,rfl,I,Y⟩;left;exact r bk m I (by lia) (by lia)
def zdj  : FV:=λPn B n R=>∃ (p:Addr) (rm:AG) (bk:AW),B=[.pen p,.d (stD rm),.d (.lst (bk.map z8))]/\(IsP Pn p)/\(n+100<=1000000)/\(RoomOk rm)/\(y8 rm bk)/\(bk.length<=2000)/\(∀q m,y8 rm q->q.length<=2001->m<=n+50->R (.d (.lst (q.map z8))) m)
def zdj.i{rm:AG}(B:IsP Pn p)(F:RoomOk rm)(I:y8 rm bk)(J:bk.length<=2000)(h:∀q m,y8 rm q->q.length<=2001->m<=n+50->R (.d (.lst (q.map z8))) m)(L:n+100<=1000000:=by lia):zdj Pn [.pen p,.d (stD rm),.d (.lst (bk.map z8))] n R:=⟨p,rm,bk,rfl,B,L,F,I,J,h⟩
def zbF (T:Txt K mg t):FnOk P w K mg base CX0 4 t.f13 t.d13 ld (spG 3 true zdj):=by
 have G1:=zR (P:=P) (w:=w) (base:=base) T;have G6:=zaX (P:=P) (w:=w) (base:=base) T
 show Fun.okG (k:=3) (fr:=true) [2] 6 T.q13.F zY rfl (by ext) (by ext) rfl λan A ad s H E Pn O=>⟨_,(zb (wS zp <| zD (i:=3) zY.nd (wE zr <| yX T.q1 G1 O (za (kv 0) (za zq zg))))
   (zb (wS zC <| yI (JW.t (wW zbn <| zeZ (wT zm <| zz xP zcG (kb 3) (JE.bo zq) (zA _)) (xR (.inr rfl) (wT zm <| zz (zm6 O.units) zsX (kb 2) (JE.bo (uR zg)) (zA _))))) (zb (wS zov <| zq7 2 (wE zr <| yX T.q1 G1 O (za (kv 0) (za (zaB yS zbl (JE.bo (zO yQ zag (by rfl) T.b_len aX (zl (kb 2) zo))) (JE.bo zq)) zg))) (wE zr <| yX T.q6 G6 O (za (kv 0) (za (kv 1) zg))))
   (zf (wS zaU <| zb6 2))) zF)
   (zb (wS zp <| zD (i:=4) zY.nd (wE zr <| yX T.q1 G1 O (za (kv 0) (za (zO yQ zag (by rfl) T.b_len aX (zl (kb 2) zo)) zg))))
   (zb (zmW (zah x9 zem (kb 2) (kb 4) (λ_ _=>rfl)) (wG uK <| uL (n:=4) K rfl rfl (wH z7 <| zw (wG zB <| zi (i:=5) zY.nd) (wH z7 <| zw (wG zB <| zi (i:=6) zY.nd) (wH z7 <| zw (wG zB <| zi (i:=7) zY.nd) (wH z7 <| zw (wG zB <| zi (i:=8) zY.nd) (wH uJ xt)))))))
   (zb (wS zC <| yI (wT zm <| zz xP zcG (kb 3) (JE.bo zq) (zA _)) (zf (wS zjs <| zmX 2 (kb 4) (xq (za (kv 5) (za (kv 6) (za (kv 8) (za (kv 7) zg))))))) zF)
   (zb (wS zC <| yI (wT zm <| zz xP zcG (kb 3) (JE.bo zq) (zA _)) (zf (wS zlB <| zol 2 (kb 4))) zF)
   (zb (wS zC <| yI (wT zm <| zz xP zcG (kb 3) (JE.bo zq) (zA _)) (zf (wS uY <| zbm 2 (zah x9 zem (kb 2) (kb 4) (λ_ _=>rfl)))) zF)
   (zb (wS zC <| yI (wT zm <| zz xP zcG (kb 3) (JE.bo zq) (zA _)) (zf (wS zjs <| zmX 2 (kb 4) (xq (za (wE u4 <| zeY (kb 5) (wO ye <| yO (JE.bo zq)) yN) (za (kv 6) (za (kv 7) (za (kv 8) zg))))))) zF)
   (zf (wS zaU <| zb6 2)))))))))),λws n R hF=>?_⟩
 obtain⟨p,rm,bk,rfl,hP,hn,hR,B,hl,r⟩:=hF;left;have h8:=hR.few;show dc hP λq w0 w1=>?_;left;refine' zuU _ (λkey=>?_) ?_;rotate_left
 ·show xm (λh4=>?_) (λh4=>?_);left;rw[ab];generalize W.d (Dt.int q)=x;exact key x
  ·left;show⟨zqp B,zqp (rm:=rm) (bk:=[]) (by intro x L;simp at L),λb hb=>?_⟩;left;show zlH (λI=>?_) (λI=>?_);left;rw[ab];exact key (.d (.int q))
   ·left;have ag:bk≠[]:=λz=>by have:=hb.mpr (by rw[z];rfl);rw[this] at I;cases I
    have al:0<bk.length:=eI.mpr ag;rw[ab];show dc hP λU a0 a1=>?_;obtain⟨j,rfl⟩:∃j:Nat,U=(j:Int):=⟨U.toNat,by lia⟩;have hj:j<bk.length:=by lia
    have L:=B _ (bL hj);have J:atI (bk.map z8) (j:Int)=some (z8 bk[j]):=zcW (by rw[aj,ah hj];rfl);generalize bk[j]=x at L J;left;show yD J ?_;left;have Y:q=0\/q=1\/q=2\/q=3:=by lia
    rcases Y with rfl | rfl | rfl | rfl;walk_at "ct";show⟨⟨by lia,by rw[ab];lia⟩,?_⟩;rw[aR,show (bk.map z8).set j (Dt.tup [Dt.tup (x.g.map x4),.int x.b,.int x.w,.int x.r])=(bk.set j (zsV x)).map z8 by rw[List.map_set];rfl];left;walk_at "cf";walk_at "cf";walk_at "cf";exact r _ _ (B.set (zp2 L) j) (by rw[a8];lia) (by lia);walk_at "cf";walk_at "ct";show⟨⟨by lia,by rw[ab];lia,by rw[ab];exact aw hl (by ext)⟩,?_⟩;rw[aR,<- zeN];left;walk_at "cf";walk_at "cf";exact r _ _ (λy Z=>B y (List.mem_of_mem_eraseIdx Z)) (by have:=List.length_eraseIdx_le bk j;lia) (by lia);walk_at "cf";walk_at "cf";walk_at "ct";show yD J ?_;left;show⟨by rw[ab];exact aM hl (by ext),?_⟩;rw[show bk.map z8++[z8 x]=(bk++[x]).map z8 by rw[aF];rfl];left;walk_at "cf";exact r _ _ (B.app λy Z=>by rw[ax.mp Z];exact L) (by rw[aD];simp;lia) (by lia)
    ·walk_at "cf";walk_at "cf";walk_at "cf";walk_at "ct";show⟨⟨by lia,by rw[ab];lia⟩,?_⟩;rw[aR,xo,show (bk.map z8).set j (Dt.tup [Dt.tup ((ub x.g (some 1) none).map x4),.int x.b,.int x.r,.int x.w])=(bk.set j { x with g:=ub x.g (some 1) none }).map z8 by rw[List.map_set] <;> rfl];left;exact r _ _ (B.set (znM L) j) (by rw[a8];lia) (by lia)
 intro x;show dc hP λk k0 k1=>?_;obtain⟨j,rfl⟩:∃j:Nat,k=(j:Int):=⟨k.toNat,by lia⟩;left;show zhZ.i hP hR λy m Z hm=>?_;left;show⟨⟨by lia,by lia,aM hl (by ext)⟩,?_⟩;rw[aR,zoe];left;exact r _ _ (B.ins Z j) (by rw[zod];lia) (by lia)
def zgr  : FV:=λPn q n R=>∃ (p:Addr) (rm:AG),q=[.pen p,.d (stD rm)]/\(IsP Pn p)/\(n+4000<=1000000)/\(RoomOk rm)/\(yg rm<=256)/\(∀bk m,y8 rm bk->bk.length<=120->m<=n+2000->R (.d (xa bk)) m)
def zgr.i{rm:AG}(q:IsP Pn p)(B:RoomOk rm)(F:yg rm<=256)(h:∀bk m,y8 rm bk->bk.length<=120->m<=n+2000->R (.d (xa bk)) m)(I:n+4000<=1000000:=by lia):zgr Pn [.pen p,.d (stD rm)] n R:=⟨p,rm,rfl,q,I,B,F,h⟩
def zdU (T:Txt K mg t):FnOk P w K mg base CX0 5 t.f14 t.d14 la (spV 2 false zgr):=by
 have G1:=zR (P:=P) (w:=w) (base:=base) T;have G2:=uB (P:=P) (w:=w) (base:=base) T;have G4:=yC (P:=P) (w:=w) (base:=base) T;have G6:=zaX (P:=P) (w:=w) (base:=base) T;have G8:=zbf (P:=P) (w:=w) (base:=base) T;have G11:=zcP (P:=P) (w:=w) (base:=base) T;have G12:=zcg (P:=P) (w:=w) (base:=base) T;have G13:=zbF (P:=P) (w:=w) (base:=base) T
 show Fun.okW (k:=4) (fr:=false) [5] 4 T.q14.F yc rfl (by ext) rfl λa5 A as s H E Pn B=>⟨_,(zb (wS zp <| zD (i:=2) yc.nd (wE zr <| yX T.q1 G1 B (za (kv 0) (za zq zg))))
   (zb (wS zp <| zD (i:=3) yc.nd (wE zr <| yX T.q1 G1 B (za (kv 0) (za zq zg))))
   (zb (wS zp <| zD (i:=4) yc.nd (zO yQ zag (by rfl) T.b_len aX (zl (JE.bo (wE zr <| yX T.q4 G4 B (za (kv 1) zg))) zo)))
   (zb (wS zC <| yI (wT zm <| zz xP zcG (kb 2) (JE.bo zq) (zA _)) (zf (wS yf <| xj (i:=5) yc.nd (wE zr <| yX T.q11 G11 B (za (kv 0) (za (kv 1) zg))))) (zf (wS zC <| yI (JW.t (wW ux <| zaP (wT zm <| zz xP zcG (kb 2) (JE.bo zq) (zA _)) (xR (.inl rfl) (wT zm <| zz zrE u_le (kb 4) (JE.bo zq) (zA _))))) (zf (wS yf <| xj (i:=5) yc.nd (wE zr <| yX T.q12 G12 B (za (kv 0) (za (kv 1) zg))))) (zf (wS zC <| yI (wT zm <| zz zgf zqe (kb 2) (JE.bo zq) (zA _)) (zf (wS yf <| xj (i:=5) yc.nd (wE zr <| yX T.q8 G8 B (za (kv 0) (za (kv 1) zg))))) (zf (wS yf <| zf4 (i:=5) (zbL (ix:=5) yc.nd rfl rfl (N:=lC) (cix:=[none,some 0,some 1]) rfl (by walk_at "c") (wI xG <| yR rfl T.b_range (zl (JE.bo (wE zr <| yX T.q1 G1 B (za (kv 0) (za zq zg)))) zo)) (λ_ _ _ _=>(wG zB <| zi (i:=0) (show (lC:AM).Nodup by decide +kernel))) (λ_ _ _ _=>yx) (λ_ _ _ _=>(wE zr <| yX T.q6 G6 B (za (kv 1) (za (kv 2) zg))))))))))))
   (zb (wS zC <| yI (wT zm <| zz xP zcG (kb 3) (JE.bo zq) (zA _)) (zf (zq6 (i:=5) T.q13 G13 B (kv 0) (kv 1) yc.nd rfl (Or.inl rfl))) zF)
   (zf (zN (xy xh zcC (by rfl) T.b_tuple bV (zl (JE.bo (wE zr <| yX T.q2 G2 B (za (kv 0) (za (wE uZ <| zeX (kb 5) yN (wO ye <| yO (JE.bo zq))) zg)))) zo))))))))),λws n R hF=>?_⟩
 obtain⟨p,rm,rfl,I,hn,J,hp,r⟩:=hF;left;show dc I λkind k0 k1=>?_;left;show dc I λsp s0 s1=>?_;left;show zbR.i J ?_;left;have hsz:=y9 rm λn hn=>by have:=J.box n hn;lia
 rw[ab,hsz];refine' zjw (λ(bk:AW) (Y:Nat)=>y8 rm bk/\bk.length<=1000/\Y<=n+1100) _ (λzQ=>?_) ?_;rotate_left;show xm (λh0=>?_) (λh0=>?_);left;show zdi.i I J hp λbk m q Z hm=>?_;left;exact zQ bk m ⟨q,by lia,by lia⟩;left;show xm (λh1=>?_) (λh1=>?_);left;show xm (λad=>?_) (λad=>?_);left;show zgs.i I J ad λbk m q Z hm=>?_;left;exact zQ bk m ⟨q,by lia,by lia⟩;left;show xm (λh4=>?_) (λh4=>absurd (by lia) h4);left;show zhU.i I J λbk m q Z hm=>?_;left;exact zQ bk m ⟨q,by lia,by lia⟩;left;show xm (λh4=>?_) (λh4=>?_);left;show zhU.i I J λbk m q Z hm=>?_;left;exact zQ bk m ⟨q,by lia,by lia⟩;left;show dc I λt t0 t1=>?_;left;show⟨⟨by lia,by lia⟩,?_⟩;rw[zan];show zgB (List.range t.toNat) (λk:Nat=>W.d (.int (k:Int))) rfl (by rw[az];exact aw (by lia:_<=14) (by ext)) (λi L n' acc=>n'<=n+3+30 * i/\i<=t.toNat/\∃ (v:Option W) (bk:AW),L=[v,some (.pen p),some (.d (stD rm))]/\acc=bk.map z8/\y8 rm bk/\bk.length=i) ⟨by lia,aK _,none,[],rfl,rfl,by intro x O;simp at O,rfl⟩ ?_ ?_;rintro i k L n' acc hk ⟨ag,hi,v,bk,rfl,rfl,q,U⟩ C hC;have al:=(ac.mp hk).1;rw[az] at al;left;show zhZ.i I J λx m O hm=>?_;exact hC ⟨by lia,al,_,bk++[x],rfl,by rw[aF];rfl,q.app (λy hy=>by rw[ax.mp hy];exact O),by rw[aD,U];rfl⟩;rintro L n' acc ⟨ag,hi,v,bk,rfl,rfl,q,U⟩;rw[az] at U ag;left;exact zQ bk n' ⟨q,by lia,by lia⟩;rintro bk Y ⟨q,Z,av⟩;refine' zjw (λ(bk:AW) (Y:Nat)=>y8 rm bk/\bk.length<=2001/\Y<=n+1150) _ (λzQ=>?_) ?_;rotate_left;left;show xm (λh0=>?_) (λh0=>?_);left;show zdj.i I J q (by lia) λa0 m a1 a2 hm=>?_;left;exact zQ a0 m ⟨a1,a2,by lia⟩;left;exact zQ bk Y ⟨q,by lia,by lia⟩;rintro bk Y ⟨q,Z,av⟩;left;rw[xo,show (120:Int)=((120:Nat):Int) from rfl,L3.zbJ];have an:y8 rm (bk.take 120):=λx O=>q x (bW O);have a3:(bk.take 120).length<=120:=by rw[aN];lia
 generalize bk.take 120=b2 at an a3;left;show tc I (λl a4=>?_) (by rw[ab];lia) (by rw[ab];lia);rw[ab];obtain⟨b3,rfl,ap⟩:=zd3 a4;have a7:=ap.length_eq;left;exact r b3 _ (λx O=>an x (ap.mem_iff.mp O)) (by lia) (by lia)
def zgd (T:Txt K mg t):FnOk P w K mg base CX0 1 t.f15 t.d15 lO (zdg K):=by
 show T.q15.F.okQ uE (λvs H Q E h=>?_) (λb4 A bk s H vs Q E hr h=>?_);obtain⟨ca,xs,cs,rfl,_⟩:=h;rfl;obtain⟨ca,xs,cs,rfl,a2,hL,bl,a3,k⟩:=h;have ad:=zgv bl a3
 show⟨_,(yb (xW (i:=1) uE.nd rfl (Or.inl rfl) (zjU (zG (zgj yk) yk)))
  (yb (zjX aH rfl (zd6 (qv 0)) (zck (i:=2) uE.nd rfl (Or.inr rfl)) (uC (zl7 (ix:=1) uE.nd rfl rfl (N:=lG) (cix:=[none,none,some 2]) rfl (by walk_at "c") (zd6 (qv 1)) (λ_ _ _ _=>(zck (i:=0) (show (lG:AM).Nodup by decide +kernel) rfl (Or.inl rfl))) (λ_ _ _ _=>zea) (λ_ _ _ _=>(zhb K rfl (qv 2))) (λ_ _ _ _=>(zck (i:=1) (show (lG:AM).Nodup by decide +kernel) rfl (Or.inl rfl))) (λ_ _ _ _=>zea) (λ_ _ _ _=>(yW (zlJ K rfl) (qv 0) (zgj (zG (qv 1) yk)))))))
  (uC (zbt (qv 1))))),?_⟩
 show⟨(by simp),λe0 H1 _ g1 S1=>⟨(by change 1<=sizeLine;decide),λr0 H2 n2 g2 S2=>?_⟩⟩;have S02:y3 H H2:=λb o e=>S2 _ _ (S1 _ _ e)
 have bo:H r0=none:=by
  cases e:H r0 with
  | none=>rfl
  | some o=>rw[S1 _ _ e] at n2;cases n2
 show⟨_,rfl,ca,rfl,⟨xs,.of (S02 _ _ a2)⟩,zk4 (K:=K) (xs:=xs) (λi σ H3=>∃ (ra:Addr) (ys:AT) (v2:Option V),σ=[some (.ref ca),some (.ref ra),v2]/\H ra=none/\H3 ra=some (.lst ys)/\IsL H3 ((yj (cs.take i)).map stD) ys/\y3 H H3)
  ⟨r0,_,none,rfl,bo,g2,⟨_,_,rfl,⟨e0,_,rfl,S2 _ _ g1,rfl⟩,rfl⟩,S02⟩ (λi σ H3 _ ⟨_,_,_,_,_,_,_,S⟩=>.of (S _ _ a2)) ?_ ?_⟩
 rintro i x σ H3 hi ⟨ra,ys,v2,rfl,a4,Z,O,S3⟩;have bs:=(ac.mp hi).1;have U:i<cs.length:=by rw[<- hL.1];exact bs
 obtain⟨wa,a5,a7⟩:=hL.2 i cs[i] (ah U);rw[hi] at a5;cases a5;have ag:=a3 cs[i] (bL U);have ap:cs.take (i+1)=cs.take i++[cs[i]]:=zh (ah U);have bx:=ad i;have as:=ad (i+1);rw[ap,yY] at as;have av:=O.length;rw[ab] at av;have al:∀I∈yj (cs.take i),I.length<=8:=λI hr=>by rw[zdl _ _ hr,aN];lia
 generalize cs[i]=ws at a7 ag ap as;generalize a0:yj (cs.take i)=rows at O bx as av al;have an:=S3 _ _ a7;show⟨_,rfl,ra,rfl,⟨_,.of Z⟩,λacc L=>?_⟩;show zhr (xs:=ys) L (λj J H'=>(∃v0 v1,J=[v0,v1,some (.ref wa)])/\(∃zs,H' acc=some (.lst zs)/\IsL H' ((xC (rows.take j) ws).map stD) zs)/\y3 H3 H') (λH' z1 z2=>⟨⟨_,_,rfl⟩,⟨[],z1,rfl⟩,z2⟩) (λ_ _ _ _ ⟨_,_,S⟩=>.of (S _ _ Z)) ?_ ?_;rintro j y J H4 hy ⟨⟨v0,v1,rfl⟩,⟨zs,B,q⟩,S4⟩;obtain⟨d,hd,b0⟩:=(O.stay (zu.same S4)).get hy;rw[aj] at hd;obtain⟨I,a1,rfl⟩:=aA.mp hd;obtain⟨rwa,rv,rfl,bb,b1⟩:=b0;obtain rfl:=b1.of_ints;have cc:=(ac.mp a1).1;have cd:=al I (ak a1);change zie _ zbk _ _ _ _ _ _ _ _ _;show zm0 ?_;show⟨_,rfl,wa,rfl,⟨_,.of (S4 _ _ an)⟩,?_⟩;show zhz (xs:=ws.map V.int) (λm J H'=>(∃v1,J=[some (.ref rwa),v1,some (.ref wa)])/\(∃zs,H' acc=some (.lst zs)/\IsL H' ((xC (rows.take j) ws++(ws.take m).map λw=>I++[w]).map stD) zs)/\y3 H3 H'/\H' rwa=some (.tup (I.map V.int))) ⟨⟨_,rfl⟩,⟨zs,B,by simpa using q⟩,S4,bb⟩ (λ_ _ _ _ ⟨_,_,S,_⟩=>.of (S _ _ an)) ?_ ?_;rintro m u J H5 hu ⟨⟨v1,rfl⟩,⟨zs,B,q⟩,S5,Y⟩;rw[aj] at hu;obtain⟨wv,bd,rfl⟩:=aA.mp hu;have ch:=(ac.mp bd).1;show zmG ⟨_,rfl,_,rfl,(by change 1<=sizeLine;decide),λt1 H6 _ g6 S6=>?_⟩;show⟨rwa,t1,_,_,rfl,rfl,S6 _ _ Y,g6,cg (zcz (by rw[ab];change I.length+1<=1000;lia)),λt2 H7 g7 S7=>?_⟩;have S57:y3 H5 H7:=λb o e=>S7 _ _ (S6 _ _ e);have b2:=q.length;rw[ab,aD,ue,ab,aN,aN] at b2;have cl:=ue rows ws;have b3:(min j rows.length) * ws.length<=65536 * 4:=Nat.mul_le_mul (by lia) ag;show⟨zs,S57 _ _ B,aM (show zs.length<=500000 by lia) (by ext),⟨_,rfl⟩,⟨_,zj,?_⟩,zmf L λb o e=>S57 _ _ (S5 _ _ e),?_⟩;show IsL.stayT (zh3.app (S57 _ _ B)) (xU _) ?_;rw[zh bd,aF (l₁:=ws.take m),<- b5,aF];show (q.stay (zu.same S57)).append (IsL.one ⟨t2,_,rfl,g7,?_⟩);rw[aF];exact IsL.ints.append (IsL.ints (ns:=[wv]));rw[zd (by grind)];exact S57 _ _ Y;rintro J H5 ⟨⟨v1,rfl⟩,⟨zs,B,q⟩,S5,Y⟩;rw[ab,aT] at q;show⟨⟨_,_,rfl⟩,⟨zs,B,?_⟩,S5⟩;rw[zh a1,zbV];exact q;rintro J H4 ⟨⟨v0,v1,rfl⟩,⟨zs,B,q⟩,S4⟩;rw[av,aT] at q;show⟨acc,zs,_,rfl,?_,B,?_,λb o e=>S4 _ _ (S3 _ _ e)⟩
 cases e:H acc with
 | none=>rfl
 | some o=>rw[S3 _ _ e] at L;cases L
 rw[ap,yY,a0];exact q;rintro σ H3 ⟨ra,ys,v2,rfl,a4,Z,O,S3⟩;rw[hL.1,aT] at O;exact⟨_,rfl,k ra ys H3 a4 Z O S3⟩
def zfd (T:Txt K mg t):FnOk P w K mg base CX0 1 t.f15 t.d15 lO (spV 1 true zcV):=FnOk.lift (FnOk.mono (zgd T) (by ext)) zdO
def zkK  : FV:=λPn q n R=>∃ (rm:AG),q=[.d (stD rm)]/\(RoomOk rm)/\(R (.d (xf (yj (rm.map zk)))) n)
def zkK.i{rm:AG}(q:RoomOk rm)(h:R (.d (xf (yj (rm.map zk)))) n)  : zkK Pn [.d (stD rm)] n R:=⟨rm,rfl,q,h⟩
def zdX (T:Txt K mg t):FnOk P w K mg base CX0 2 t.f16 t.d16 [Au] (spV 1 true zkK):=by
 have G15:=zfd (P:=P) (w:=w) (base:=base) T;show Fun.okW (k:=1) (fr:=true) [] 0 T.q16.F zfo rfl (by ext) rfl λJ A B s H E Pn L=>⟨_,(zf (zN (wE zr <| yX T.q15 G15 L (za (xw (N:=["worths"]) (cix:=[none]) rfl (by walk_at "c") (wI uy <| zaN K rfl (kv 0)) (λ_ _ _ _=>(wG zB <| zi (i:=0) (show (["worths"]:AM).Nodup by decide +kernel))) (λ_ _ _ _=>yx) (λ_ _ _ _=>(wE uz <| zaM T.b_list T.b_range (zl (kb 0) zo)))) zg)))),λws n R O=>?_⟩;obtain⟨rm,rfl,q,r⟩:=O;left;show uI rm (λi=>W.d (.int i)) (by simp) (λρ=>∃a,ρ=[a]) (λm=>lsD (zk m)) (aw q.few (by ext)) ⟨_,rfl⟩ ?_ ?_;rintro m I U ⟨a,rfl⟩ C Y;have hb:=q.box m I;left;show⟨⟨by lia,by lia⟩,?_⟩;have Z:lsD (zk m)=Dt.lst (zfB m.toNat):=by unfold lsD zk zfB;rw[ay];rfl
 rw[<- Z];exact Y ⟨_,rfl⟩;left;show⟨rm.map zk,by rw[ay];rfl,by rw[ab];exact q.few,λc hc=>?_,r⟩;obtain⟨m,I,rfl⟩:=aC.mp hc;have:=q.box m I;rw[yL];lia
def zhV  : FV:=λPn q n R=>∃ (st:AG) (b x:Int),q=[.d (stD st),.d (.int b),.d (.int x)]/\(0<=b)/\(st.length<=1000)/\(R (.d (stD (chg st b x))) n)
def zhV.i{st:AG}{b x:Int}(q:0<=b)(B:st.length<=1000)(h:R (.d (stD (chg st b x))) n)  : zhV Pn [.d (stD st),.d (.int b),.d (.int x)] n R:=⟨st,b,x,rfl,q,B,h⟩
def zge (T:Txt K mg t):FnOk P w K mg base CX0 1 t.f17 t.d17 lv (spV 3 false zhV):=by show Fun.okW (k:=0) (fr:=false) [] 0 T.q17.F zhO rfl (by ext) rfl λI A q s H E Pn O=>⟨_,(zf (zN (zaB xK zax (JE.bo (zaB xK zax (JE.bo (wE u4 <| zeY (kb 0) yN (wO ye <| yO (kb 1)))) (JE.bo (xq (za (kv 2) zg))))) (JE.bo (wE u4 <| zeY (kb 0) (wO ye <| yO (JE.bo (zaB yS zbl (kb 1) (JE.bo zq)))) yN))))),λU n R J=>?_⟩;obtain⟨st,b,x,rfl,L,B,r⟩:=J;left;show⟨zdu B,?_⟩;left;show⟨zdv B,?_⟩;rw[zfI L B];exact r
def zhX  : FV:=λPn B n R=>∃ (st:AG) (g:List (Int×Int)),B=[.d (stD st),.d (zet g)]/\(∀q∈g,0<=q.1/\q.1<st.length)/\(R (.d (.bl (xS st g))) n)
def zhX.i{st:AG}{g:List (Int×Int)}(B:∀q∈g,0<=q.1/\q.1<st.length)(h:R (.d (.bl (xS st g))) n)  : zhX Pn [.d (stD st),.d (zet g)] n R:=⟨st,g,rfl,B,h⟩
def zjJ (T:Txt K mg t):FnOk P w K mg base CX0 1 t.f18 t.d18 lJ (spV 2 false zhX):=by
 show Fun.okW (k:=0) (fr:=false) [] 2 T.q18.F zed rfl (by ext) rfl λZ A J s H E Pn hr=>⟨_,(zb (yr aH rfl (wI uy <| zaN K rfl (kv 1)) (wG uK <| uL (n:=2) K rfl rfl (wH z7 <| zw (wG zB <| zi (i:=2) zed.nd) (wH z7 <| zw (wG zB <| zi (i:=3) zed.nd) (wH uJ xt)))) (zf (wS zC <| yI (wT zm <| zz zd1 zmp (JE.bo (zah yo xu (kb 0) (kb 2) (λ_ _=>rfl))) (kb 3) (zA _)) (zf (zN zgQ)) zF)))
   (zf (zN zgQ))),λws n R hF=>?_⟩
 obtain⟨st,g,rfl,hg,r⟩:=hF;left;show zL g (λq=>.d (x4 q)) (by rw[ay];rfl) (λi ρ m=>m=n/\(∃L O,ρ=[some (.d (stD st)),some (.d (zet g)),L,O])/\xS st (g.take i)=true) ⟨rfl,⟨_,_,rfl⟩,rfl⟩ ?_ ?_;rintro i q ρ m U ⟨rfl,⟨L,O,rfl⟩,I⟩ C B E hC _ hE;have Y:=hg q (ak U);left;show onA Y.1 Y.2 ?_;left;show zhK (λh=>?_) (λh=>?_);left;show hE ?_;have e:xS st g=false:=by unfold xS;exact List.all_eq_false.mpr ⟨q,ak U,λz=>h (bz z)⟩
 rw[e] at r;exact r;left;show hC ⟨rfl,⟨_,_,rfl⟩,?_⟩;unfold xS at I ⊢;rw[zh U,List.all_append,I];simp[h];rintro ρ m ⟨rfl,⟨L,O,rfl⟩,I⟩;rw[aT] at I;rw[I] at r;left;exact r
def zgy{rm:AG}{bk:AW}{st hs:AG}(J:RoomOk rm)(I:y8 rm bk)(B:st.length=rm.length){Q:AV}(r:Q (.d (xf (uq bk st hs))) n):scR (eTp 4 (eCn (eN 0) (eCn (eN 1) (eCn (eN 2) (eCn (eN 3) eNl))))) (ztu (zqJ (zly dEq (zly ztv (zfL 4) (zfL 1)) (zfL 3))) (ztu (zqJ (zly zdC (zfL 1) (zfL 5))) (zqJ (dFn 2 (zhX Pn) (ze7 (zfL 4) (ze7 (zfL 0) zrh))))))
  (dFn 3 (zhV Pn) (ze7 (zfL 4) (ze7 (zfL 1) (ze7 (zfL 2) zrh)))) [none,none,none,none,some (.d (stD st)),some (.d (stD hs))] (λks n'=>∃m,ks.length<64/\1<=m/\(∀st∈ks,st.length=m)/\∀l':AF,l'.Perm ks->(l'.Pairwise λa b=>HT.lexLt a b=true)->Q (.d (xf l')) n') ((bk.map z8).map W.d) n:=by
 have h8:=J.few;have F:∀ks:AF,ks.Nodup->(∀z∈ks,z∈zaz bk st hs)->ks.length<=32:=λks h1 h2=>zaI I h8 J.box h1 h2;show zpS bk (λx=>W.d (z8 x)) (by rw[ay];rfl) (λρ=>∃a b c d,ρ=[a,b,c,d,some (.d (stD st)),some (.d (stD hs))]) (λx=>uU st x&&!hs.contains x.b) (λx=>chg st x.b x.r) ⟨_,_,_,_,rfl⟩ ?_ (λks h1 h2=>by have:=F ks h1 h2;lia) ?_;rintro x hx ad ⟨a,b,c,d,rfl⟩ C hY L;have O:=I x hx;have b0:=O.b0;have b1:=O.b1;left;show onA b0 (by lia) ?_;left;show xm (λU=>?_) (λU=>L (by unfold uU;rw[bc U];simp) ⟨_,_,_,_,rfl⟩);left;show⟨hs,rfl,?_⟩;left;show zm2 (λY=>?_) (λY=>L (by rw[Y];simp) ⟨_,_,_,_,rfl⟩);left;show zhX.i (λq hq=>?_) ?_;have:=O.giv.ok q hq;rw[B];exact⟨this.1,this.2.1⟩;left;show zlH (λZ=>?_) (λZ=>L (by unfold uU;rw[Z];simp) ⟨_,_,_,_,rfl⟩);left;show zhV.i b0 (by lia) ⟨_,rfl,hY ?_ ⟨_,_,_,_,rfl⟩⟩;unfold uU;rw[a9 U,Z,Y];rfl;intro ks h1 h2;show⟨rm.length,by have:=F ks h1 λz hz=>(h2 z).mp hz;lia,J.pos,λz hz=>ug I B z ((h2 z).mp hz),λl' hp hu=>?_⟩;rw[show l'=uq bk st hs from zhf (ug I B) hu λz=>(hp.mem_iff).trans (h2 z)];exact r
def zkH  : FV:=λPn q n R=>∃ (rm:AG) (bk:AW) (st hs:AG) (v:W),q=[.d (stD rm),.d (xa bk),.d (stD st),v]/\(v = .d (stD hs)\/(hs=[]/\v = .d .non))/\(RoomOk rm)/\(y8 rm bk)/\(st.length=rm.length)/\(R (.d (xf (uq bk st hs))) n)
def zkH.i{rm:AG}{st hs:AG}(B:v = .d (stD hs)\/(hs=[]/\v = .d .non))(F:RoomOk rm)(I:y8 rm bk)(q:st.length=rm.length)(h:R (.d (xf (uq bk st hs))) n)  : zkH Pn [.d (stD rm),.d (xa bk),.d (stD st),v] n R:=⟨rm,bk,st,hs,v,rfl,B,F,I,q,h⟩
def zcR (T:Txt K mg t):FnOk P w K mg base CX0 2 t.f19 t.d19 ly (spV 4 true zkH):=by
 have G17:=zge (P:=P) (w:=w) (base:=base) T;have G18:=zjJ (P:=P) (w:=w) (base:=base) T
 show FunD.okW (k:=1) (fr:=true) [] 1 T.q19.F za4 rfl (by ext) rfl λO A B s H E Pn I=>⟨_,(zb (wS zp <| zD (i:=4) za4.nd (wE zrg <| j_if (wT zm <| zq8 (kb 3)) (xq zg) (kv 3)))
   (zf (zN (zlm T.b_sorted (xc I) (N:=lb) (cix:=[none,none,none,none,some 2,some 4]) rfl (by walk_at "c") (wI uy <| zaN K rfl (kv 1)) (λ_ _ _ _=>(wG uK <| uL (n:=4) K rfl rfl (wH z7 <| zw (wG zB <| zi (i:=0) (show (lb:AM).Nodup by decide +kernel)) (wH z7 <| zw (wG zB <| zi (i:=1) (show (lb:AM).Nodup by decide +kernel)) (wH z7 <| zw (wG zB <| zi (i:=2) (show (lb:AM).Nodup by decide +kernel)) (wH z7 <| zw (wG zB <| zi (i:=3) (show (lb:AM).Nodup by decide +kernel)) (wH uJ xt))))))) (λ_ _ _ _=>(zbd (JW.t (wW ux <| zaP (wT zm <| zz xP zcG (JE.bo (zah yo xu (kb 4) (kb 1) (λ_ _=>rfl))) (kb 3) (zA _)) (wW ux <| zaP (wT zm <| zz zff zmq (kb 1) (kb 5) (by with_unfolding_all rfl)) (xR (.inl rfl) (wT zm <| uW (JE.bo (wE zr <| yX T.q18 G18 I (za (kv 4) (za (kv 0) zg))))))))))) (λ_ _ _ _=>(wE zr <| yX T.q17 G17 I (za (kv 4) (za (kv 1) (za (kv 2) zg))))))))),λZ n R U=>?_⟩
 obtain⟨rm,bk,st,hs,v,rfl,Y,J,L,q,r⟩:=U;left;rcases Y with rfl | ⟨rfl,rfl⟩;left;exact zgy J L q r;left;exact zgy J L q r
structure Gr (V:AF)(g:AG->AF):Prop where
 nd:V.Nodup
 few:V.length<=256
 sub:∀s∈V,∀t∈g s,t∈V
 snd:∀s∈V,(g s).Nodup
 gl:∀s∈V,(g s).length<=32
def ldD (V:AF)(g:AG->AF):List (AG×Dt):=V.map λs=>(s,xf (g s))
def mkD (V:AF)(c:AG->Int):List (AG×Dt):=V.map λs=>(s,.int (c s))
def yB {f:AG->Dt}{s:AG}:∀ {V:AF},s∈V->yy (V.map λs=>(s,f s)) s=some (f s)
 | v::V,h=>by
  by_cases e:v=s;simp[yy,e];have:=yB (f:=f) ((aE.mp h).resolve_left λz=>e z.symm);simpa [yy,e] using this
def zdT {V:AF}{c:AG->Int}{t:AG}{x:Int}(h:t∈V):zeu (mkD V c) t (.int x)=mkD V λs=>if s=t then x else c s:=by
 unfold zeu mkD;rw[if_pos (fG.mpr ⟨(t,.int (c t)),aC.mpr ⟨t,h,rfl⟩,a9 rfl⟩),ay];show cR λs _=>?_;by_cases e:s=t;simp[e];simp[e]
def zai {V:AF}{g:AG->AF}:((ldD V g).map λq=>W.d (stD q.1))=V.map λs=>W.d (stD s):=by
 unfold ldD;right
def zqo{rm:AG}{s t:AG}(B:y8 rm bk)(hs:StOk rm s)(F:t∈uq bk s []):StOk rm t:=by obtain⟨x,I,_,_,rfl⟩:=xD.mp (xO.mp F);have q:=B x I;exact zeg hs q.b0 q.b1 q.r0 q.r1
def zmD{rm:AG}(B:RoomOk rm)(q:y8 rm bk)(F:(yj (rm.map zk)).length<=256):Gr (yj (rm.map zk)) λs=>uq bk s [] where
 nd:=zmC rm
 few:=F
 sub:=λs hs t I=>zcA (zqo q (xB _ _ hs) I)
 snd:=λs hs=>zs8 (znF q (xB _ _ hs).len)
 gl:=λs hs=>znE q B.few B.box (xB _ _ hs).len
def ztm  : FV:=λPn q n R=>∃ (rm:AG) (bk:AW),q=[.d (stD rm),.d (xa bk)]/\(RoomOk rm)/\(y8 rm bk)/\(R (.df (ldD (yj (rm.map zk)) λs=>uq bk s [])) n)
def ztm.i{rm:AG}(q:RoomOk rm)(B:y8 rm bk)(h:R (.df (ldD (yj (rm.map zk)) λs=>uq bk s [])) n)  : ztm Pn [.d (stD rm),.d (xa bk)] n R:=⟨rm,bk,rfl,q,B,h⟩
def zaY (T:Txt K mg t):FnOk P w K mg base CX0 3 t.f20 t.d20 lu (spV 2 false ztm):=by
 have G16:=zdX (P:=P) (w:=w) (base:=base) T;have G19:=zcR (P:=P) (w:=w) (base:=base) T;show Fun.okW (k:=2) (fr:=false) [] 0 T.q20.F zbj rfl (by ext) rfl λJ A q s H E Pn B=>⟨_,(zf (zN (zuw (zgR (xc B) (N:=[Ak,Au,Av]) (cix:=[none,some 0,some 1]) rfl (by walk_at "c") (wI yz <| yw K rfl (wE zr <| yX T.q16 G16 B (za (kv 0) zg))) (λ_ _ _ _=>(wG zB <| zi (i:=0) (show ([Ak,Au,Av]:AM).Nodup by decide +kernel))) (λ_ _ _ _=>yx) (λ_ _ _ _=>(kb 0)) (λ_ _ _ _=>(zuv T.q19 G19 B (za (kv 1) (za (kv 2) (za (kv 0) zg))))))))),λws n R L=>?_⟩;obtain⟨rm,bk,rfl,I,O,r⟩:=L;left;show zkK.i I ?_;left;show zdD (yj (rm.map zk)) (by simp) (λρ=>∃a,ρ=[a,some (.d (stD rm)),some (.d (xa bk))]) (λ_=>true) (λs=>xf (uq bk s [])) (zmC rm) (aw (znB I) (by ext)) ⟨_,rfl⟩ ?_ ?_;rintro s hs U ⟨a,rfl⟩ C Y Z;left;show zkH.i (.inr ⟨rfl,rfl⟩) I O (xB _ _ hs).len ?_;left;exact⟨_,rfl,Y rfl ⟨_,rfl⟩⟩;rw[dn.mpr λ_ _=>rfl];exact r
def zto  : FV:=λPn q n R=>∃ (V:AF) (g:AG->AF),q=[.df (ldD V g)]/\(Gr V g)/\(∀c:AG->Int,(∀t∈V,c t=((V.flatMap g).count t:Nat))->R (.dt (mkD V c)) n)
def zto.i{V:AF}{g:AG->AF}(q:Gr V g)(h:∀c:AG->Int,(∀t∈V,c t=((V.flatMap g).count t:Nat))->R (.dt (mkD V c)) n)  : zto Pn [.df (ldD V g)] n R:=⟨V,g,rfl,q,h⟩
def zdW (T:Txt K mg t):FnOk P w K mg base CX0 1 t.f21 t.d21 [A1] (spV 1 true zto):=by
 show Fun.okW (k:=0) (fr:=true) [1] 3 T.q21.F xY rfl (by ext) rfl λag A Y s H E Pn Z=>⟨_,(zb (wS yf <| zf4 (i:=1) (zhD (ix:=1) (xc Z) xY.nd rfl rfl (N:=lM) (cix:=[none]) rfl (by walk_at "c") (zhC (kv 0)) (λ_ _ _ _=>(wG zB <| zi (i:=0) (show (lM:AM).Nodup by decide +kernel))) (λ_ _ _ _=>yx) (λ_ _ _ _=>(kb 0)) (λ_ _ _ _=>zq)))
   (zb (yr aH rfl (zhC (kv 0)) (wG zB <| zi (i:=2) xY.nd) (zf (yr aH rfl (wI yz <| yw K rfl (zf1 (xc Z) (kb 0) (kb 2) (λ_ _=>rfl))) (wG zB <| zi (i:=3) xY.nd) (zf (zi9 (F:=λi j=>i+j) 1 (xc Z) (kb 3) zq0 (JE.bo zq))))))
   (zf (wS zaU <| zb6 1)))),λws n R hF=>?_⟩
 obtain⟨V,g,rfl,hG,r⟩:=hF;left;have hV:=hG.few;intro _;rw[zai];show zdD V rfl (λρ=>∃a,ρ=[a]) (λ_=>true) (λ_=>.int 0) hG.nd (aw hV (by ext)) ⟨_,rfl⟩ ?_ ?_;rintro s hs al ⟨a,rfl⟩ C hY an;left;exact⟨_,rfl,hY rfl ⟨_,rfl⟩⟩;rw[dn.mpr λ_ _=>rfl];left;intro _;rw[zai];show zL V (λs=>W.d (stD s)) rfl (λi ρ m=>m=n/\∃ (c:AG->Int) (v2 J:Option W),ρ=[some (.df (ldD V g)),some (.dt (mkD V c)),v2,J]/\∀t∈V,c t=(((V.take i).flatMap g).count t:Nat)) ⟨rfl,λ_=>0,_,_,rfl,by simp⟩ ?_ ?_;rintro i s ρ m hs ⟨rfl,c,v2,J,rfl,I⟩ C B E hC _ _;have L:=ak hs;left;show⟨s,rfl,yD (yB L) ?_⟩;left;show zL (g s) (λs=>W.d (stD s)) (by simp) (λj ρ m'=>m'=m/\∃ (c:AG->Int) (J:Option W),ρ=[some (.df (ldD V g)),some (.dt (mkD V c)),some (.d (stD s)),J]/\∀t∈V,c t=(((V.take i).flatMap g++(g s).take j).count t:Nat)) ⟨rfl,c,_,rfl,by simpa using I⟩ ?_ ?_;rintro j t ρ m' U ⟨rfl,c,J,rfl,I⟩ C' B' E' ad _ _;have O:=hG.sub s L t (ak U);left;show⟨t,rfl,_,yB O,?_⟩;left;show⟨aM (by unfold mkD;rw[ab];exact hV) (by ext),?_⟩;rw[zdT O];show ad ⟨rfl,_,_,rfl,λz hz=>?_⟩;have:=I z hz;rw[zh U,<- b5,List.count_append];by_cases e:z=t;right;rw[if_neg e,this,List.count_singleton,if_neg (by simpa using λq=>e q.symm),Nat.add_zero];rintro ρ m' ⟨rfl,c,J,rfl,I⟩;rw[aT] at I;show hC ⟨rfl,c,_,_,rfl,λt U=>?_⟩;rw[I t U,zh hs,List.flatMap_append];simp;rintro ρ m ⟨rfl,c,v2,J,rfl,I⟩;rw[aT] at I;left;exact r c I
def Wk (g:AG->AF):AF->Prop
 | a::b::l=>b∈g a/\Wk g (b::l)
 | _=>True
def zkB {g:AG->AF}{a b:AG}(h:b∈g a):∀ {l:AF},Wk g (l++[a])->Wk g (l++[a]++[b])
 | [],_=>⟨h,trivial⟩
 | [_],w=>⟨w.1,h,trivial⟩
 | _::y::l,w=>⟨w.1,zkB h (l:=y::l) w.2⟩
def znw {g:AG->AF}{b:AF}:∀ {a:AF},Wk g (a++b)->Wk g a
 | [],_=>trivial
 | [_],_=>trivial
 | _::y::a,h=>⟨h.1,znw (a:=y::a) h.2⟩
def zmv {g:AG->AF}{h:AG}{q:AF}(w:Wk g (h::(q++[h]))):Wk g (q++[h]++[(q++[h]).getD 0 []]):=by
 cases q with
 | nil=>exact w
 | cons x q=>exact zkB w.1 (l:=x::q) w.2
structure Rg (V:AF)(g:AG->AF)(rd:AF):Prop where
 nd:rd.Nodup
 ne:rd≠[]
 sub:∀s∈rd,s∈V
 wk:Wk g (rd++[rd.getD 0 []])
def ztq  : FV:=λPn B n R=>∃ (V lf:AF) (g:AG->AF),B=[.df (ldD V g),.d (xf lf)]/\(Gr V g)/\(∀s∈lf,s∈V)/\(lf.Nodup)/\(lf≠[])/\(∀t∈lf,∃s∈lf,t∈g s)/\(∀q:AF,Rg V g q->q.length<=256->R (.d (xf q)) n)
def ztq.i{V lf:AF}{g:AG->AF}(B:Gr V g)(hs:∀s∈lf,s∈V)(F:lf.Nodup)(I:lf≠[])(J:∀t∈lf,∃s∈lf,t∈g s)(h:∀q:AF,Rg V g q->q.length<=256->R (.d (xf q)) n)  : ztq Pn [.df (ldD V g),.d (xf lf)] n R:=⟨V,lf,g,rfl,B,hs,F,I,J,h⟩
def zcS (T:Txt K mg t):FnOk P w K mg base CX0 1 t.f22 t.d22 lL (spV 2 true ztq):=by
 show Fun.okW (k:=0) (fr:=true) [3,6] 5 T.q22.F yd rfl (by ext) rfl λbx A a3 s H E Pn Y=>⟨_,(zb (wS zp <| zD (i:=2) yd.nd (xy (zil Y.units rfl) zs3 (by rfl) T.b_set PyProof.Rows.boot_set (zl (kb 1) zo)))
   (zb (wS yf <| xj (i:=3) yd.nd zi6)
   (zb (yr aH rfl (wI yz <| yw K rfl (kv 1)) (wG zB <| zi (i:=4) yd.nd) (zf (yr aH rfl (wI yz <| yw K rfl (zf1 (xc Y) (kb 0) (kb 4) (λ_ _=>rfl))) (wG zB <| zi (i:=5) yd.nd) (zf (wS zC <| yI (wT zm <| zz (zrD (xc Y)) zvv (kb 5) (kb 2) (by with_unfolding_all rfl)) (zf (wS zaT <| zbM 3 (xc Y) (kb 5) (kv 4))) zF)))))
   (zb (wS yf <| xj (i:=6) yd.nd (uR zg))
   (zb (wS zp <| zD (i:=4) yd.nd (zah x9 zem (kb 1) (JE.bo zq) (λ_ _=>rfl)))
   (zb (zgS aH (wT zm <| zz (za1 Y.units) zkt (kb 4) (kb 6) (by with_unfolding_all rfl)) (zb (wS uY <| zbm 6 (kv 4))
   (zf (wS zp <| zD (i:=4) yd.nd (wE yt <| xp (xc Y) (kb 3) (kb 4) (λ_ _=>rfl))))))
   (zf (zN (wE zgY <| zmV (JE.bo (wE uZ <| zeX (kb 6) (wO ye <| yO (JE.bo (zlk K rfl Y.units (kb 6) (kb 4)))) yN))))))))))),λws n R hF=>?_⟩
 obtain⟨V,lf,g,rfl,hG,hs,hN,h0,hp,r⟩:=hF;left;have hV:=hG.few;have hl:=ya hN hs;show⟨lf,rfl,λks h1 h2=>by have:=ya h1 h2;lia,λks b0 a4=>?_⟩;left;show zL lf (λs=>W.d (stD s)) (by rw[ay];rfl) (λi ρ m=>m=n/\i<=lf.length/\∃ (kvs:List (AG×Dt)) (v4 v5:Option W),ρ=[some (.df (ldD V g)),some (.d (xf lf)),some (.ss P w ks),some (.dt kvs),v4,v5,none]/\kvs.length<=32 * i/\(∀t d,yy kvs t=some d->∃s∈lf,t∈g s/\d=stD s)/\∀s∈lf.take i,∀t∈g s,t∈lf->yy kvs t≠none) ⟨rfl,aK _,[],_,_,rfl,ai _,λt d h=>by simp[yy] at h,by simp⟩ ?_ ?_
 ·rintro i s ρ m ag ⟨rfl,b1,kvs,v4,v5,rfl,ad,O,L⟩ C B E hC _ _;have al:=ak ag;have hi:=(ac.mp ag).1;have b2:=hG.gl s (hs s al);left;show⟨s,rfl,yD (yB (hs s al)) ?_⟩;left;show zL (g s) (λs=>W.d (stD s)) (by rw[ay];rfl) (λj ρ m'=>m'=m/\∃ (kvs:List (AG×Dt)) (v5:Option W),ρ=[some (.df (ldD V g)),some (.d (xf lf)),some (.ss P w ks),some (.dt kvs),some (.d (stD s)),v5,none]/\kvs.length<=32 * i+j/\(∀t d,yy kvs t=some d->∃s∈lf,t∈g s/\d=stD s)/\(∀s∈lf.take i,∀t∈g s,t∈lf->yy kvs t≠none)/\∀t∈(g s).take j,t∈lf->yy kvs t≠none) ⟨rfl,kvs,_,rfl,ad,O,L,by simp⟩ ?_ ?_
  ·rintro j t ρ m' ht ⟨rfl,kvs,v5,rfl,ad,O,L,Z⟩ C' B' E' as _ _;have hj:=(ac.mp ht).1;left;show⟨t,ks,rfl,rfl,λc hc=>?_⟩;left;show zlH (λh=>?_) (λh=>?_)
   ·left;show⟨t,rfl,aM (by lia:_<=10000) (by ext),as ⟨rfl,_,_,rfl,by have:=zgh kvs t (stD s);lia,λz d U=>?_,λz U y hy J=>?_,λy hy J=>?_⟩⟩;rw[zaS] at U;by_cases e:z=t;rw[if_pos e] at U;exact⟨s,al,e ▸ ak ht,(bv U).symm⟩;rw[if_neg e] at U;exact O z d U;rw[zaS];split;exact Option.some_ne_none _;exact L z U y hy J
    ·rw[zaS];split;exact Option.some_ne_none _
     ·rename_i e;rw[zh ht] at hy;exact Z y ((aG.mp hy).resolve_right λz=>e (ax.mp z)) J
   left;show as ⟨rfl,kvs,_,rfl,by lia,O,L,λy hy J=>?_⟩;rw[zh ht] at hy;rcases aG.mp hy with z | z;exact Z y z J;rw[ax.mp z] at J;rw[hc.mpr ((a4 t).mpr J)] at h;cases h
  rintro ρ m' ⟨rfl,kvs,v5,rfl,ad,O,L,Z⟩;rw[aT] at Z;show hC ⟨rfl,hi,kvs,_,_,rfl,by lia,O,λz U y hy J=>?_⟩;rw[zh ag] at U;rcases aG.mp U with q | q;exact L z q y hy J;rw[ax.mp q] at hy;exact Z y hy J
 rintro ρ m ⟨rfl,_,kvs,v4,v5,rfl,ad,O,L⟩;rw[aT] at L
 have a5:∀t∈lf,∃s∈lf,t∈g s/\yy kvs t=some (stD s):=λt ht=>by
  obtain⟨s,h1,h2⟩:=hp t ht
  cases e:yy kvs t with
  | none=>exact absurd e (L s h1 t h2 ht)
  | some d=>
   obtain⟨s',h3,h4,rfl⟩:=O t d e;exact⟨s',h3,h4,rfl⟩
 left;obtain⟨x0,l0,rfl⟩:=bg h0;have e0:atI ((x0::l0).map stD) 0=some (stD x0):=zcW (i:=0) rfl;show yD e0 ?_;left;show znt (λk ρ n'=>n'=m/\∃ (I:AF) (h:AG),k=(x0::l0).length - I.length/\ρ=[some (.df (ldD V g)),some (.d (xf (x0::l0))),some (.ss P w ks),some (.dt kvs),some (.d (stD h)),v5,some (.d (xf I))]/\I.Nodup/\(∀z∈I,z∈x0::l0)/\h∈x0::l0/\Wk g (h::I.reverse)) (x0::l0).length ⟨rfl,[],x0,rfl,rfl,.nil,by simp,am,trivial⟩ ?_;rintro k ρ n' ⟨rfl,I,h,rfl,rfl,an,ap,hh,av⟩ C B X hC hB hX;have b3:=ya an ap;left;show⟨uf,zb9 I,λb hb=>?_⟩;left;show zm2 (λhn=>?_) (λhn=>?_)
 have a7:h∉I:=λz=>by
  rw[hb.mpr (zce.mpr z)] at hn;cases hn
 obtain⟨s,bb,bd,bk⟩:=a5 h hh;left;show⟨aM (by rw[ab];lia:_<=1000) (by ext),?_⟩;have e2:I.map stD++[stD h]=(I++[h]).map stD:=by rw[aF];rfl
 rw[e2];show⟨h,rfl,yD bk ?_⟩;have a0:(I++[h]).Nodup:=by rw[cm];exact⟨an,by simp,λa ha c hc e=>a7 (by rw[<- ax.mp hc,<- e];exact ha)⟩
 have a1:∀z∈I++[h],z∈x0::l0:=λz U=>by
  rcases aG.mp U with q | q;exact ap z q;rw[ax.mp q];exact hh
 have:=ya a0 a1;rw[aD,cz] at this;show hC ((x0::l0).length - (I++[h]).length) (by rw[aD,cz];lia) ⟨rfl,I++[h],s,rfl,rfl,a0,a1,bb,by rw[List.reverse_append];exact⟨bd,av⟩⟩;have bl:stD h∈I.map stD:=hb.mp hn;show hB ?_;left;show⟨uf,zb9 I,bl,λj a2 b4=>?_⟩;left;rw[zio,<- List.map_drop,<- List.map_reverse];have hj:I[j]?=some h:=by rw[aj] at a2;obtain⟨z,U,e⟩:=aA.mp a2;rw[U,zkj e]
 obtain⟨hj,bs⟩:=ac.mp hj;have hd:I.drop j=h::I.drop (j+1):=by rw[cD hj,bs]
 have Y:(I.drop j).reverse=(I.drop (j+1)).reverse++[h]:=by rw[hd,cJ]
 show r _ ⟨List.pairwise_reverse.mpr ((an.sublist (List.drop_sublist _ _)).imp λh e=>h e.symm),by rw[Y];simp,λz U=>hs z (ap z (List.mem_of_mem_drop (List.mem_reverse.mp U))),?_⟩ (by rw[List.length_reverse,cw];lia);rw[Y];show zmv (znw (b:=(I.take j).reverse) ?_);rw[List.cons_append,<- Y,<- List.reverse_append,c6];exact av
def rsV (V P:AF):AF:=V.filter λs=>decide (s∉P)
def cnt (V:AF)(g:AG->AF)(P:AF)(t:AG):Nat:=((rsV V P).flatMap g).count t
def zdx {g:AG->AF}{P:AF}{h t:AG}(B:h∉P):∀ {V:AF},V.Nodup->h∈V->cnt V g P t=cnt V g (P++[h]) t+(g h).count t
 | v::V,F,J=>by
  have q:=bH.mp F;unfold cnt rsV;by_cases e:v=h;subst e;have L:(V.filter λs=>decide (s∉P++[v]))=V.filter λs=>decide (s∉P):=List.filter_congr λs hs=>by have:s≠v:=λz=>q.1 (z ▸ hs);simp[this]
  grind;have I:=zdx (g:=g) (t:=t) B q.2 (by grind);unfold cnt rsV at I;by_cases O:v∈P;right;grind
structure Lp (V:AF)(g:AG->AF)(P Q:AF)(h:AG)(d:AF)(L:AG->Int):Prop where
 a:∀s∈P,∀t∈g s,L s+1<=L t
 b:∀t∈d,L h+1<=L t
 c:∀t∈V,L t=0\/∃s∈Q,t∈g s/\L t=L s+1
def Lp.step {V:AF}{g:AG->AF}{P:AF}{h:AG}{d:AF}{L:AG->Int}(p:Lp V g P (P++[h]) h d L){t:AG}(hs:∀s∈P++[h],s≠t)(U:t∈g h):Lp V g P (P++[h]) h (d++[t]) λz=>if z=t then if L h+1 > L t then L h+1 else L t else L z:=by
 have I:∀z,L z<=if z=t then if L h+1 > L t then L h+1 else L t else L z:=λz=>by
  by_cases e:z=t
  ·subst e;rw[if_pos rfl];split <;> lia
  rw[if_neg e];lia
 have J:=hs h (by simp);show⟨λs h1 u h2=>?_,λu F=>?_,λu F=>?_⟩;have:=p.a s h1 u h2;have:=I u;simp only[if_neg (hs s (bA _ h1))];lia
 ·simp only[if_neg J];rcases aG.mp F with q | q;have:=p.b u q;have:=I u;lia
  ·rw[ax.mp q];simp only[if_pos];split <;> lia
 have B:L u=0\/∃s∈P++[h],u∈g s/\L u=(if s=t then if L h+1 > L t then L h+1 else L t else L s)+1:=(p.c u F).imp_right λ⟨s,h1,h2,h3⟩=>⟨s,h1,h2,by rw[if_neg (hs s h1)];exact h3⟩;by_cases e:u=t;subst e;simp only[if_pos];by_cases O:L h+1 > L u;simp only[if_pos O] at B ⊢;exact .inr ⟨h,by simp,U,by rw[if_neg J]⟩;simp only[if_neg O] at B ⊢;exact B;simp only[if_neg e];exact B
structure Lw (V:AF)(g:AG->AF)(L:AG->Int):Prop where
 up:∀s∈V,∀t∈g s,L s+1<=L t
 one:∀t∈V,L t=0\/∃s∈V,t∈g s/\L t=L s+1
 box:∀t∈V,0<=L t/\L t<=256
structure Kn (V:AF)(g:AG->AF)(P row:AF)(d:AF)(c:AG->Int):Prop where
 nd:row.Nodup
 sub:∀z∈row,z∈V
 zero:∀t∈V,t∈row↔c t=0
 c:∀t∈V,c t=(cnt V g P t:Int) - (d.count t:Nat)
def zex  : FV:=λPn B n R=>∃ (rm:AG) (bk:AW),B=[.d (stD rm),.d (xa bk)]/\(RoomOk rm)/\(y8 rm bk)/\((yj (rm.map zk)).length<=256)/\((∀q:AF,Rg (yj (rm.map zk)) (λs=>uq bk s []) q->q.length<=256->R (.d (.tup [.str "ring",xf q])) n)/\∀L:AG->Int,Lw (yj (rm.map zk)) (λs=>uq bk s []) L->R (.d (.tup [.str "worths",stD ((yj (rm.map zk)).map L)])) n)
def zex.i{rm:AG}(B:RoomOk rm)(F:y8 rm bk)(I:(yj (rm.map zk)).length<=256)(h:(∀q:AF,Rg (yj (rm.map zk)) (λs=>uq bk s []) q->q.length<=256->R (.d (.tup [.str "ring",xf q])) n)/\∀L:AG->Int,Lw (yj (rm.map zk)) (λs=>uq bk s []) L->R (.d (.tup [.str "worths",stD ((yj (rm.map zk)).map L)])) n)  : zex Pn [.d (stD rm),.d (xa bk)] n R:=⟨rm,bk,rfl,B,F,I,h⟩
def zaZ (T:Txt K mg t):FnOk P w K mg base CX0 4 t.f23 t.d23 lu (spV 2 false zex):=by
 have G20:=zaY (P:=P) (w:=w) (base:=base) T;have G21:=zdW (P:=P) (w:=w) (base:=base) T;have G22:=zcS (P:=P) (w:=w) (base:=base) T
 show Fun.okW (k:=3) (fr:=false) [3,4,5] 8 T.q23.F zx rfl (by ext) rfl λb1 A bl s H E Pn hr=>⟨_,(zb (wS zp <| zD (i:=2) zx.nd (wE zr <| yX T.q20 G20 hr (za (kv 0) (za (kv 1) zg))))
   (zb (wS yf <| xj (i:=3) zx.nd (wE zr <| yX T.q21 G21 hr (za (kv 2) zg)))
   (zb (wS yf <| xj (i:=4) zx.nd (zgR (xc hr) (N:=lM) (cix:=[none]) rfl (by walk_at "c") (zhC (kv 2)) (λ_ _ _ _=>(wG zB <| zi (i:=0) (show (lM:AM).Nodup by decide +kernel))) (λ_ _ _ _=>yx) (λ_ _ _ _=>(kb 0)) (λ_ _ _ _=>zq)))
   (zb (wS yf <| zf4 (i:=5) (zbL (ix:=5) zx.nd rfl rfl (N:=lA) (cix:=[none,some 3]) rfl (by walk_at "c") (zhC (kv 2)) (λ_ _ _ _=>(wG zB <| zi (i:=0) (show (lA:AM).Nodup by decide +kernel))) (λ_ _ _ _=>(zbd (wT zm <| zz xP zcG (JE.bo (wE yt <| xp (xc hr) (kb 1) (kb 0) (λ_ _=>rfl))) (JE.bo zq) (zA _)))) (λ_ _ _ _=>(kv 0))))
   (zb (wS zp <| zD (i:=6) zx.nd zq)
   (zb (zgS aH (wT zm <| zz zgf zqe (kb 6) (JE.bo (zO yQ zag (by rfl) T.b_len aX (zl (kb 5) zo))) (zA _)) (zb (wS zp <| zD (i:=7) zx.nd (zah x9 zem (kb 5) (kb 6) (λ_ _=>rfl)))
   (zb (yr aH rfl (wI yz <| yw K rfl (zf1 (xc hr) (kb 2) (kb 7) (λ_ _=>rfl))) (wG zB <| zi (i:=8) zx.nd) (zb (wS zaT <| zbM 4 (xc hr) (kb 8) (zO (zik rfl) zs0 (by rfl) T.b_max PyProof.Rows.boot_max (zl (JE.bo (wE yt <| xp (xc hr) (kb 4) (kb 8) (λ_ _=>rfl))) (zl (JE.bo (zaB yS zbl (JE.bo (wE yt <| xp (xc hr) (kb 4) (kb 7) (λ_ _=>rfl))) (JE.bo zq))) zo))))
   (zb (zi9 (F:=λi j=>i - j) 3 (xc hr) (kb 8) zq1 (JE.bo zq))
   (zf (wS zC <| yI (wT zm <| zz xP zcG (JE.bo (wE yt <| xp (xc hr) (kb 3) (kb 8) (λ_ _=>rfl))) (JE.bo zq) (zA _)) (zf (wS uY <| zbm 5 (kv 8))) zF)))))
   (zf (zq5 (F:=λi j=>i+j) (i:=6) zx.nd zq2 (JE.bo zq))))))
   (zb (wS zp <| zjb (i:=9) (zbL (ix:=9) zx.nd rfl rfl (N:=lA) (cix:=[none,some 3]) rfl (by walk_at "c") (zhC (kv 2)) (λ_ _ _ _=>(wG zB <| zi (i:=0) (show (lA:AM).Nodup by decide +kernel))) (λ_ _ _ _=>(zbd (wT zm <| zz zlK u_gt (JE.bo (wE yt <| xp (xc hr) (kb 1) (kb 0) (λ_ _=>rfl))) (JE.bo zq) (zA _)))) (λ_ _ _ _=>(kv 0))))
   (zb (wS zC <| yI (wT zoG <| zlo (kb 9)) (zf (zN (xq (za zf2 (za (wE zr <| yX T.q22 G22 hr (za (kv 2) (za (kv 9) zg))) zg))))) zF)
   (zf (zN (xq (za zf2 (za (xy xh zcC (by rfl) T.b_tuple bV (zl (JE.bo (xw (N:=[Ak,"longest"]) (cix:=[none,some 4]) rfl (by walk_at "c") (zhC (kv 2)) (λ_ _ _ _=>(wG zB <| zi (i:=0) (show ([Ak,"longest"]:AM).Nodup by decide +kernel))) (λ_ _ _ _=>yx) (λ_ _ _ _=>(wE yt <| xp (xc hr) (kb 1) (kb 0) (λ_ _=>rfl))))) zo)) zg))))))))))))),λws n R hF=>?_⟩
 obtain⟨rm,bk,rfl,hR,hB,hq,r⟩:=hF;left;obtain⟨rR,rW⟩:=r;have hG:=zmD hR hB hq;show ztm.i hR hB ?_;left;generalize yj (rm.map zk)=V at *;generalize (λs=>uq bk s [])=g at *;have hV:=hG.few;show zto.i hG λc0 bs=>?_;left;intro _;rw[zai];show zdD V rfl (λρ=>∃a,ρ=[a]) (λ_=>true) (λ_=>.int 0) hG.nd (aw hV (by ext)) ⟨_,rfl⟩ ?_ ?_;rintro s hs a0 ⟨a,rfl⟩ C hY an;left;exact⟨_,rfl,hY rfl ⟨_,rfl⟩⟩;rw[dn.mpr λ_ _=>rfl];left;intro _;rw[zai];show zdy V (λs=>W.d (stD s)) rfl (λρ=>∃a,ρ=[a,some (.dt (mkD V c0))]) (λs=>decide (c0 s=0)) (λs=>stD s) (aw hV (by ext)) ⟨_,rfl⟩ ?_ ?_;rintro s hs a0 ⟨a,rfl⟩ C hY an;left;show⟨s,rfl,yD (yB hs) ?_⟩;left;exact xm (λz=>hY (a9 z) ⟨_,rfl⟩) (λz=>an (bc z) ⟨_,rfl⟩);left;have k0:Kn V g [] (V.filter λs=>decide (c0 s=0)) [] c0:=⟨hG.nd.filter _,λz hz=>(bu.mp hz).1,λt O=>by simp[bu,O],λt O=>by rw[bs t O];unfold cnt rsV;rw[dn.mpr λ_ _=>by simp];simp⟩;show znt (λk ρ n'=>n'=n/\∃ (I:AF) (a:Nat) (c L:AG->Int) (v7 v8:Option W),k=V.length - a/\ρ=[some (.d (stD rm)),some (.d (xa bk)),some (.df (ldD V g)),some (.dt (mkD V c)),some (.dt (mkD V L)),some (.d (xf I)),some (.d (.int (a:Int))),v7,v8,none]/\a<=I.length/\Kn V g (I.take a) I [] c/\Lp V g (I.take a) (I.take a) [] [] L/\∀t∈V,0<=L t/\L t<=a) V.length ⟨rfl,_,0,c0,λ_=>0,_,_,rfl,rfl,aK _,k0,⟨by simp,by simp,λ_ _=>.inl rfl⟩,λ_ _=>⟨b6 _,b6 _⟩⟩ ?_;rintro k ρ n' ⟨rfl,I,a,c,L,v7,v8,rfl,rfl,ap,J,hU,hL⟩ C B X hC bx hX;have a4:=ya J.nd J.sub;left;rw[ab];show xm (λb2=>?_) (λb3=>?_)
 ·have ha:a<I.length:=by lia
  obtain⟨h,hh⟩:∃h,I[a]?=some h:=⟨_,ah ha⟩;have b0:=ak hh;have ad:=J.sub h b0
  have a5:h∉I.take a:=λz=>by
   have:=J.nd;rw[<- c6 a I,cm] at this;show this.2.2 h z h ?_ rfl;rw[cD ha];have e:I[a]=h:=by rw[ah ha] at hh;exact bv hh
   rw[e];exact am
  generalize hP:I.take a=P at *;left;show yD (show atI (I.map stD) (a:Int)=some (stD h) from zcW (by rw[aj,hh];rfl)) ?_;left;show⟨h,rfl,yD (yB ad) ?_⟩;left;show zL (g h) (λs=>W.d (stD s)) (by rw[ay];rfl) (λj ρ m'=>m'=n'/\∃ (I:AF) (c L:AG->Int) (v8:Option W),ρ=[some (.d (stD rm)),some (.d (xa bk)),some (.df (ldD V g)),some (.dt (mkD V c)),some (.dt (mkD V L)),some (.d (xf I)),some (.d (.int (a:Int))),some (.d (stD h)),v8,none]/\I[a]?=some h/\I.take a=P/\Kn V g P I ((g h).take j) c/\L h<=a/\Lp V g P (P++[h]) h ((g h).take j) L/\∀t∈V,0<=L t/\L t<=a+1) ⟨rfl,I,c,L,_,rfl,hh,hP,by simpa using J,(hL h ad).2,⟨hU.a,by simp,λt O=>(hU.c t O).imp_right λ⟨s,h1,h2⟩=>⟨s,bA _ h1,h2⟩⟩,λt O=>by have:=hL t O;lia⟩ ?_ ?_
  ·rintro j t ρ m' O ⟨rfl,I,c,L,v8,rfl,U,al,J,a1,hU,hL⟩ C' B' E' as _ _;have a2:=ak O;have Y:=hG.sub h ad t a2;have a4:=ya J.nd J.sub;have ap:=(ac.mp U).1
   have c1:((g h).take j).count t=0:=by
    have:=hG.snd h ad;rw[<- c6 j (g h),cm] at this;show List.count_eq_zero.mpr λz=>this.2.2 t z t ?_ rfl;have hj:=(ac.mp O).1;rw[cD hj];have e:(g h)[j]=t:=by rw[ah hj] at O;exact bv O
    rw[e];exact am
   have c2:=zdx (g:=g) (t:=t) a5 hG.nd ad;have c3:0<(g h).count t:=List.count_pos_iff.mpr a2;have c4:=J.c t Y;have av:t∉I:=λz=>by have:=(J.zero t Y).mp z;lia
   have a7:h≠t:=λz=>av (z ▸ ak U)
   have bb:∀z∈V,0<=(if z=t then if L h+1 > L t then L h+1 else L t else L z)/\(if z=t then if L h+1 > L t then L h+1 else L t else L z)<=a+1:=λz hz=>by
    have l1:=hL z hz;have l2:=hL h ad;have l3:=hL t Y;split
    ·split <;> lia
    lia
   have a3:=hU.step (t:=t) (λs hs e=>av (by
    rw[<- e];rcases aG.mp hs with q | q;rw[<- al] at q;exact bW q;rw[ax.mp q];exact ak U)) a2
   rw[<- zh O] at a3
   have ct:∀z,((g h).take (j+1)).count z=((g h).take j).count z+if t=z then 1 else 0:=λz=>by
    rw[zh O,List.count_append,List.count_singleton];by_cases e:t=z;simp[e];simp[e]
   left;show⟨t,rfl,yD (yB Y) ?_⟩;left;show⟨h,rfl,yD (yB ad) ?_⟩;left;show⟨t,rfl,aM (by unfold mkD;rw[ab];exact hV) (by ext),?_⟩;rw[zdT Y];show⟨t,rfl,_,yB Y,?_⟩;left;show⟨aM (by unfold mkD;rw[ab];exact hV) (by ext),?_⟩;rw[zdT Y];left;show⟨t,rfl,yD (yB Y) ?_⟩;left;show xm (λhz=>?_) (λhz=>?_);rw[if_pos rfl] at hz;left;show⟨aM (by rw[ab];lia:_<=1000) (by ext),?_⟩;have e2:I.map stD++[stD t]=(I++[t]).map stD:=by rw[aF];rfl
   rw[e2];show as ⟨rfl,I++[t],_,_,_,rfl,by rw[a6 ap];exact U,by rw[List.take_append_of_le_length (by lia)];exact al,⟨?_,λz Z=>?_,λz Z=>?_,λz Z=>?_⟩,by rw[if_neg a7];exact a1,a3,bb⟩;rw[cm];exact⟨J.nd,by simp,λa ha c hc e=>av (by rw[<- ax.mp hc,<- e];exact ha)⟩;rcases aG.mp Z with q | q;exact J.sub z q;rw[ax.mp q];exact Y;rw[aG,ax];by_cases e:z=t;subst e;rw[if_pos rfl];exact⟨λ_=>by lia,λ_=>.inr rfl⟩;rw[if_neg e,<- J.zero z Z];exact⟨λq=>q.resolve_right e,.inl⟩;have:=J.c z Z;rw[ct z];by_cases e:z=t;subst e;rw[if_pos rfl,if_pos rfl];lia;rw[if_neg e,if_neg λq=>e q.symm];lia;rw[if_pos rfl] at hz;left;show as ⟨rfl,I,_,_,_,rfl,U,al,⟨J.nd,J.sub,λz Z=>?_,λz Z=>?_⟩,by rw[if_neg a7];exact a1,a3,bb⟩;by_cases e:z=t;subst e;rw[if_pos rfl];exact⟨λq=>absurd q av,λq=>absurd (by lia) hz⟩;rw[if_neg e];exact J.zero z Z;have:=J.c z Z;rw[ct z];by_cases e:z=t;subst e;rw[if_pos rfl,if_pos rfl];lia;rw[if_neg e,if_neg λq=>e q.symm];lia
  rintro ρ m' ⟨rfl,I,c,L,v8,rfl,U,al,J,a1,hU,hL⟩;rw[aT] at J hU;have eP:I.take (a+1)=P++[h]:=by rw[zh U,al]
  have ap:=(ac.mp U).1;have a4:=ya J.nd J.sub;left;show hC (V.length - (a+1)) (by lia) ⟨rfl,I,a+1,c,L,_,_,rfl,rfl,ap,⟨J.nd,J.sub,J.zero,λz hz=>?_⟩,eP ▸ ⟨λs hs t O=>(aG.mp hs).elim (λq=>hU.a s q t O) (λq=>by rw[ax.mp q] at O ⊢;exact hU.b t O),by simp,hU.c⟩,λz hz=>by have:=hL z hz;lia⟩;have:=J.c z hz;have c2:=zdx (g:=g) (t:=z) a5 hG.nd ad;rw[eP];simp only[eX];lia
 have U:I.take a=I:=bX (by lia);rw[U] at J hU;show bx ?_;left;intro _;rw[zai];show zdy V (λs=>W.d (stD s)) rfl (λρ=>∃a,ρ=[a,some (.dt (mkD V c))]) (λs=>decide (0<c s)) (λs=>stD s) (aw hV (by ext)) ⟨_,rfl⟩ ?_ ?_;rintro s hs a0 ⟨a,rfl⟩ C hY an;left;show⟨s,rfl,yD (yB hs) ?_⟩;left;exact xm (λz=>hY (a9 z) ⟨_,rfl⟩) (λz=>an (bc z) ⟨_,rfl⟩);left;have ag:∀t,t∈(V.filter λs=>decide (0<c s))↔t∈V/\0<c t:=λt=>by simp[bu]
 cases ef:V.filter λs=>decide (0<c s) with
 | nil=>
  with_reducible show zdY ?_ ?_
  rfl;left;intro _;rw[zai];show uI V (λs=>W.d (stD s)) rfl (λρ=>∃a,ρ=[a,some (.dt (mkD V L))]) (λs=>.int (L s)) (aw hV (by ext)) ⟨_,rfl⟩ ?_ ?_;rintro s hs a0 ⟨a,rfl⟩ C as;left;show⟨s,rfl,yD (yB hs) ?_⟩;left;exact as ⟨_,rfl⟩;left
  have bd:∀t∈V,t∈I:=λt O=>by
   have h1:t∉V.filter λs=>decide (0<c s):=by rw[ef];simp
   have h2:=J.c t O;simp only[eX] at h2;show (J.zero t O).mpr ?_;have:¬ 0<c t:=λz=>h1 ((ag t).mpr ⟨O,z⟩);lia
  have:=rW L ⟨λs hs=>hU.a s (bd s hs),λt O=>(hU.c t O).imp_right λ⟨s,h1,h2⟩=>⟨s,J.sub s h1,h2⟩,λt O=>by have:=hL t O;lia⟩;unfold stD at this;rwa[ay] at this
 | cons x l=>
  rw[ef] at ag;have hs:=λs hs=>(ag s).mp hs;with_reducible show zlI ?_ ?_
  rfl;left;show ztq.i (lf:=x::l) hG (λs h=>(hs s h).1) (ef ▸ hG.nd.filter _) (by simp) (λt O=>?_) λrd g1 g2=>?_;obtain⟨h1,h2⟩:=hs t O;have:=J.c t h1;simp only[eX] at this;have hc:0<cnt V g I t:=by lia
  obtain⟨s,h3,h4⟩:=fH.mp (List.count_pos_iff.mp hc);obtain⟨h5,h6⟩:=bu.mp h3;have h7:s∉I:=bz h6;have h8:=J.c s h5;simp only[eX] at h8;have h9:c s≠0:=λz=>h7 ((J.zero s h5).mpr z);exact⟨s,(ag s).mpr ⟨h5,by lia⟩,h4⟩;left;exact rR rd g1 g2
def zey  : FV:=λPn q n R=>∃ (rm:AG) (bk:AW) (st:AG),q=[.d (xa bk),.d (stD st)]/\(RoomOk rm)/\(y8 rm bk)/\(st.length=rm.length)/\(R (.d (xf (uq bk st []))) n)
def zey.i{rm:AG}{st:AG}(B:RoomOk rm)(F:y8 rm bk)(q:st.length=rm.length)(h:R (.d (xf (uq bk st []))) n)  : zey Pn [.d (xa bk),.d (stD st)] n R:=⟨rm,bk,st,rfl,B,F,q,h⟩
def zas (T:Txt K mg t):FnOk P w K mg base CX0 1 t.f24 t.d24 lw (spV 2 true zey):=by
 show Fun.okW (k:=0) (fr:=true) [2] 6 T.q24.F yq rfl (by ext) rfl λa0 A ap s H E Pn hr=>⟨_,(zb (wS yf <| xj (i:=2) yq.nd (uR zg))
   (zb (yr aH rfl (wI uy <| zaN K rfl (kv 0)) (wG uK <| uL (n:=4) K rfl rfl (wH z7 <| zw (wG zB <| zi (i:=3) yq.nd) (wH z7 <| zw (wG zB <| zi (i:=4) yq.nd) (wH z7 <| zw (wG zB <| zi (i:=5) yq.nd) (wH z7 <| zw (wG zB <| zi (i:=6) yq.nd) (wH uJ xt)))))) (zf (wS zC <| yI (JW.t (wW ux <| zaP (wT zm <| zz xP zcG (JE.bo (zah yo xu (kb 1) (kb 4) (λ_ _=>rfl))) (kb 6) (zA _)) (xR (.inl rfl) (wT zm <| uW (JE.bo (zO (zgD rfl) zmo (by rfl) T.b_all c7 (zl (JE.bo (xw (N:=ln) (cix:=[none,none,some 1]) rfl (by walk_at "c") (wI uy <| zaN K rfl (kv 3)) (λ_ _ _ _=>(wG uK <| uL (n:=2) K rfl rfl (wH z7 <| zw (wG zB <| zi (i:=0) (show (ln:AM).Nodup by decide +kernel)) (wH z7 <| zw (wG zB <| zi (i:=1) (show (ln:AM).Nodup by decide +kernel)) (wH uJ xt))))) (λ_ _ _ _=>yx) (λ_ _ _ _=>(zoi xP zcG (JE.bo (zah yo xu (kb 2) (kb 0) (λ_ _=>rfl))) (kb 1) (zA _))))) zo))))))) (zb (wS zp <| zD (i:=7) yq.nd (zaB xK zax (JE.bo (zaB xK zax (JE.bo (wE u4 <| zeY (kb 1) yN (wO ye <| yO (kb 4)))) (JE.bo (xq (za (kv 5) zg))))) (JE.bo (wE u4 <| zeY (kb 1) (wO ye <| yO (JE.bo (zaB yS zbl (kb 4) (JE.bo zq)))) yN))))
   (zf (wS zC <| yI (wT zm <| zz (za1 hr.units) zkt (kb 7) (kb 2) (by with_unfolding_all rfl)) (zf (wS uY <| zbm 2 (kv 7))) zF))) zF)))
   (zf (zN (zO znL zp4 (by rfl) T.b_sorted dy (zl (kb 2) zo)))))),λws n R hF=>?_⟩
 obtain⟨rm,bk,st,rfl,hR,hB,J,r⟩:=hF;left;have h8:=hR.few;show zL bk (λx=>W.d (z8 x)) (by rw[ay];rfl) (λi ρ m=>m=n/\∃ (l:AF) (O U Y Z v7:Option W),ρ=[some (.d (xa bk)),some (.d (stD st)),some (.d (.lst (l.map stD))),O,U,Y,Z,v7]/\l.Nodup/\(∀z,z∈l↔z∈zaz (bk.take i) st [])) ⟨rfl,[],_,_,_,_,_,rfl,.nil,by simp[zaz]⟩ ?_ ?_;rintro i x ρ m hx ⟨rfl,l,O,U,Y,Z,v7,rfl,L,I⟩ C B E hC _ _;have hW:=hB x (ak hx);have b0:=hW.b0;have b1:=hW.b1;have as:∀q∈x.g,0<=q.1/\q.1<st.length:=λq hq=>by have:=hW.giv.ok q hq;rw[J];exact⟨this.1,this.2.1⟩
 have ad:uU st x=false->∀O U Y Z v7,C [some (.d (xa bk)),some (.d (stD st)),some (.d (.lst (l.map stD))),O,U,Y,Z,v7] m:=λhg O U Y Z v7=>by show hC ⟨rfl,l,_,_,_,_,_,rfl,L,λz=>?_⟩;rw[I z,zh hx,zcZ,hg];simp
 left;show onA b0 (by lia) ?_;left;show xm (λhw=>?_) (λhw=>⟨ad (by unfold uU;rw[bc hw];rfl) _ _ _ _ _⟩);left;show uI x.g (λq=>.d (x4 q)) (by rw[ay];rfl) (λρ=>∃a b,ρ=[a,b,some (.d (stD st))]) (λq=>.bl (decide (yh st q.1=q.2))) (aw (ziL hW.giv h8) (by ext)) ⟨_,_,rfl⟩ ?_ ?_;rintro q hq a1 ⟨a,b,rfl⟩ D hD;have hb:=as q hq;left;show onA hb.1 hb.2 ?_;left;exact hD ⟨_,_,rfl⟩;left;show⟨x.g.map λq=>decide (yh st q.1=q.2),by rw[ay];rfl,?_⟩;rw[show (x.g.map λq=>decide (yh st q.1=q.2)).all id=xS st x.g by unfold xS;rw[List.all_map];rfl];left;show zlH (λhk=>?_) (λhk=>⟨ad (by unfold uU;rw[hk,Bool.and_false]) _ _ _ _ _⟩);have hg:uU st x=true:=by unfold uU;rw[a9 hw,hk];rfl
 left;show⟨zdu (by lia),?_⟩;left;show⟨zdv (by lia),?_⟩;rw[zfI b0 (by lia)];left;show⟨uf,zb9 l,λb hb=>?_⟩;left;have ag:∀z,z∈zaz (bk.take (i+1)) st []↔z∈zaz (bk.take i) st []\/z=chg st x.b x.r:=λz=>by rw[zh hx,zcZ,hg];simp
 have al:l.length<=32:=zaI (λy hy=>hB y (bW hy)) h8 hR.box L λz hz=>(I z).mp hz
 cases b with
 | true=>
  have av:=zce.mp (hb.mp rfl);walk_at "cf";show hC ⟨rfl,l,_,_,_,_,_,rfl,L,λz=>?_⟩;rw[ag z,I z];constructor;exact .inl;rintro (z1 | rfl);exact z1;exact (I _).mp av
 | false=>
  have an:chg st x.b x.r∉l:=λz=>by have:=hb.mpr (zce.mpr z);cases this
  walk_at "ct";show⟨by rw[ab];exact aM al (by ext),hC ⟨rfl,l++[chg st x.b x.r],_,_,_,_,_,by rw[aF];rfl,?_,λz=>?_⟩⟩;rw[cm];exact⟨L,by simp,λa ha c hc e=>an (by rw[<- ax.mp hc,<- e];exact ha)⟩;rw[aG,ax,ag z,I z]
 rintro ρ m ⟨rfl,l,O,U,Y,Z,v7,rfl,L,I⟩;rw[aT] at I;left;show⟨l,rm.length,rfl,?_,hR.pos,λz hz=>ug hB J z ((I z).mp hz),L,λl' hp hu=>?_⟩;have:=zaI hB h8 hR.box L λz hz=>(I z).mp hz;lia;rw[show l'=uq bk st [] from zhf (ug hB J) hu λz=>hp.mem_iff.trans (I z)];exact r
def ziK {l:AF}{i:Nat}(h:i<l.length):l.getD i []∈l:=by grind
def zal {α:Type}[DecidableEq α]:∀ {l:List α},¬ l.Nodup->∀ {ks:List α},ks.Nodup->(∀z∈ks,z∈l)->ks.length<l.length
 | [],h,_,_,_=>absurd .nil h
 | a::l,h,ks,q,hs=>by
  by_cases F:a∈l;have:=ya q λz B=>(aE.mp (hs z B)).elim (λe=>e ▸ F) id;exact dO this;have h2:¬ l.Nodup:=λz=>h (bH.mpr ⟨F,z⟩);have:=zal h2 (q.erase a) λz B=>by obtain⟨I,J⟩:=(q.mem_erase_iff).mp B;exact (aE.mp (hs z J)).resolve_left I
  grind
def zjG {α:Type}[DecidableEq α]{l ks:List α}(B:ks.Nodup)(hs:∀z,z∈ks↔z∈l):ks.length=l.length↔l.Nodup:=by
 show⟨λh=>?_,λh=>Nat.le_antisymm (ya B λz q=>(hs z).mp q) (ya h λz q=>(hs z).mpr q)⟩;by_cases F:l.Nodup;exact F;have:=zal F B λz q=>(hs z).mp q;lia
def ztL {a b:AF}(e:xf a=xf b):a=b:=(eU λx y=>zkj).mp (Dt.lst.inj e)
def zjd {st:AG}{g:List (Int×Int)}{b w:Int}(F:0<=b)(I:b<st.length)(J:∀q∈g,0<=q.1)(L:∀q∈g,q.1≠b):xS (chg st b w) g=xS st g:=by
 have e:∀q∈g,decide (yh (chg st b w) q.1=q.2)=decide (yh st q.1=q.2):=λq B=>by rw[ur F I (J q B),if_neg (L q B)]
 unfold xS;rw[cH,bn,bn];exact⟨λh q B=>by rw[<- e q B];exact h q B,λh q B=>by rw[e q B];exact h q B⟩
def znv {g g':AG->AF}:∀ {l:AF},(∀s∈l,∀t∈g s,t∈g' s)->Wk g l->Wk g' l
 | [],_,_=>trivial
 | [_],_,_=>trivial
 | a::b::l,h,w=>⟨h a (by simp) b w.1,znv (l:=b::l) (λs hs=>h s (.tail _ hs)) w.2⟩
def znh {V:AF}{B:AF}{g:AG->AF}(h:Rg V g B):∀s∈B++[B.getD 0 []],s∈V:=λs hs=>by
 rcases aG.mp hs with q | q;exact h.sub s q;rw[ax.mp q];exact h.sub _ (ziK (eI.mpr h.ne))
def Rg.map {V q:AF}{g g':AG->AF}(h:Rg V g q)(B:∀s∈V,∀t∈g s,t∈g' s):Rg V g' q:=⟨h.nd,h.ne,h.sub,znv (λs hs=>B s (znh h s hs)) h.wk⟩
def zqa {V:AF}{g:AG->AF}{L:AG->Int}{b:AG}(B:∀s∈V,∀t∈g s,L s+1<=L t):∀ {l:AF} {a:AG},(∀s∈a::l,s∈V)->Wk g (a::(l++[b]))->L a<L b
 | [],a,q,w=>by have:=B a (q a (by simp)) b w.1;lia
 | c::l,a,q,w=>by have h1:=B a (q a (by simp)) c w.1;have h2:=zqa B (l:=l) (a:=c) (λs hs=>q s (.tail _ hs)) w.2;lia
def zpE {V B:AF}{g:AG->AF}{L:AG->Int}(h:Rg V g B)(F:Lw V g L):False:=by obtain⟨x,q,rfl⟩:=bg h.ne;exact dE _ (zqa F.up (λs hs=>h.sub s hs) h.wk)
def zrf {V:AF}{g:AG->AF}{L L':AG->Int}(h:Lw V g L)(h':Lw V g L'):∀ (n:Nat) (t:AG),t∈V->(L t).toNat=n->L t<=L' t:=λn=>by
 induction n using Nat.strongRecOn with
 | ind n F=>
  intro t B e;have b:=h.box t B;have I:=h'.box t B;rcases h.one t B with q | ⟨s,hs,hg,q⟩;lia;have J:=h.box s hs;have:=F (L s).toNat (by lia) s hs rfl;have:=h'.up s hs t hg;lia
def zuE {V:AF}{g:AG->AF}{L L':AG->Int}(h:Lw V g L)(h':Lw V g L'):V.map L=V.map L':=cR λt q=>by have:=zrf h h' _ t q rfl;have:=zrf h' h _ t q rfl;lia
def zdq{s t:AG}:t∈uq bk s []↔t∈zaz bk s []:=xO
def zqn{rm:AG}{s t:AG}(F:y8 rm bk)(hs:StOk rm s)(h:t∈uq bk s []):t≠s:=by
 obtain⟨x,I,B,_,rfl⟩:=xD.mp (zdq.mp h);have q:=F x I;intro e;have h1:=hs.len;have h2:=q.b1;have c:yh (chg s x.b x.r) x.b=x.r:=by rw[ur q.b0 (by lia) q.b0,if_pos rfl]
 rw[e] at c;unfold uU at B;rw[bw] at B;have:=bz B.1;exact q.ne (by lia)
def zjg (k:Nat):∀ns:AG,(Dt.toWs (ns.map .int)).all (PySem.W.kqdOk (k+1))=true
 | []=>rfl
 | n::ns=>by simp only[aB,Dt.toWs,cP,zjg k ns,cA];rfl
def zp1(B:PyData.strOk x=true){q:AG}:(Dt.tup [.str x,stD q]).eqOk:=by change ((PySem.W.kqdOk 7 (.str x))&&((Dt.toWs (q.map .int)).all (PySem.W.kqdOk 6)&&true))=true;rw[zjg 5 q,Bool.true_and,cA];exact B
def zkF (y:AG):∀ (l:AF) (x:AG),ziW ((x::l).map stD) ((l++[y]).map stD)=(List.range (l.length+1)).map λi:Nat=>W.d (.tup [stD ((x::l++[y]).getD i []),stD ((x::l++[y]).getD (i+1) [])])
 | [],x=>by simp[ziW]
 | a::l,x=>by have e:List.range ((a::l).length+1)=0::(List.range (l.length+1)).map Nat.succ:=List.range_succ_eq_map;change _::ziW ((a::l).map stD) ((l++[y]).map stD)=_;rw[zkF y l a,e];simp only[aB,ay];rfl
def znx {α B:Type}{f:α->Dt}{g:B->Dt}:∀ (l:List α) (k:List B),ziW (l.map f) (k.map g)=(l.zip k).map λq=>W.d (.tup [f q.1,g q.2])
 | [],_=>by simp[ziW]
 | _::_,[]=>by simp[ziW]
 | a::l,b::k=>by simp[ziW,znx l k]
def zhm {s:AG}:∀ {V:AF} {B:AG} {i:Nat},V.Nodup->V[i]?=some s->B.length=V.length->yy ((V.zip B).map λq=>(q.1,Dt.int q.2)) s=some (.int (B.getD i 0))
 | v::V,w::B,0,_,h,_=>by simp at h;simp[yy,h]
 | v::V,w::B,i+1,I,h,J=>by
  have F:=bH.mp I;have h:V[i]?=some s:=by simpa using h
  have L:v≠s:=λz=>F.1 (z ▸ ak h);have:=zhm F.2 h (by simpa using J);simpa [yy,L] using this
def ztk {g:AG->AF}:∀ {l:AF},Wk g l->∀i,i+1<l.length->l.getD (i+1) []∈g (l.getD i [])
 | [],_,i,h=>by simp at h
 | [_],_,i,h=>by simp at h
 | a::b::l,w,0,_=>w.1
 | a::b::l,w,i+1,h=>ztk (l:=b::l) w.2 i (by simpa using h)
def zst{rm:AG}{B:AF}(F:y8 rm bk)(h:Rg (yj (rm.map zk)) (λs=>uq bk s []) B):2<=B.length:=by
 have w:=h.wk;have hs:=h.sub;obtain⟨x,q,rfl⟩:=bg h.ne
 cases q with
 | nil=>exact absurd rfl (zqn F (xB _ _ (hs x (by simp))) w.1)
 | cons y q=>simp
def wid (rm:AG):AG:=(yh rm 0+1)::rm.drop 1
def zep {rm:AG}(h:rm≠[]){b:Int}(q:0<=b):yh (wid rm) b=if b=0 then yh rm 0+1 else yh rm b:=by
 obtain⟨r,B,rfl⟩:=bg h;obtain⟨j,rfl⟩:=Int.eq_ofNat_of_zero_le q
 cases j with
 | zero=>rfl
 | succ j=>
  rw[if_neg (by lia),zK,zK];rfl
def uG {rm:AG}(h:rm≠[]):(wid rm).length=rm.length:=by obtain⟨r,q,rfl⟩:=bg h;rfl
def zkA {rm:AG}(h:rm≠[]){b:Int}(q:0<=b):yh rm b<=yh (wid rm) b:=by
 rw[zep h q];split
 ·rename_i e;rw[e];lia
 lia
def zmu {rm:AG}{x:Wi}(B:rm≠[])(h:WishOk rm x):WishOk (wid rm) x:=by have O:=zkA B h.b0;have U:=h.r1;have Y:=h.w1;show⟨⟨λq I=>?_,h.giv.up⟩,h.b0,by rw[uG B];exact h.b1,h.apart,h.r0,by lia,h.w0,by lia,h.ne⟩;obtain⟨F,J,L,Z⟩:=h.giv.ok q I;have:=zkA B F;exact⟨F,by rw[uG B];exact J,L,by lia⟩
def ztj {rm s:AG}(q:rm≠[])(h:StOk rm s):StOk (wid rm) s:=⟨by rw[uG q];exact h.len,λb B F=>by rw[uG q] at F;have:=h.box b B F;have:=zkA q B;lia⟩
def zgA {s:AG}{b r:Int}(F:0<=b)(I:b<s.length)(h:b≠0)(z:Int):chg (chg s 0 z) b r=chg (chg s b r) 0 z:=by
 obtain⟨j,rfl⟩:=Int.eq_ofNat_of_zero_le F;have B:∀ {s:AG} {b w:Int},0<=b->b<s.length->(chg s b w).length=s.length:=λ{s b w} J h1=>by unfold chg;rw[aD,aD,aN,cw,cz];lia
 have hs:0<(s.length:Int):=by lia
 show c9 λi=>?_;by_cases hi:i<s.length
 have g:∀ {t:AG} {a w:Int},0<=a->a<t.length->i<t.length->(chg t a w)[i]?=some (if (i:Int)=a then w else t.getD i 0):=λ{t a w} J h1 hi=>by
  have:=ur (w:=w) J h1 (c:=(i:Int)) (by lia);rw[zK,zK] at this;rw[ah (by rw[B J h1];exact hi),<- this,ba,ah (by rw[B J h1];exact hi)];rfl
 rw[g (by lia) (by rw[B (by lia) hs];exact I) (by rw[B (by lia) hs];exact hi),g (by lia) (by rw[B F I];exact hs) (by rw[B F I];exact hi)];have L:=ur (w:=z) (by lia:(0:Int)<=0) hs (c:=(i:Int)) (by lia);have O:=ur (w:=r) F I (c:=(i:Int)) (by lia);rw[zK,zK] at L O;rw[L,O];by_cases q:(i:Int)=(j:Int);rw[if_pos q,if_neg (by lia),if_pos q];rw[if_neg q,if_neg q];rw[cZ (by rw[B F (by rw[B (by lia) hs];exact I),B (by lia) hs];lia),cZ (by rw[B (by lia) (by rw[B F I];exact hs),B F I];lia)]
def zti{rm:AG}{L:AG->Int}{rd:AF}(Z:RoomOk rm)(hB:y8 rm bk)(hL:Lw (yj (rm.map zk)) (λs=>uq bk s []) L)(h:Rg (yj ((wid rm).map zk)) (λs=>uq bk s []) rd):False:=by
 have B:=Z.ne;have hp:=Z.pos;obtain⟨x,q,rfl⟩:=bg h.ne
 have O:∀s,StOk (wid rm) s->yh s 0<yh rm 0->StOk rm s:=λs hs I=>⟨by have:=hs.len;rwa[uG B] at this,λb b0 b1=>by
  have:=hs.box b b0 (by rw[uG B];exact b1);rw[zep B b0] at this;split at this
  ·rename_i e;subst e;exact⟨this.1,I⟩
  exact this⟩
 have ad:∀s,StOk (wid rm) s->StOk rm (chg s 0 0):=λs hs=>by have hl:=hs.len;rw[uG B] at hl;have h2:=xM Z.box (b6 0) (by lia);show O _ (zeg hs (b6 0) (by rw[uG B];lia) (b6 0) (by rw[zep B (b6 0)];simp;lia)) ?_;rw[ur (b6 0) (by lia) (b6 0),if_pos rfl];lia
 show dE _ (zqa (V:=yj ((wid rm).map zk)) (L:=λs=>if yh s 0<yh rm 0 then L s else L (chg s 0 0)) (λs hs t ht=>?_) (λs hs=>h.sub s hs) h.wk);have hS:=xB _ _ hs;have hl:=hS.len;rw[uG B] at hl;obtain⟨y,hy,U,_,rfl⟩:=xD.mp (zdq.mp ht);have F:=hB y hy;have hb:=F.b1;have r1:=F.r1;unfold uU at U;rw[bw] at U;have hw:=bz U.1;have ag:=F.w1;change (if yh s 0<yh rm 0 then L s else L (chg s 0 0))+1<=if yh (chg s y.b y.r) 0<yh rm 0 then L (chg s y.b y.r) else L (chg (chg s y.b y.r) 0 0);rw[ur F.b0 (by lia) (b6 0)];by_cases I:yh s 0<yh rm 0
 ·have al:=O s hS I
  have an:(if (0:Int)=y.b then y.r else yh s 0)<yh rm 0:=by
   split
   ·rename_i e;rw[<- e] at r1;exact r1
   exact I
  rw[if_pos I,if_pos an];exact hL.up s (zcA al) _ ht
 have J:(0:Int)≠y.b:=λe=>by rw[<- e] at hw ag;lia
 rw[if_neg I,if_neg J,if_neg I,<- zgA F.b0 (by lia) (Ne.symm J)];show hL.up _ (zcA (ad s hS)) _ (zdq.mpr (xD.mpr ⟨y,hy,?_,by simp,rfl⟩));unfold uU;rw[ur (b6 0) (by lia) F.b0,if_neg (Ne.symm J),hw,zjd (b6 0) (by lia) (λz Y=>(F.giv.ok z Y).1) (λz Y e=>?_),U.2];simp;have h3:=bn.mp U.2 z Y;have h4:=bz h3;have h5:=(F.giv.ok z Y).2.2.2;rw[e] at h4 h5;lia
def zda (a:Int)(l:AG):yg (a::l)=a * yg l:=by
 have k:∀ (l:AG) (a:Int),l.foldl (· * ·) a=a * l.foldl (· * ·) 1:=λl=>by
  induction l with
  | nil=>intro a;simp
  | cons x l q=>intro a;rw[eA,eA,q,q (1 * x),Int.one_mul,Int.mul_assoc]
 unfold yg;rw[eA,k,Int.one_mul]
def zmt {rm:AG}{B:Int}(I:RoomOk rm)(U:yg rm<=B)(Y:B<64)(L:yh rm 0<4):RoomOk (wid rm)/\(yj ((wid rm).map zk)).length<=256:=by
 obtain⟨r,F,rfl⟩:=bg I.ne;have L:r<4:=L;have hr:=I.box r (.head _)
 have O:∀z∈wid (r::F),2<=z/\z<=4:=λz Z=>by
  rcases aE.mp Z with e | q;have e:z=r+1:=e;lia;exact I.box z (.tail _ q)
 show⟨⟨by simp[wid],I.few,O⟩,?_⟩;have h1:=y9 (wid (r::F)) λn J=>by have:=O n J;lia
 have h2:yg (wid (r::F))=(r+1) * yg F:=zda _ _;have h3:=zda r F;have hP:=u9 (ns:=F) λn J=>by have:=I.box n (.tail _ J);lia
 rw[h3] at U;rw[h2] at h1;obtain rfl | rfl:r=2\/r=3:=by lia
 lia;lia
def znu:Dt->Bool
 | .int _=>true
 | _=>false
def zhY  : FV:=λPn q n R=>∃ (d:Dt),q=[.d d]/\(R (.d (.bl (znu d))) n)
def zhY.i(h:R (.d (.bl (znu d))) n)  : zhY Pn [.d d] n R:=⟨d,rfl,h⟩
def ui (T:Txt K mg t):FnOk P w K mg base CX0 1 t.f25 t.d25 lK (spV 1 false zhY):=by show Fun.okW (k:=0) (fr:=false) [] 0 T.q25.F zbG rfl (by ext) rfl λB A q s H E Pn J=>⟨_,(zf (zN (wE zlx <| zut (JE.bo (wE zbe <| zeW (by rfl) T.b_isinstance T.b_int (kb 0))) (zuy (wE zlA <| zux (JE.bo (wE zbe <| zdK (by rfl) T.b_isinstance T.b_bool (kb 0)))))))),λL n R I=>?_⟩;obtain⟨d,rfl,r⟩:=I;left;cases d <;> exact r
def ztr  : FV:=λPn B n R=>∃ (rm:AG) (bk:AW) (q:AF),B=[.d (stD rm),.d (xa bk),.d (xf q)]/\(RoomOk rm)/\(y8 rm bk)/\((yj (rm.map zk)).length<=256)/\(Rg (yj (rm.map zk)) (λs=>uq bk s []) q)/\(q.length<=256)/\(R (.d (.bl true)) n)
def ztr.i{rm:AG}{q:AF}(F:RoomOk rm)(I:y8 rm bk)(J:(yj (rm.map zk)).length<=256)(L:Rg (yj (rm.map zk)) (λs=>uq bk s []) q)(B:q.length<=256)(h:R (.d (.bl true)) n)  : ztr Pn [.d (stD rm),.d (xa bk),.d (xf q)] n R:=⟨rm,bk,q,rfl,F,I,J,L,B,h⟩
def zaC (T:Txt K mg t):FnOk P w K mg base CX0 2 t.f26 t.d26 ll (spV 3 false ztr):=by
 have G4:=yC (P:=P) (w:=w) (base:=base) T;have G24:=zas (P:=P) (w:=w) (base:=base) T;have G25:=ui (P:=P) (w:=w) (base:=base) T
 show Fun.okW (k:=1) (fr:=false) [] 2 T.q26.F y1 rfl (by ext) rfl λcdv A outer s H E Pn hr=>⟨_,(zb (wS zC <| yI (JW.t (wW zbn <| zeZ (wT uA <| zaO (wT zm <| uW (JE.bo (wE zbe <| zdL (by rfl) T.b_isinstance T.b_list (kb 2))))) (xR (.inr rfl) (wT zm <| zz zgf zqe (JE.bo (zO yQ zag (by rfl) T.b_len aX (zl (kb 2) zo))) (JE.bo zq) (zA _))))) (zf (zN zgQ)) zF)
   (zb (wS zp <| zD (i:=3) y1.nd (wE zr <| yX T.q4 G4 hr (za (kv 0) zg)))
   (zb (yr aH rfl (wI yz <| yw K rfl (kv 2)) (wG zB <| zi (i:=4) y1.nd) (zf (wS zC <| yI (JW.t (wW zbn <| zeZ (wT uA <| zaO (wT zm <| uW (JE.bo (wE zbe <| x3 (by rfl) T.b_isinstance T.b_tuple (kb 4))))) (wW zbn <| zeZ (wT zm <| zz (za1 hr.units) zkt (kb 4) (kb 3) (by with_unfolding_all rfl)) (xR (.inr rfl) (wT uA <| zaO (wT zm <| uW (JE.bo (zO (zgD rfl) zmo (by rfl) T.b_all c7 (zl (JE.bo (xw (N:=[As]) (cix:=[none]) rfl (by walk_at "c") (wI uy <| zaN K rfl (kv 4)) (λ_ _ _ _=>(wG zB <| zi (i:=0) (show ([As]:AM).Nodup by decide +kernel))) (λ_ _ _ _=>yx) (λ_ _ _ _=>(wE zr <| yX T.q25 G25 hr (za (kv 0) zg))))) zo))))))))) (zf (zN zgQ)) zF)))
   (zb (wS zC <| yI (wT zm <| zz zd1 zmp (JE.bo (zi7 hr.units rfl T.b_len T.b_set (kb 2))) (JE.bo (zO yQ zag (by rfl) T.b_len aX (zl (kb 2) zo))) (zA _)) (zf (zN zgQ)) zF)
   (zf (zN (zO (zgD rfl) zmo (by rfl) T.b_all c7 (zl (JE.bo (xw (N:=lm) (cix:=[none,none,some 1]) rfl (by walk_at "c") (wI zgX <| zi8 rfl T.b_zip (za (kv 2) (za (zaB zoN zsW (JE.bo (wE uZ <| zeX (kb 2) (wO ye <| yO (JE.bo zq)) yN)) (JE.bo (wE uZ <| zeX (kb 2) yN (wO ye <| yO (JE.bo zq))))) zg))) (λ_ _ _ _=>(wG uK <| uL (n:=2) K rfl rfl (wH z7 <| zw (wG zB <| zi (i:=0) (show (lm:AM).Nodup by decide +kernel)) (wH z7 <| zw (wG zB <| zi (i:=1) (show (lm:AM).Nodup by decide +kernel)) (wH uJ xt))))) (λ_ _ _ _=>yx) (λ_ _ _ _=>(zoi (zrC hr.units) zkt (kb 1) (JE.bo (wE zr <| yX T.q24 G24 hr (za (kv 2) (za (kv 0) zg)))) (by with_unfolding_all rfl))))) zo)))))))),λws n R hF=>?_⟩
 obtain⟨rm,bk,rd,rfl,hR,hB,hq,hr,hrl,r⟩:=hF;left;have h2:=zst hB hr;rw[ab];show xm (λh=>absurd h (by lia)) (λ_=>?_);left;show zbR.i hR ?_;left;show zL rd (λs=>W.d (stD s)) (by rw[ay];rfl) (λi ρ m=>m=n/\∃v4,ρ=[some (.d (stD rm)),some (.d (xa bk)),some (.d (xf rd)),some (.d (xf (yj (rm.map zk)))),v4]) ⟨rfl,_,rfl⟩ ?_ ?_;rintro i s ρ m hs ⟨rfl,v4,rfl⟩ C B E hC _ _;have hsV:=hr.sub s (ak hs);have hsl:=(xB _ _ hsV).len;have h8:=hR.few;left;show⟨uf,zb9 _,λb hb=>?_⟩;obtain rfl:b=true:=hb.mpr (zce.mpr hsV);left;walk_at "cf";show uI s (λi=>W.d (.int i)) (by rw[ay];rfl) (λρ=>∃a,ρ=[a]) (λ_=>.bl true) (aw (show _<=8 by lia) (by ext)) ⟨_,rfl⟩ ?_ ?_;rintro x hx ρ' ⟨a,rfl⟩ C hC;left;show zhY.i ?_;exact hC ⟨_,rfl⟩;left;show⟨s.map λ_=>true,by rw[ay];rfl,?_⟩;rw[show (s.map λ_=>true).all id=true from bn.mpr λx hx=>by obtain⟨_,_,rfl⟩:=aC.mp hx;rfl];left;exact hC ⟨rfl,_,rfl⟩;rintro ρ m ⟨rfl,v4,rfl⟩;left;show⟨rd,rfl,λks h1 h2=>?_,λks hk1 hk2=>?_⟩;have:=ya h1 λz hz=>hr.sub z (h2 z hz);lia;left;rw[ab];show zhK (λh=>absurd (by rw[(zjG hk1 hk2).mpr hr.nd]) h) λ_=>?_;have hw:=hr.wk;have hs2:=λs h=>xB _ _ (znh hr s h);obtain⟨x,tl,rfl⟩:=bg hr.ne;left;rw[xo,xo,zbX,show (1:Int)=((1:Nat):Int) from rfl,L3.zbJ,ab,ab,<- aF,show (x::tl).drop 1++(x::tl).take 1=tl++[x] from rfl];show⟨aw (show _<=1000 by rw[cw,aN];lia) (by ext),?_⟩;left;rw[zkF];have hl2:(x::tl++[x]).length=tl.length+2:=by simp
 have hw:Wk (λs=>uq bk s []) (x::tl++[x]):=hw;have hs2:∀s∈x::tl++[x],StOk rm s:=hs2;generalize hr:x::tl++[x]=rg at *;show uI (List.range (tl.length+1)) (λi:Nat=>W.d (.tup [stD (rg.getD i []),stD (rg.getD (i+1) [])])) rfl (λρ=>∃u v,ρ=[u,v,some (.d (xa bk))]) (λ_=>.bl true) (by rw[az];exact aw (show _<=1000 by rw[aO] at hrl;lia) (by ext)) ⟨_,_,rfl⟩ ?_ ?_;rintro i hi ρ' ⟨u,v,rfl⟩ C hY;have hi':=aW.mp hi;left;show zey.i hR hB (hs2 _ (ziK (by lia))).len ?_;left;show⟨uf,zb9 _,λb hb=>?_⟩;obtain rfl:b=true:=hb.mpr (zce.mpr (ztk hw i (by lia)));exact hY ⟨_,_,rfl⟩;left;show⟨(List.range (tl.length+1)).map λ_=>true,by rw[ay];rfl,?_⟩;rw[show ((List.range (tl.length+1)).map λ_=>true).all id=true from bn.mpr λx hx=>by obtain⟨_,_,rfl⟩:=aC.mp hx;rfl];exact r
def zqg  : FV:=λPn q n R=>∃ (rm:AG) (bk:AW) (L:AG->Int),q=[.d (stD rm),.d (xa bk),.d (stD ((yj (rm.map zk)).map L))]/\(RoomOk rm)/\(y8 rm bk)/\((yj (rm.map zk)).length<=256)/\(Lw (yj (rm.map zk)) (λs=>uq bk s []) L)/\(R (.d (.bl true)) n)
def zqg.i{rm:AG}{L:AG->Int}(q:RoomOk rm)(B:y8 rm bk)(F:(yj (rm.map zk)).length<=256)(I:Lw (yj (rm.map zk)) (λs=>uq bk s []) L)(h:R (.d (.bl true)) n)  : zqg Pn [.d (stD rm),.d (xa bk),.d (stD ((yj (rm.map zk)).map L))] n R:=⟨rm,bk,L,rfl,q,B,F,I,h⟩
def u6 (T:Txt K mg t):FnOk P w K mg base CX0 2 t.f27 t.d27 lj (spV 3 false zqg):=by
 have G4:=yC (P:=P) (w:=w) (base:=base) T;have G24:=zas (P:=P) (w:=w) (base:=base) T;have G25:=ui (P:=P) (w:=w) (base:=base) T
 show Fun.okW (k:=1) (fr:=false) [5] 5 T.q27.F zI rfl (by ext) rfl λav A an s H E Pn I=>⟨_,(zb (wS zp <| zD (i:=3) zI.nd (wE zr <| yX T.q4 G4 I (za (kv 0) zg)))
   (zb (wS zC <| yI (JW.t (wW zbn <| zeZ (wT uA <| zaO (wT zm <| uW (JE.bo (wE zbe <| x3 (by rfl) T.b_isinstance T.b_tuple (kb 2))))) (xR (.inr rfl) (wT zm <| zz zd1 zmp (JE.bo (zO yQ zag (by rfl) T.b_len aX (zl (kb 2) zo))) (JE.bo (zO yQ zag (by rfl) T.b_len aX (zl (kb 3) zo))) (zA _))))) (zf (zN zgQ)) zF)
   (zb (wS zC <| yI (wT uA <| zaO (wT zm <| uW (JE.bo (zO (zgD rfl) zmo (by rfl) T.b_all c7 (zl (JE.bo (xw (N:=lN) (cix:=[none]) rfl (by walk_at "c") (wI uy <| zaN K rfl (kv 2)) (λ_ _ _ _=>(wG zB <| zi (i:=0) (show (lN:AM).Nodup by decide +kernel))) (λ_ _ _ _=>yx) (λ_ _ _ _=>(wE zr <| yX T.q25 G25 I (za (kv 0) zg))))) zo))))) (zf (zN zgQ)) zF)
   (zb (wS zp <| zD (i:=4) zI.nd (xy (zgE rfl I.units) zks (by rfl) T.b_dict PyProof.Rows.boot_dict (zl (JE.bo (xw (N:=lF) (cix:=[none,none]) rfl (by walk_at "c") (wI zlz <| zoj rfl T.b_zip (za (kv 3) (za (kv 2) zg))) (λ_ _ _ _=>(wG uK <| uL (n:=2) K rfl rfl (wH z7 <| zw (wG zB <| zi (i:=0) (show (lF:AM).Nodup by decide +kernel)) (wH z7 <| zw (wG zB <| zi (i:=1) (show (lF:AM).Nodup by decide +kernel)) (wH uJ xt))))) (λ_ _ _ _=>yx) (λ_ _ _ _=>(xq (za (kv 0) (za (kv 1) zg)))))) zo)))
   (zb (wS yf <| xj (i:=5) zI.nd (xy (zgE rfl I.units) zks (by rfl) T.b_dict PyProof.Rows.boot_dict (zl (JE.bo (xw (N:=lN) (cix:=[none]) rfl (by walk_at "c") (wI yz <| yw K rfl (kv 3)) (λ_ _ _ _=>(wG zB <| zi (i:=0) (show (lN:AM).Nodup by decide +kernel))) (λ_ _ _ _=>yx) (λ_ _ _ _=>(xq (za (kv 0) (za zq zg)))))) zo)))
   (zb (yr aH rfl (wI yz <| yw K rfl (kv 3)) (wG zB <| zi (i:=6) zI.nd) (zf (yr aH rfl (wI yz <| yw K rfl (wE zr <| yX T.q24 G24 I (za (kv 1) (za (kv 6) zg)))) (wG zB <| zi (i:=7) zI.nd) (zf (wS zaT <| zbM 5 (xc I) (kb 7) (zO (zik rfl) zs0 (by rfl) T.b_max PyProof.Rows.boot_max (zl (JE.bo (wE yt <| xp (xc I) (kb 5) (kb 7) (λ_ _=>rfl))) (zl (JE.bo (zaB yS zbl (JE.bo (wE yt <| xp (xc I) (kb 4) (kb 6) (λ_ _=>rfl))) (JE.bo zq))) zo))))))))
   (zf (zN (zoi (zm6 I.units) zsX (JE.bo (xw (N:=[Ao,"_law_due"]) (cix:=[none,some 5]) rfl (by walk_at "c") (wI yz <| yw K rfl (kv 3)) (λ_ _ _ _=>(wG zB <| zi (i:=0) (show ([Ao,"_law_due"]:AM).Nodup by decide +kernel))) (λ_ _ _ _=>yx) (λ_ _ _ _=>(wE yt <| xp (xc I) (kb 1) (kb 0) (λ_ _=>rfl))))) (JE.bo (xy zbU zsZ (by rfl) T.b_list cT (zl (kb 2) zo))) (zA _)))))))))),λws n R hF=>?_⟩
 obtain⟨rm,bk,L,rfl,hR,hB,hq,hL,r⟩:=hF;left;have hG:=zmD hR hB hq;show zbR.i hR ?_;left;rw[ab,ab,ab];show zhK (λh=>absurd rfl h) λ_=>?_;left;have ap:=λs h=>(xB rm s h).len;generalize a0:yj (rm.map zk)=V at *;show uI (V.map L) (λi=>W.d (.int i)) (by rw[ay];rfl) (λρ=>∃a,ρ=[a]) (λ_=>.bl true) (by rw[ab];exact aw hq (by ext)) ⟨_,rfl⟩ ?_ ?_;rintro x hx Y ⟨a,rfl⟩ C J;left;show zhY.i ?_;exact J ⟨_,rfl⟩;left;show⟨(V.map L).map λ_=>true,by rw[ay (g:=Dt.bl)];rfl,?_⟩;rw[show ((V.map L).map λ_=>true).all id=true from bn.mpr λx hx=>by obtain⟨_,_,rfl⟩:=aC.mp hx;rfl];left;show⟨by rw[ab,ab,ab],?_⟩;have a1:(V.zip (V.map L)).length=V.length:=by rw[List.length_zip,ab,Nat.min_self]
 show uI (V.zip (V.map L)) (λq=>W.d (.tup [stD q.1,.int q.2])) (znx V (V.map L)) (λρ=>∃a b,ρ=[a,b]) (λq=>.tup [stD q.1,.int q.2]) (aw (by lia:_<=1000) (by ext)) ⟨_,_,rfl⟩ ?_ ?_;rintro q a2 Y ⟨a,b,rfl⟩ C J;left;exact J ⟨_,_,rfl⟩;left;show⟨(V.zip (V.map L)).map λq=>(q.1,Dt.int q.2),by rw[ay];rfl,?_,aw (by rw[ab];lia:_<=1000) (by ext),?_⟩;rw[ay,show ((λq:AG×Dt=>q.1) ∘ λq:AG×Int=>(q.1,Dt.int q.2))=Prod.fst from rfl,List.map_fst_zip (by rw[ab];lia)];exact hG.nd;have ad:∀ {s:AG},s∈V->yy ((V.zip (V.map L)).map λq=>(q.1,Dt.int q.2)) s=some (.int (L s)):=λ{s} h=>by obtain⟨i,hi⟩:=dU.mp h;rw[zhm hG.nd hi (by rw[ab]),ba,aj,hi];rfl
 generalize ((V.zip (V.map L)).map λq=>(q.1,Dt.int q.2))=kvs at ad;left;show uI V (λs=>W.d (stD s)) (by rw[ay];rfl) (λρ=>∃a,ρ=[a]) (λs=>.tup [stD s,.int 0]) (aw hq (by ext)) ⟨_,rfl⟩ ?_ ?_;rintro s hs Y ⟨a,rfl⟩ C J;left;exact J ⟨_,rfl⟩;left;show⟨mkD V λ_=>0,by unfold mkD;rw[ay];rfl,by unfold mkD;rw[ay];exact (List.map_id V).symm ▸ hG.nd,aw (by unfold mkD;rw[ab];lia:_<=1000) (by ext),?_⟩;left;show zL V (λs=>W.d (stD s)) (by rw[ay];rfl) (λi ρ m=>m=n/\∃ (c:AG->Int) (v6 Z:Option W),ρ=[some (.d (stD rm)),some (.d (xa bk)),some (.d (stD (V.map L))),some (.d (xf V)),some (.dt kvs),some (.dt (mkD V c)),v6,Z]/\(∀t∈V,0<=c t/\c t<=L t)/\∀s∈V.take i,∀t∈uq bk s [],L s+1<=c t) ⟨rfl,λ_=>0,_,_,rfl,λt O=>⟨b6 _,(hL.box t O).1⟩,by simp⟩ ?_ ?_
 ·rintro i s ρ m hs ⟨rfl,c,v6,Z,rfl,h1,h2⟩ C B E J _ _;have U:=ak hs;left;show zey.i hR hB (ap s U) ?_;left;show zL (uq bk s []) (λs=>W.d (stD s)) (by rw[ay];rfl) (λj ρ m'=>m'=m/\∃ (c:AG->Int) (Z:Option W),ρ=[some (.d (stD rm)),some (.d (xa bk)),some (.d (stD (V.map L))),some (.d (xf V)),some (.dt kvs),some (.dt (mkD V c)),some (.d (stD s)),Z]/\(∀t∈V,0<=c t/\c t<=L t)/\(∀s∈V.take i,∀t∈uq bk s [],L s+1<=c t)/\∀t∈(uq bk s []).take j,L s+1<=c t) ⟨rfl,c,_,rfl,h1,h2,by simp⟩ ?_ ?_
  ·rintro j t ρ m' O ⟨rfl,c,Z,rfl,h1,h2,h3⟩ C' B' E' as _ _;have ag:=ak O;have al:=hG.sub s U t ag;have a3:=hL.up s U t ag;left;show⟨t,rfl,yD (yB al) ?_⟩;left;show⟨s,rfl,yD (ad U) ?_⟩;left;show⟨t,rfl,aM (by unfold mkD;rw[ab];exact hq) (by ext),?_⟩;rw[zdT al]
   have up:∀z,c z<=if z=t then (if L s+1 > c t then L s+1 else c t) else c z:=λz=>by
    by_cases e:z=t
    ·subst e;rw[if_pos rfl];split <;> lia
    rw[if_neg e];lia
   show as ⟨rfl,_,_,rfl,λz hz=>?_,λz hz y hy=>eS (h2 z hz y hy) (up y),λy hy=>?_⟩
   ·have:=h1 z hz;by_cases e:z=t
    ·subst e;simp only[if_pos];split <;> lia
    simp only[if_neg e];exact this
   ·rw[zh O] at hy;rcases aG.mp hy with q | q;exact eS (h3 y q) (up y)
    ·rw[ax.mp q];simp only[if_pos];split <;> lia
  rintro ρ m' ⟨rfl,c,Z,rfl,h1,h2,h3⟩;rw[aT] at h3;show J ⟨rfl,c,_,_,rfl,h1,λz hz=>?_⟩;rw[zh hs] at hz;rcases aG.mp hz with q | q;exact h2 z q;rw[ax.mp q];exact h3
 rintro ρ m ⟨rfl,c,v6,Z,rfl,h1,h2⟩;rw[aT] at h2
 have hc:∀t∈V,c t=L t:=λt O=>by
  have b:=h1 t O;rcases hL.one t O with q | ⟨s,hs,hg,q⟩;lia;have:=h2 s hs t hg;lia
 left;show uI V (λs=>W.d (stD s)) (by rw[ay];rfl) (λρ=>∃a,ρ=[a,some (.dt (mkD V c))]) (λs=>.int (c s)) (aw hq (by ext)) ⟨_,rfl⟩ ?_ ?_;rintro s hs Y ⟨a,rfl⟩ C J;left;show⟨s,rfl,yD (yB hs) ?_⟩;left;exact J ⟨_,rfl⟩;left;rw[show (V.map λs=>Dt.int (c s))=(V.map L).map Dt.int by rw[ay];exact cR λt O=>congrArg Dt.int (hc t O)];exact zm4 (zhw (ns:=V.map L)) r
def zuT {α q B F:Type}{G:Prop}(C:α->q->B->F->Prop)(P:α->q->B->F->Prop)(h:(∀a b c d,C a b c d->P a b c d)->G)(r:∀a b c d,C a b c d->P a b c d):G:=h r
def zlG (bk:AW):(xa bk).noL=true:=zc6 bk
def zrq (T:Txt K mg t):FnOk P w K mg base CX0 6 t.f28 t.d28 lh (zkh K):=by
 have G23:=zaZ (P:=P) (w:=w) (base:=base) T;have G0:FnOk P w K mg base CX0 1 t.f0 t.d0 lh (zmk K):=zgc T;have G1:=zR (P:=P) (w:=w) (base:=base) T;have G3:=zdV (P:=P) (w:=w) (base:=base) T;have G14:=zdU (P:=P) (w:=w) (base:=base) T;have G26:=zaC (P:=P) (w:=w) (base:=base) T;have G27:=u6 (P:=P) (w:=w) (base:=base) T
 show zuV (S:=[9999]) (k:=5) (r:=7) [] T.q28.F zaw rfl rfl (by ext) λa7 A as s H E Pn I=>⟨_,_,_,rfl,(xW (i:=1) zaw.nd rfl (Or.inl rfl) (zl2 T.q0 G0 I (zG (qv 0) yk))),(zb (zok aH rfl (by rfl) T.b_range (zl (JE.bo zq) zo) (wG zB <| zi (i:=2) zaw.nd) (zb (wS zp <| zD (i:=3) zaw.nd (zah x9 zem (JE.bo (uR (za zq (za zq (za zq (za zq zg)))))) (JE.bo (wE zr <| yX T.q1 G1 I (za (kv 1) (za zq zg)))) (λ_ _=>rfl)))
   (zb (wS zC <| yI (JW.t (wW ux <| zaP (wT zm <| zz xP zcG (kb 2) (JE.bo zq) (zA _)) (xR (.inl rfl) (wT zm <| zz xP zcG (JE.bo (wE zr <| yX T.q1 G1 I (za (kv 1) (za zq zg)))) (JE.bo zq) (zA _))))) (zf (wS zp <| zD (i:=3) zaw.nd zq)) zF)
   (zb (wS zp <| zD (i:=4) zaw.nd (wE zr <| yX T.q3 G3 I (za (kv 1) (za (kv 3) zg))))
   (zb (wS zp <| zD (i:=5) zaw.nd (wE zr <| yX T.q14 G14 I (za (kv 1) (za (kv 4) zg))))
   (zb (wS zp <| zD (i:=6) zaw.nd (wE zr <| yX T.q23 G23 I (za (kv 4) (za (kv 5) zg))))
   (zb (wS zC <| yI (JW.t (wW zbn <| zeZ (wT uA <| zaO (wT zm <| uW (JE.bo (wE zbe <| x3 (by rfl) T.b_isinstance T.b_tuple (kb 6))))) (wW zbn <| zeZ (wT zm <| zz zd1 zmp (JE.bo (zO yQ zag (by rfl) T.b_len aX (zl (kb 6) zo))) (JE.bo zq) (zA _)) (xR (.inr rfl) (wT zm <| zz (za1 I.units) zkt (JE.bo (zah yo xu (kb 6) (JE.bo zq) (λ_ _=>rfl))) (JE.bo (xq (za zf2 (za zf2 zg)))) (by with_unfolding_all rfl)))))) (zf (zN zgQ)) zF)
   (zb (wS zC <| yI (wT zm <| zz xP zcG (JE.bo (zah yo xu (kb 6) (JE.bo zq) (λ_ _=>rfl))) (JE.bo zf2) (zA _)) (zb (wS zC <| yI (wT uA <| zaO (wT zm <| uW (JE.bo (wE zr <| yX T.q26 G26 I (za (kv 4) (za (kv 5) (za (zah yo xu (kb 6) (JE.bo zq) (λ_ _=>rfl)) zg))))))) (zf (zN zgQ)) zF)
   (zb (zln 6)
   (zf (wS zC <| yI (wT zm <| zz zd1 zmp (JE.bo (zah yo xu (JE.bo (wE zr <| yX T.q23 G23 I (za (kv 4) (za (kv 5) zg)))) (JE.bo zq) (λ_ _=>rfl))) (JE.bo zf2) (zA _)) (zf (zN zgQ)) zF)))) (zf (wS zC <| yI (JW.t (wW zbn <| zeZ (wT uA <| zaO (wT zm <| uW (JE.bo (wE zr <| yX T.q27 G27 I (za (kv 4) (za (kv 5) (za (zah yo xu (kb 6) (JE.bo zq) (λ_ _=>rfl)) zg))))))) (xR (.inr rfl) (wT zm <| zz (zrF I.units) zvw (JE.bo (wE zr <| yX T.q23 G23 I (za (kv 4) (za (kv 5) zg)))) (kb 6) (zA _))))) (zf (zN zgQ)) zF)))
   (zf (wS zC <| yI (JW.t (wW ux <| zaP (wT zm <| zz zgf zqe (kb 3) (JE.bo zq) (zA _)) (xR (.inl rfl) (wT zm <| zz zgf zqe (JE.bo (zah yo xu (kb 4) (JE.bo zq) (λ_ _=>rfl))) (JE.bo zq) (zA _))))) (zb (wS zp <| zD (i:=7) zaw.nd (zaB xK zax (JE.bo (xq (za (zaB yS zbl (JE.bo (zah yo xu (kb 4) (JE.bo zq) (λ_ _=>rfl))) (JE.bo zq)) zg))) (JE.bo (wE u4 <| zeY (kb 4) (wO ye <| yO (JE.bo zq)) yN))))
   (zb (wS zp <| zD (i:=8) zaw.nd (wE zr <| yX T.q23 G23 I (za (kv 7) (za (kv 5) zg))))
   (zb (wS zC <| yI (wT zm <| zz zd1 zmp (JE.bo (zah yo xu (kb 8) (JE.bo zq) (λ_ _=>rfl))) (JE.bo (zah yo xu (kb 6) (JE.bo zq) (λ_ _=>rfl))) (zA _)) (zf (zN zgQ)) zF)
   (zf (wS zC <| yI (JW.t (wW ux <| zaP (wT zm <| zz xP zcG (JE.bo (zah yo xu (kb 8) (JE.bo zq) (λ_ _=>rfl))) (JE.bo zf2) (zA _)) (xR (.inl rfl) (wT uA <| zaO (wT zm <| uW (JE.bo (wE zr <| yX T.q27 G27 I (za (kv 7) (za (kv 5) (za (zah yo xu (kb 8) (JE.bo zq) (λ_ _=>rfl)) zg)))))))))) (zf (zN zgQ)) zF))))) zF))))))))))
   (zf (zN zgQ))),λp c ns av=>?_⟩
 subst av;have hP:IsP ⟨some (p,c,ns),J0⟩ p:=⟨c,ns,rfl⟩;show zss ?_;left;show⟨⟨by ext,by ext⟩,zeQ (λi ρ n=>n<=10000 * i/\∃ (v2 v3 v4 v5 v6 v7 v8:Option W),ρ=[none,some (.pen p),v2,v3,v4,v5,v6,v7,v8]) ⟨ai _,_,_,_,_,_,_,_,rfl⟩ ?_ ?_⟩;rotate_left;rintro ρ n ⟨hn,v2,v3,v4,v5,v6,v7,v8,rfl⟩;left;rintro i ρ n hi ⟨hn,v2,v3,v4,v5,v6,v7,v8,rfl⟩ C B E hC _ _;have hi:i<2:=hi;left;show dc hP λmo m0 m1=>?_;left;show zrr m0 m1 λx hx=>?_
 obtain⟨q,rfl,q1,q2⟩:∃q,x = .int q/\4<=q/\q<=256:=by
  simp at hx;rcases hx with rfl | rfl | rfl | rfl
  all_goals exact⟨_,rfl,by lia,by lia⟩
 left;refine' zjw (λ(q:Int) (O:Nat)=>4<=q/\q<=256/\O<=n+3) _ (λzQ=>?_) ?_;rotate_left
 ·show xm (λh0=>?_) (λh0=>?_);rotate_left;left;generalize hk:n+1=O;generalize bb:q=m9;exact zQ m9 O ⟨by lia,by lia,by lia⟩;left;show dc hP λd d0 d1=>?_;left;show xm (λh5=>?_) (λh5=>?_);left;exact zQ 256 (n+1+1) ⟨by ext,by ext,by lia⟩;left;exact zQ q (n+1+1) ⟨q1,q2,by lia⟩
 rintro q O ⟨q1,q2,bd⟩;show zkJ.i hP q1 q2 λrm m J hp hm=>?_;have h8:=J.few;have a5:=J.pos;have hN:=y9 rm λn hn=>by have:=J.box n hn;lia
 have hq:(yj (rm.map zk)).length<=256:=by lia
 left;show zgr.i hP J (by lia) λbk m2 U hl bl=>?_;left;refine' zuT (λ(d:Dt) (O:Nat) (_ _:Option W)=>O=m2/\((∃l,d = .tup [.str "ring",.lst l]/\∃rd,Rg (yj (rm.map zk)) (λs=>uq bk s []) rd)\/∃L,d = .tup [.str "worths",stD ((yj (rm.map zk)).map L)]/\Lw (yj (rm.map zk)) (λs=>uq bk s []) L)) _ (λzQ=>?_) ?_;rotate_left
 ·show zex.i J U hq ⟨λrd I a0=>?_,λL hL=>?_⟩;rotate_left
  left;with_reducible show zdY ?_ ?_
  rfl
  left;show yD rfl ?_;left;show⟨show PySem.W.kqdOk 8 _=true by decide +kernel,show PySem.W.kqdOk 8 _=true by decide +kernel,λb hb=>?_⟩;obtain rfl:b=true:=hb.mpr (.tail _ (.head _));left;walk_at "cf";show yD rfl ?_;left;with_reducible show zdY ?_ ?_
  decide;left;show yD rfl ?_;left;show zqg.i J U hq hL ?_;left;show zex.i J U hq ⟨λa1 Y _=>(zpE Y hL).elim,λL' Z=>?_⟩;rw[<- zuE hL Z];left;show zm4 (zp1 (by decide +kernel)) ?_;left;walk_at "cf";generalize hd:Dt.tup [Dt.str (Str.ofString "worths"),stD ((yj (rm.map zk)).map L)]=d;generalize hk:m2=O;generalize h7:v7=v7';generalize bs:v8=v8';exact zQ d O v7' v8' ⟨hk.symm,.inr ⟨L,hd.symm,hL⟩⟩
  left;with_reducible show zdY ?_ ?_
  rfl
  left;show yD rfl ?_;left;show⟨show PySem.W.kqdOk 8 _=true by decide +kernel,show PySem.W.kqdOk 8 _=true by decide +kernel,λb hb=>?_⟩;obtain rfl:b=true:=hb.mpr (.head _);left;walk_at "cf";show yD rfl ?_;left;with_reducible show zlI ?_ ?_
  decide
  left;show yD rfl ?_;left;show ztr.i J U hq I a0 ?_;left;obtain⟨x,hx⟩:=List.exists_mem_of_ne_nil _ I.ne;show⟨.str "ring",rd.map stD,x,[none,some (.pen p),some (.d (.int (i:Int))),some (.d (.int q)),some (.d (stD rm)),some (.d (xa bk)),none,none,none],rfl,rfl,aC.mpr ⟨x,hx,rfl⟩,⟨_,_,rfl,.inl rfl,_,_,rfl,.inr ⟨rfl,λw e=>by cases e;trivial⟩,_,_,rfl,.inr ⟨rfl,λw e=>by cases e;rfl⟩,_,_,rfl,.inr ⟨rfl,λw e=>by cases e;rfl⟩,_,_,rfl,.inr ⟨rfl,λw e=>by cases e;exact zrm rm⟩,_,_,rfl,.inr ⟨rfl,λw e=>by cases e;exact zlG bk⟩,_,_,rfl,.inl rfl,_,_,rfl,.inl rfl,_,_,rfl,.inl rfl,rfl⟩,?_⟩;left;show zex.i J U hq ⟨λa1 _ _=>?_,λL' Z=>(zpE I Z).elim⟩;left;show yD rfl ?_;left;with_reducible show zdY ?_ ?_
  decide;left;exact zQ _ _ none none ⟨rfl,.inl ⟨_,rfl,rd,I⟩⟩
 rintro d O v7 v8 ⟨rfl,hd⟩;left;show xm (λa2=>?_) (λ_=>?_);rotate_left;left;exact hC ⟨by lia,_,_,_,_,_,_,_,rfl⟩;left;show onA (b6 0) (by lia) ?_;left;show xm (λh4=>?_) (λ_=>?_);rotate_left;left;exact hC ⟨by lia,_,_,_,_,_,_,_,rfl⟩;obtain⟨ad,ag⟩:=zmt J hp a2 h4;have ap:=J.ne;have al:y8 (wid rm) bk:=λx hx=>zmu ap (U x hx);left;show onA (b6 0) (by lia) ?_;left;rw[xo,zbX];show⟨aw (show _<=1000 by rw[ab,cw,cz];lia) (by ext),?_⟩;rw[show [Dt.int (yh rm 0+1)]++(rm.drop 1).map Dt.int=(wid rm).map Dt.int from rfl];left;rcases hd with ⟨l,rfl,rd,I⟩ | ⟨L,rfl,hL⟩
 have Y:Rg (yj ((wid rm).map zk)) (λs=>uq bk s []) rd:=⟨I.nd,I.ne,λs hs=>zcA (ztj ap (xB _ _ (I.sub s hs))),I.wk⟩;show zex.i ad al ag ⟨λa3 _ _=>?_,λL2 an=>(zpE Y an).elim⟩;left;show yD rfl ?_;left;show yD rfl ?_;left;with_reducible show zdY ?_ ?_
 decide
 left;show yD rfl ?_;left;with_reducible show zdY ?_ ?_
 decide;left;exact hC ⟨by lia,_,_,_,_,_,_,_,rfl⟩
 show zex.i ad al ag ⟨λa3 a4 _=>(zti J U hL a4).elim,λL2 an=>?_⟩;left;show yD rfl ?_;left;show yD rfl ?_;left;with_reducible show zdY ?_ ?_
 decide
 left;show yD rfl ?_;left;with_reducible show zlI ?_ ?_
 decide;left;show yD rfl ?_;left;show zqg.i ad al ag an ?_;left;exact hC ⟨by lia,_,_,_,_,_,_,_,rfl⟩
end
def Dm {K:AH}{h:Heap}{mg:AI}{x:Str}{st:Stmt}{ps:AM}{f:Addr}{J kV dc B q ct:Value}{L F:Option Addr}{O:Array AJ}(X:K.In h)(G:h.Ns mainGlobals mg)(a:PySem.W.nsIn K mainGlobals x=some (some (.ref f)))(l:K.lookup f=some ⟨J,L,.func (PySem.W.fnOf x x (yZ st) (zJ st) (ze st) .none kV dc B F q ct),O⟩)(c:PySem.W.codeIn K q x=true)(k:PySem.W.keepIn K (.ref f)=true)(b:∀ (kV dc B:Value) (F:Option Addr) (q ct:Value) (I:AN),I.length=ps.length->bindArgs (PySem.W.fnOf x x (yZ st) (zJ st) (ze st) .none kV dc B F q ct) ⟨I,[]⟩=pure (ps.zip I)):Dfn K mg x st ps f (PySem.W.fnOf x x (yZ st) (zJ st) (ze st) .none kV dc B F q ct):=⟨zmP l c k,(zmP l c k).binds b,PySem.W.mg_of X G a⟩
def DmD{K:AH}{h:Heap}{mg:AI}{x:Str}{st:Stmt}{ps:AM}{ds:AN}{f T:Addr}{O kV dc F B ct U:Value}{Y I J:Option Addr}{Z L:Array AJ}{its:AK}(X:K.In h)(G:h.Ns mainGlobals mg)(a:PySem.W.nsIn K mainGlobals x=some (some (.ref f)))(l:K.lookup f=some ⟨O,Y,.func (PySem.W.fnOf x x (yZ st) (zJ st) (ze st) (.ref T) kV dc F I B ct),Z⟩)(c:PySem.W.codeIn K B x=true)(k:PySem.W.keepIn K (.ref f)=true)(t:K.lookup T=some ⟨U,J,.seq its n2,L⟩)(b:∀q:AN,(q++[]).length=ps.length->∃k:Option AK->Sem (List (Str×Value)),bindArgs (PySem.W.fnOf x x (yZ st) (zJ st) (ze st) (.ref T) kV dc F I B ct) ⟨q,[]⟩=seqItems? (.ref T) >>= k/\k (some its)=pure (ps.zip (q++[])))(e:∀q:AN,(q++ds).length=ps.length->∃k:Option AK->Sem (List (Str×Value)),bindArgs (PySem.W.fnOf x x (yZ st) (zJ st) (ze st) (.ref T) kV dc F I B ct) ⟨q,[]⟩=seqItems? (.ref T) >>= k/\k (some its)=pure (ps.zip (q++ds))):DfnD K mg x st ps ds f (PySem.W.fnOf x x (yZ st) (zJ st) (ze st) (.ref T) kV dc F I B ct):=⟨zn7 l c k,zmE l rfl t b,zmE l rfl t e,PySem.W.mg_of X G a⟩
def fin {l:PySem.W.OpenLaw}{w:Ab}{K:AH}{mg:AI}{fa:Addr}{t:Ad}(q:mg "law" = some (.ref fa))(T:Txt K mg t)(b:∀ (s:AZ) (v:Value),BindsTo s t.d28 ⟨[v],[]⟩ [("_law_script",v)]):∃fd:Ac,(∀ (s:AZ) (v:Value),BindsTo s fd ⟨[v],[]⟩ [("_law_script",v)])/\∀base:Heap,K.In base->base.Ns mainGlobals mg->FnOk l.prog w K mg base CX0 6 fa fd lh (zkh K):=by have e:=q.symm.trans T.q28.m;cases e;exact⟨_,b,λbase _ _=>zrq T⟩
def walk {l:PySem.W.OpenLaw}{q:Aa}{B:AM}{XP:(AI)->Heap->Prop}{YP:Ab->Heap->Prop}{d:DefRec}{K:Params->AH}(J:l.most=some 63)(I:d.params.defaults=[])
  (L:∀ (w:Ab) (h:Heap),YP w h->(K w.params).In h)
  (F:∀ (w:Ab) (mg:AI) (fa:Addr) (h:Heap),(K w.params).In h->h.Ns mainGlobals mg->mg d.name=some (.ref fa)->
   ∃fd:Ac,(∀ (s:AZ) (u:Value),BindsTo s fd ⟨[u],[]⟩ [("_law_script",u)])/\∀base:Heap,(K w.params).In base->base.Ns mainGlobals mg->FnOk l.prog w (K w.params) mg base CX0 6 fa fd lh (zkh (K w.params))) :
  PySem.W.WalkO q B XP YP l.row.toRowW d [] (λf vs=>PySem.call f vs):=
 L2.zp9 (n:=63) (k:=6) (x := "_law_script") (CX:=λ_=>CX0) (sp:=λw=>zkh (K w.params)) J (by ext) I ⟨rfl,by ext,by ext⟩ L F (λ_ _ a ns O _ U=>⟨a,ns,rfl,U,O,λ_=>rfl⟩) λ_ _ _ _ _ z=>z
end Law
end
open PySem PySem.W PyProof.Rows
local macro_rules | `(tactic| walk_at "D")=>`(tactic| (dsimp only;refine' Law.Dm (by assumption) (by assumption) ?a ?l ?c ?k ?b;(case a=>k_is);(case l=>k_is);(case c=>k_is);(case k=>k_is);(case b=>(intro _ _ _ _ _ _ us hl;first | (obtain⟨_,e⟩:=L2.us_1 hl;subst e;rfl) | (obtain⟨_,_,e⟩:=L2.us_2 hl;subst e;rfl) | (obtain⟨_,_,_,e⟩:=L2.us_3 hl;subst e;rfl)))))
local macro_rules | `(tactic| walk_at "Z")=>`(tactic| (refine' PySem.W.mg_none_of (by assumption) (by assumption) ?z;(case z=>k_is)))
local macro_rules | `(tactic| walk_at "E")=>`(tactic| (dsimp only;refine' Law.DmD (by assumption) (by assumption) ?a ?l ?c ?k ?t ?b ?e;(case a=>k_is);(case l=>k_is);(case c=>k_is);(case k=>k_is);(case t=>k_is);(case b=>(intro us hl;first | (exact match us,hl with | [_,_,_,_],_=>⟨_,rfl,rfl⟩)));(case e=>(intro us hl;first | (exact match us,(show us.length=3 by rw[List.length_append] at hl;exact Nat.succ.inj hl) with | [_,_,_],_=>⟨_,rfl,rfl⟩)))))
theorem PySem.W.Fast.te10501453747173708668:True:=.intro
set_option maxRecDepth 100000 in
set_option maxHeartbeats 0 in
theorem PySem.Challenge.cw_allelse_k22_ring_or_worths_holds : PySem.Challenge.rw_allelse_k22_ring_or_worths.Holds := by
 w_on;refine holds_law (by decide +kernel) λ_=>?_;k_head;(case hw=>w_witness2)
 k_fill
 refine Law.walk (l:=PySem.Challenge.rw_allelse_k22_ring_or_worths) rfl rfl (λw h Y=>PySem.W.kIn_of Y) ?F
 case F=>
  intro w mg fa h KX G B;refine' Law.fin (t:=⟨_,_,_,_,_,_,_,_,_,_,_,_,_,_,_,_,_,_,_,_,_,_,_,_,_,_,_,_,_,_,_,_,_,_,_,_,_,_,_,_,_,_,_,_,_,_,_,_,_,_,_,_,_,_,_,_,_,_⟩) B ⟨?D0,?D1,?D2,?D3,?D4,?D5,?D6,?D7,?D8,?D9,?D10,?D11,?D12,?D13,?D14,?D15,?D16,?D17,?D18,?D19,?D20,?D21,?D22,?D23,?D24,?D25,?D26,?D27,?D28,?z_sorted,?z_set,?z_list,?z_tuple,?z_range,?z_enumerate,?z_len,?z_all,?z_dict,?z_isinstance,?z_int,?z_max,?z_abs,?z_zip,?q⟩ λs v=>?b
  (case D0 | D1 | D2 | D3 | D4 | D5 | D6 | D7 | D8 | D9 | D10 | D11 | D12 | D13 | D14 | D15 | D16 | D17 | D18 | D20 | D21 | D22 | D23 | D24 | D25 | D26 | D27 | D28=>walk_at "D")
  (case D19=>walk_at "E")
  (case z_sorted | z_set | z_list | z_tuple | z_range | z_enumerate | z_len | z_all | z_dict | z_isinstance | z_int | z_max | z_abs | z_zip | q=>walk_at "Z")
  (case b=>exact .of_eq rfl)


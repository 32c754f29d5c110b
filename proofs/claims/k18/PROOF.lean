import PyProof.Rows.All
import Wide.All
import OpenK.AllK
import Wide.FinOn
import Lean
import PyProof.EqAt
import PyProof.EqKinds
import PyProof.TupleCall
import PySem.Challenge.RW_allelse_k18_ways_looked_at
local macro_rules|`(#[$xs,*])=>`(⟨$xs,*⟩)
local macro_rules|`(#v[$xs,*])=>`(List.toArray [$xs,*])
set_option Elab.async false
set_option linter.all false
set_option maxRecDepth 100000
set_option maxHeartbeats 4000000
section
local macro_rules | `(tactic| show $e)=>`(tactic|refine $e)
local macro_rules | `(tactic| ext)=>`(tactic|decide)
local macro_rules | `(tactic| right)=>`(tactic|simp_all)
local macro_rules | `(tactic| fail"v") => `(tactic| (first | show Or.inl rfl | show Or.inr (Or.inl rfl) | show Or.inr (Or.inr rfl)))
local macro_rules | `(tactic| fail"l") => `(tactic| (first | show Or.inl rfl | show Or.inr rfl | assumption))
local macro_rules | `(tactic| fail"f") => `(tactic| (show ⟨rfl, rfl, rfl, by decide +kernel, rfl, by decide +kernel, by decide +kernel⟩))
local macro_rules | `(tactic| fail"c") => `(tactic| (show ⟨rfl, by decide +kernel, rfl⟩))
open PySem PySem.Spec
abbrev AA:=Value->Shared->Prop
abbrev AB:=List (Addr×Obj)
abbrev AE:=List (List Int×Addr)
abbrev AF:=List (List Int)
abbrev AG:=List Int
abbrev AH:=PySem.W.Frag
abbrev AI:=Str->Option Value
abbrev AJ:=Option Value
abbrev AK:=Array Value
abbrev AL:=Addr->Prop
abbrev AM:=List Str
abbrev AN:=List Value
abbrev AO:=List Expr
abbrev AQ:=Option Int
abbrev AR:=List Nat
abbrev AY:=List Addr
abbrev AZ:=Shared
abbrev Aa:=Program
abbrev Ab:=World
abbrev Ac:=FuncData
abbrev Ae:=Around
abbrev Ag(p:Program)(w:World)(A:Around){α:Type}:=@wpAny α (model p w) A
abbrev Ah(x:Str):Prop:=(x==("__debug__":Str))=false
abbrev Ai:Str:="self"
abbrev Aj:Str:="room"
abbrev Ak:Str:="book"
abbrev Am:Str:="held"
abbrev An:Str:="standing"
abbrev Ao:Str:="_law_pen_here"
abbrev Ap:Str:="_law_room_here"
abbrev Aq:Str:="_law_book_here"
abbrev Ar:Str:="_law_one"
abbrev As:Str:="_law_other"
abbrev At:Str:="_law_thing"
abbrev Au:Str:="_law_held_here"
abbrev Av:Str:="_law_way"
abbrev Aw:Str:="thing"
abbrev Ax:Str:="_law_standing_here"
abbrev Ay:Str:="_law_walk_here"
abbrev Az:Str:="_law_box"
abbrev A1:Str:="_law_at"
abbrev A5:Str:="_law_worth"
abbrev A6:Str:="_law_k"
abbrev A7:Str:="_law_given_here"
abbrev A8:Str:="_law_some"
abbrev A9:Str:="_law_found"
abbrev BA:Str:="_law_worths"
theorem BB{α:Sort u}{a:α}:a=a:=rfl
namespace L2
open PyProof.Rows
abbrev aa:=@wpAny_bind
abbrev ab:=@List.length_map
abbrev ae:=@Heap.get?_push_of_some
abbrev af:=@wpAny_pure
abbrev ah:=@List.getElem?_eq_some_iff
abbrev ai:=@Nat.le_refl
abbrev aj:=@List.length_append
abbrev ak:=@List.getElem?_eq_getElem
abbrev am:=@List.mem_cons_self
abbrev ao:=@List.mem_singleton
abbrev aq:=@Nat.le_trans
abbrev ar:=@List.mem_cons_of_mem
abbrev au:=@List.getD_eq_getElem?_getD
abbrev av:=@Heap.get?_push_size
abbrev aw:=@Heap.lt_size
abbrev ax:=@List.mem_append
abbrev ay:=@List.mem_cons
abbrev az:=@Bool.false_ne_true
abbrev aA:=@List.length_range
abbrev aB:=@List.getElem?_set_ne
abbrev aC:=@List.getElem?_map
abbrev aD:=@List.map_cons
abbrev aE:=@List.append_assoc
abbrev aF:=@List.mem_map
abbrev aG:=@Array.length_toList
abbrev aH:=@Option.map_eq_some_iff
abbrev aI:=@Nat.zero_le
abbrev aJ:=@List.length_cons
abbrev aK:=@List.mem_range
abbrev aL:=@PySem.boot_len
abbrev aM:=@List.mem_of_getElem?
abbrev aN:=@Nat.ne_of_lt
abbrev aO:=@List.map_map
abbrev aP:=@List.size_toArray
abbrev aQ:=@Int.toNat_natCast
abbrev aR:=@Array.getElem?_eq_getElem
abbrev aS:=@List.getElem?_set_self
abbrev aT:=@List.mem_append_right
abbrev aU:=@List.eq_nil_of_length_eq_zero
abbrev aV:=@Bool.false_eq_true
abbrev aW:=@wpAny_call_entry
abbrev aX:=@List.take_append_drop
abbrev aY:=@decide_eq_true
abbrev aZ:=@Nat.lt_of_lt_of_le
abbrev a6:=@decide_eq_false
abbrev a8:=@List.pairwise_cons
abbrev a9:=@List.map_append
abbrev bf:=@PyProof.Rows.boot_tuple
abbrev bg:=@Nat.lt_of_le_of_lt
abbrev bh:=@Array.toList_append
abbrev bi:=@List.pairwise_append
abbrev bj:=@PassesOwn.never
abbrev bm:=@List.dropLast_concat_getLast
abbrev bn:=@wpAny_newObj_type
abbrev bp:=@List.length_take
abbrev bq:=@Heap.SameBut.update
abbrev br:=@List.take_of_length_le
abbrev bt:=@List.getElem?_append_right
abbrev bu:=@Heap.get?_update_self
abbrev bv:=@List.pairwise_iff_getElem
abbrev bw:=@List.mem_of_mem_take
abbrev bz:=@List.getElem_mem
abbrev bB:=@List.not_mem_nil
abbrev bC:=@wpAny_mono
abbrev bD:=@List.getElem?_cons_succ
abbrev bE:=@Bool.and_eq_true
abbrev bF:=@wpAny_setState_of
abbrev bG:=@Heap.get?_update_other
abbrev bH:=@wpS_forRange
abbrev bI:=@List.length_set
abbrev bJ:=@wpAny_setField
abbrev bK:=@of_decide_eq_true
abbrev bL:=@decide_eq_false_iff_not
abbrev bM:=@Array.toList_push
abbrev bN:=@List.mem_append_left
abbrev bO:=@Array.mem_toList_iff
abbrev bP:=@PySem.W.kia_one
abbrev bQ:=@List.getElem?_append_left
abbrev bR:=@Classical.byContradiction
abbrev bS:=@wpAny_holding
abbrev bT:=@List.all_eq_true
abbrev bU:=@wpAny_askSetting
abbrev bV:=@List.take_length
abbrev bW:=@wpAny_field
abbrev bX:=@List.getElem?_take_of_lt
abbrev bY:=@AutoSeq1.wpAny_loadPart'
abbrev bZ:=@Array.getElem?_toList
abbrev b6:=@List.pairwise_map
abbrev b7:=@PySem.F.slot_dict_keyiterator_next
abbrev b8:=@Option.some.inj
abbrev b9:=@PyProof.Rows.callWith_type1
abbrev cb:=@Bool.eq_iff_iff
abbrev ce:=@sizeLine_eq
abbrev cg:=@Int.emod_lt_of_pos
abbrev ci:=@Obj.data_mapFields
abbrev cj:=@List.getElem_range
abbrev ck:=@List.mem_iff_getElem
abbrev cm:=@List.mem_reverse
abbrev cq:=@eq_of_beq
abbrev cr:=@List.filterMap_cons
abbrev cw:=@List.take_sublist
abbrev cy:=@List.replicate_succ
abbrev cz:=@decide_eq_true_eq
abbrev cA:=@List.drop_eq_getElem_cons
abbrev cB:=@List.mem_filter
abbrev cC:=@beq_self_eq_true
abbrev cD:=@List.getElem_map
abbrev cE:=@wpAny_typeNameOfWhole_keyiter
abbrev cF:=@List.mem_of_mem_drop
abbrev cG:=@wpAny_attempt
abbrev cH:=@Nat.le_of_lt
abbrev cI:=@Heap.size_push
abbrev cJ:=@wpAny_seqItems
abbrev cK:=@wpAny_truthy_bool
abbrev cL:=@Nat.lt_trichotomy
abbrev cN:=@List.append_nil
abbrev cO:=@Int.emod_nonneg
abbrev cP:=@List.map_congr_left
abbrev cQ:=@F.slot_zip_next
abbrev cR:=@PyProof.Rows.boot_list
abbrev cS:=@F.slot_tuple_iterator_next
abbrev cT:=@Array.getElem?_eq_some_iff
abbrev cU:=@wpAny_isInstance
abbrev cV:=@Nat.lt_irrefl
abbrev cW:=@wpAny_pyIter_tuple
abbrev cY:=@List.any_cons
abbrev cZ:=@wpAny_rule
abbrev c7:=@List.nodup_cons
abbrev c8:=@List.ext_getElem?
abbrev c9:=@Nat.lt_succ_of_lt
abbrev dg:=@Nat.not_lt_zero
abbrev dh:=@Nat.le_of_lt_succ
abbrev di:=@Nat.lt_succ_iff_lt_or_eq
abbrev dj:=@PySem.mem_of_lookup
abbrev dn:=@Int.le_refl
abbrev dq:=@List.length_reverse
abbrev du:=@List.getElem_inj
abbrev dw:=@List.mem_filterMap
abbrev dy:=@Nat.ne_of_gt
abbrev dB:=@List.find?_cons
abbrev dC:=@Obj.isFreed_of_fields
abbrev dD:=@List.contains_iff_mem
abbrev dE:=@wpAny_standAt
abbrev dF:=@List.all_cons
abbrev dG:=@List.flatten_cons
abbrev dH:=@List.reverse_cons
abbrev dJ:=@Array.getElem_mem
abbrev dL:=@wpS_modify
abbrev dM:=@List.reverse_perm
abbrev dN:=@Nat.pow_le_pow_right
abbrev dO:=@Array.getElem_toList
abbrev dP:=@isSubtype_stop
abbrev dQ:=@PySem.F.args_dict_keyiterator_next_1
abbrev dR:=@Nat.succ_le_succ
abbrev dS:=@List.nodup_range
abbrev dU:=@Heap.get?_update_ne
abbrev dW:=@PySem.F.entry_dict_keyiterator_next
abbrev dX:=@PySem.F.args_tuple_add_2
abbrev dY:=@wpAny_typeOf
abbrev dZ:=@PyProof.Rows.boot_sorted
abbrev ee:=@wpAny_passesOwn
abbrev ef:=@wpAny_Call_Name_kw
abbrev eh:=@PySem.F.entry_tuple_add
abbrev ek:=@Int.natCast_mul
abbrev em:=@Array.append_empty
abbrev en:=@PySem.F.plainAttrs_list
abbrev et:=@List.pairwise_singleton
abbrev eu:=@Nat.min_eq_left
abbrev ez:=@List.getElem?_drop
abbrev eA:=@Option.bind_eq_some_iff
abbrev eC:=@PySem.F.slot_tuple_add
abbrev eD:=@call_meets
abbrev eE:=@Obj.cls_mapFields
abbrev eF:=@Bool.not_eq_true'
abbrev eG:=@List.drop_sublist
abbrev eI:=@Heap.get?_push_ne
abbrev eJ:=@F.args_zip_next_1
abbrev eK:=@List.drop_zero
abbrev eL:=@List.drop_drop
abbrev eM:=@List.Perm.refl
abbrev eO:=@List.map_nil
abbrev eP:=@List.length_singleton
abbrev eQ:=@List.Perm.append_left
abbrev eR:=@List.pairwise_reverse
abbrev eS:=@List.getElem?_eq_none
abbrev eU:=@List.length_replicate
abbrev eV:=@PyProof.Rows.boot_abs
abbrev eW:=@Nat.lt_succ_self
abbrev eX:=@List.length_drop
abbrev eY:=@Array.toList_inj
abbrev eZ:=@List.ext_getElem
abbrev ff:=@F.entry_zip_next
abbrev fg:=@wpAny_pyIter_zip
abbrev fj:=@Heap.get?_none_of_le
abbrev fm:=@List.drop_eq_nil_iff
abbrev fq:=@F.args_tuple_iterator_next_1
abbrev fw:=@Bool.and_true
abbrev fB:=@strLen_append
abbrev fD:=@typeIs_int
abbrev fE:=@PySem.W.plainGet_of
abbrev fF:=@List.of_mem_zip
abbrev fG:=@F.slot_int_rmul
abbrev fH:=@List.forIn_cons
abbrev fJ:=@F.entry_tuple_iterator_next
abbrev fK:=@List.take_left'
abbrev fL:=@entry_list_sort
abbrev fM:=@wpAny_setEntries_of
abbrev fN:=@Int.toNat_of_nonneg
abbrev fO:=@assignInOrder_cons
abbrev fP:=@PySem.W.callWith_K
abbrev fQ:=@tupleKind_room_in1
abbrev fR:=@List.filterMap_map
abbrev fS:=@F.args_tuple_mul_2
abbrev fT:=@Bool.not_eq_false'
abbrev fU:=@Nat.zero_add
abbrev fV:=@Nat.succ_pos
abbrev fW:=@List.map_inj_right
abbrev fX:=@slot_list_sort
abbrev fY:=@args_list_sort
abbrev fZ:=@wpAny_fieldsOf
abbrev gb:=@wpAny_pyIter_list
abbrev gc:=@F.entry_tuple_mul
abbrev ge:=@bne_self_eq_false
abbrev gf:=@Nat.mod_lt
abbrev gg:=@Nat.lt_succ_of_le
abbrev gh:=@wpAny_pyIter_slot
abbrev gk:=@wpAny_dictEntries
abbrev gl:=@List.Pairwise.imp
abbrev gm:=@List.nodup_append
abbrev gn:=@Nat.le_succ
abbrev gq:=@tupleItemsOf_
abbrev gr:=@wpAny_handled
abbrev gt:=@listUpdate_at
abbrev gu:=@wpAny_newList
abbrev gv:=@Int.lt_irrefl
abbrev gx:=@Bool.not_true
abbrev gy:=@noFill_tuple_add
abbrev gA:=@AutoSeq1.idx_int
abbrev gB:=@F.slot_tuple_mul
abbrev gC:=@Array.toList_map
abbrev gD:=@wpAny_forIn_list
abbrev gE:=@codeAny_mono
abbrev gF:=@Nat.add_zero
abbrev Key:=Sum Int Str
def zf8:Key->Value->Bool
 | .inl k,v=>Value.isInt k v
 | .inr x,v=>Value.isStrOf x v
def keyH (w:Ab):Key->Int
 | .inl k=>hashInt k
 | .inr x=>hashStr w x
theorem zX:∀ {k:Key} {v:Value},zf8 k v=true->(∃i t,k=Sum.inl i/\v=Value.int i t)\/(∃x t,k=Sum.inr x/\v=Value.str x t)
 | .inl i,v,h=>by obtain⟨t,e⟩:=Value.isInt_shape (k:=i) (v:=v) h;show .inl #[i,t,BB,e]
 | .inr x,v,h=>by obtain⟨t,e⟩:=Value.isStrOf_shape (x:=x) (v:=v) h;show .inr #[x,t,BB,e]
def ze0 (i:Int)(t:Tok):zf8 (.inl i) (.int i t)=true:=by simp[zf8,Value.isInt]
def zjk (x:Str)(t:Tok):zf8 (.inr x) (.str x t)=true:=by simp[zf8,Value.isStrOf]
def zrB (a b:Int):decide ((Sum.inl a:Key)=Sum.inl b)=(a==b):=by grind
def zrE (a b:Str):decide ((Sum.inr a:Key)=Sum.inr b)=decide (a=b):=by grind
def zrC (a:Int)(b:Str):decide ((Sum.inl a:Key)=Sum.inr b)=false:=rfl
def zrD (a:Str)(b:Int):decide ((Sum.inr a:Key)=Sum.inl b)=false:=rfl
def zY (prog:Aa)(w:Ab):PySem.KeyKind prog w Key where
 is:=zf8
 hash:=keyH w
 inj:=λv a b I F=>by
  rcases zX I with ⟨i,t,rfl,rfl⟩ | ⟨x,t,rfl,rfl⟩;rcases zX F with ⟨j,u,rfl,e⟩ | ⟨y,u,rfl,e⟩;injection e with q _;rw[q];show nomatch e;rcases zX F with ⟨j,u,rfl,e⟩ | ⟨y,u,rfl,e⟩;show nomatch e;injection e with q _;rw[q]
 byValue:=λk v h=>by rcases zX h with ⟨i,t,rfl,rfl⟩ | ⟨x,t,rfl,rfl⟩ <;> rfl
 pyHash:=λB h=>by
  rcases zX B with ⟨i,t,rfl,rfl⟩ | ⟨x,t,rfl,rfl⟩;show wpAny_pyHash_int h;show wpAny_pyHash_str h
 eqBool:=λJ B h=>by
  rcases zX J with ⟨i,t,rfl,rfl⟩ | ⟨x,t,rfl,rfl⟩;rcases zX B with ⟨j,u,rfl,rfl⟩ | ⟨y,u,rfl,rfl⟩;rw[zrB] at h;show wpAny_eqBool_int h;rw[zrC] at h;show SeqAt.EqAt.int_str i t y u _ _ _ _ h;rcases zX B with ⟨j,u,rfl,rfl⟩ | ⟨y,u,rfl,rfl⟩;rw[zrD] at h;show SeqAt.EqAt.str_int x t j u _ _ _ _ h;rw[zrE] at h;show wpAny_eqBool_str h
 «strs»:=λk x t v h=>by
  rcases zX h with ⟨i,u,rfl,e⟩ | ⟨y,u,rfl,e⟩;show nomatch e
  ·injection e with q _;subst q;cases v <;> rfl
def zga (prog:Aa)(w:Ab)(i:Int)(t:Tok):(zY prog w).is (.inl i) (.int i t)=true:=ze0 i t
def zgb (prog:Aa)(w:Ab)(x:Str)(t:Tok):(zY prog w).is (.inr x) (.str x t)=true:=zjk x t
inductive V where
 | non | bl (b:Bool) | int (i:Int) | str (x:Str) | byt (b:Array UInt8) | flt (b:UInt64) | ref (a:Addr) | ty (n:String)
 deriving DecidableEq
abbrev AT:=List V
def yo:V->Value->Prop
 | .non,u=>u=Value.none
 | .bl b,u=>u=Value.bool b
 | .int i,u=>∃t,u=Value.int i t
 | .str x,u=>∃t,u=Value.str x t
 | .byt b,u=>∃t,u=Value.bytes b t
 | .flt b,u=>∃t,u=Value.float b t
 | .ref a,u=>u=Value.ref a
 | .ty n,u=>u=Value.type n
abbrev zR:AT->AN->Prop:=Paired yo
def zR.length(r:zR xs us):xs.length=us.length:=Paired.length r
theorem zR.get:∀ {xs:AT} {us:AN} {i:Nat} {x:V},zR xs us->xs[i]?=some x->∃u,us[i]?=some u/\yo x u
 | _,_,_,_,.nil,e=>by simp at e
 | _,_,0,_,.cons r _,e=>by right
 | _,_,i+1,x,.cons _ t,e=>by
  obtain⟨u,h1,h2⟩:=zR.get (i:=i) (x:=x) t (by simpa using e);right
theorem zR.set(r:yo x u):∀ {xs:AT} {us:AN} (i:Nat),zR xs us->zR (xs.set i x) (us.set i u)
 | _,_,_,.nil=>.nil
 | _,_,0,.cons _ t=>.cons r t
 | _,_,i+1,.cons q t=>.cons q (zR.set r i t)
theorem zR.append:∀ {xs ys:AT} {us q:AN},zR xs us->zR ys q->zR (xs++ys) (us++q)
 | _,_,_,_,.nil,s=>s
 | _,_,_,_,.cons r t,s=>.cons r (zR.append t s)
theorem zR.take:∀ {xs:AT} {us:AN} (n:Nat),zR xs us->zR (xs.take n) (us.take n)
 | _,_,0,_=>.nil
 | _,_,_+1,.nil=>.nil
 | _,_,n+1,.cons r t=>.cons r (zR.take n t)
theorem zR.drop:∀ {xs:AT} {us:AN} (n:Nat),zR xs us->zR (xs.drop n) (us.drop n)
 | _,_,0,r=>r
 | _,_,_+1,.nil=>.nil
 | _,_,n+1,.cons _ t=>zR.drop n t
def zfD:Option V->AJ->Prop
 | some v,some u=>yo v u
 | none,none=>True
 | _,_=>False
def KV {κ:Type}:List (κ×V)->List (κ×Value)->Prop:=Paired λ(p:κ×V) (q:κ×Value)=>p.1=q.1/\yo p.2 q.2
def kV:Key->V
 | .inl i=>.int i
 | .inr x=>.str x
inductive HO where
  | lst (xs:AT)
  | tup (xs:AT)
  | dK (BD:List (Key×V)) | dT (BD:List (List Key×V))
  | set (S:Int->Bool) (n:Nat)
  | ins (C dx:Addr) (fs:List (Str×V))
  | own (x:Addr)
  | xd (fs:List (Str×V))
  | met (f x:Addr)
  | rng (lo hi:Int)
  | frz (o:Obj) (u:HO)
  | tbl (ps:AK)
  | ext (φ:Heap->Prop)
abbrev Hp:=Addr->Option HO
def upd (H:Hp)(a:Addr)(o:HO):Hp:=λb=>if b=a then some o else H b
def zi:upd H a o a=some o:=by unfold upd;rw[if_pos rfl]
def zf(h:b≠a):upd H a o b=H b:=by unfold upd;rw[if_neg h]
def zeD:upd (upd H a o) a u=upd H a u:=by funext b;unfold upd;split <;> rfl
def zlY {H:Hp}{a b:Addr}{o u:HO}(h:H a=some o)(h':H b=some u)(d:o≠u):a≠b:=by grind
def zc {H:Hp}{a b:Addr}{o:HO}(h:H a=some o)(h':H b=none):a≠b:=by grind
def uG (h:Heap)(a:Addr)(items:AK):Prop:=∃o,h.get? a=some o/\o.cls = .type "tuple" /\ (∃n,o.data = .seq items n)/\o.dict=none
def uG.tup(x:uG h a items):IsTup h a items:=let ⟨o,h1,h2,h3,_⟩:=x;#[o,h1,h2,h3]
def uG.lt(x:uG h a items):a<h.objs.size:=x.tup.lt
def uG.new (h:Heap)(items:AK):uG (h.push { cls:=.type "tuple",data:=.seq items }) h.objs.size items:=#[_,av _ BB,BB,#[_,BB],BB]
section
variable (P:Aa)(w:Ab)
def yk (H:Hp)(h:Heap)(a:Addr):HO->Prop
 | .lst xs=>xs.length<=sizeLine/\∃ (B:AN) (n:Nat),zR xs B/\h.get? a=some { cls:=.type "list",data:=.seq B.toArray n }
 | .tup xs=>xs.length<=sizeLine/\∃B:AN,zR xs B/\uG h a B.toArray
 | .dK BD=>BD.length<=sizeLine/\(a==sysModules)=false/\∃vs,KV BD vs/\h.DictOf (zY P w) a vs
 | .dT BD=>BD.length<=sizeLine/\(a==sysModules)=false/\∃xs:List (List Key×Addr×Value),
   Paired (λ(p:List Key×V) (q:List Key×Addr×Value)=>p.1=q.1/\H q.2.1=some (.tup (p.1.map kV))/\yo p.2 q.2.2) BD xs/\
   ∃o es I,h.get? a=some o/\o.ExactDict/\o.data = .dict es I/\es.toList=xs.map (entryOfKey (tupleKind (zY P w)))/\(xs.map (·.1)).Nodup
 | .set S n=>h.SetOf (intKind P w) a S n
 | .ins C dx fs=>H dx=some (.own a)/\fs.length<=1000/\dx≠a/\h.get? a=some (PySem.W.instObj C dx)/\
   ∃mA,h.Ns1 dx mA/\(∀f,zfD (fs.lookup f) (mA f))/\PySem.Within mA (fs.map (·.1))
 | .own _=>∃o,h.get? a=some o
 | .xd fs=>∃mA,h.Ns1 a mA/\∀f,zfD (fs.lookup f) (mA f)
 | .rng lo hi=>∃t u v,h.get? a=some { cls:=.type "range",data:=.fields #v[.int lo t,.int hi u,.int 1 v] }
 | .frz o u=>h.get? a=some o/\yk H h a u
 | .tbl ps=>h.get? a=some { cls:=.none,data:=.fields ps }
 | .met f x=>h.get? a=some (PySem.W.methodObj (.ref f) (.ref x))
 | .ext F=>F h/\(∃o,h.get? a=some o)/\∀h1 h2:Heap,F h1->(∀o,h1.get? a=some o->h2.get? a=some o)->F h2
def HOk (H:Hp)(h:Heap):Prop:=∀a o,H a=some o->yk P w H h a o
end
section
variable {P:Aa}{w:Ab}{H H':Hp}{h h':Heap}{a:Addr}{o:HO}
def yk.lt (x:yk P w H h a o):a<h.objs.size:=by
 cases o with
 | lst xs=>obtain⟨_,_,_,_,e⟩:=x;show aw e
 | tup xs=>obtain⟨_,_,_,p⟩:=x;show p.lt
 | dK BD=>obtain⟨_,_,_,_,o,_,_,e,_⟩:=x;show aw e
 | dT BD=>obtain⟨_,_,_,_,o,_,_,e,_⟩:=x;show aw e
 | set S n=>obtain⟨o,_,_,_,e,_⟩:=x;show aw e
 | ins C dx fs=>obtain⟨_,_,_,e,_⟩:=x;show aw e
 | own y=>obtain⟨_,e⟩:=x;show aw e
 | xd fs=>obtain⟨_,⟨_,_,_,e,_⟩,_⟩:=x;show aw e
 | rng lo hi=>obtain⟨_,_,_,e⟩:=x;show aw e
 | frz ob u=>obtain⟨e,_⟩:=x;show aw e
 | tbl ps=>show aw (show h.get? a=some _ from x)
 | met f y=>show aw (show h.get? a=some _ from x)
 | ext q=>obtain⟨_,⟨_,e⟩,_⟩:=x;show aw e
theorem Paired.mapP {α B:Type}{F BG:α->B->Prop}:∀ {l₁:List α} {q:List B},Paired F l₁ q->(∀a b,F a b->BG a b)->Paired BG l₁ q
 | _,_,.nil,_=>.nil
 | _,_,.cons r t,f=>.cons (f _ _ r) (Paired.mapP t f)
def Paired.imp' {α B:Type}{F BG:α->B->Prop}(f:∀a b,F a b->BG a b){l₁:List α}{q:List B}(r:Paired F l₁ q):Paired BG l₁ q:=Paired.mapP r f
def yk.stay (x:yk P w H h a o)(k:∀b u,(b=a\/H b=some (.own a))->h.get? b=some u->h'.get? b=some u)
  (J:∀b,H b=some (.own a)->H' b=some (.own a)) (O:∀b xs,H b=some (.tup xs)->H' b=some (.tup xs)):yk P w H' h' a o:=by
 induction o with
 | lst xs=>obtain⟨z,F,n,r,e⟩:=x;show#[z,F,n,r,k _ _ (.inl BB) e]
 | tup xs=>obtain⟨z,F,r,ob,e,c⟩:=x;show#[z,F,r,ob,k _ _ (.inl BB) e,c]
 | dK BD=>obtain⟨z,y,vs,r,ob,es,B,e,c⟩:=x;show#[z,y,vs,r,ob,es,B,k _ _ (.inl BB) e,c]
 | dT BD=>
  obtain⟨z,y,xs,r,ob,es,B,e,c⟩:=x;show#[z,y,xs,Paired.mapP r λp q z=>#[z.1,O _ _ z.2.1,z.2.2],ob,es,B,k _ _ (.inl BB) e,c]
 | set S n=>obtain⟨ob,es,B,t,e,c⟩:=x;show#[ob,es,B,t,k _ _ (.inl BB) e,c]
 | ins C dx fs=>
  obtain⟨d,z,U,e,mA,⟨I,es,B,Y,c⟩,r⟩:=x;show#[J _ d,z,U,k _ _ (.inl BB) e,mA,#[I,es,B,k _ _ (.inr d) Y,c],r]
 | own y=>obtain⟨ob,e⟩:=x;show#[ob,k _ _ (.inl BB) e]
 | xd fs=>obtain⟨mA,⟨I,es,B,e,c⟩,r⟩:=x;show#[mA,#[I,es,B,k _ _ (.inl BB) e,c],r]
 | rng lo hi=>obtain⟨t,u,v,e⟩:=x;show#[t,u,v,k _ _ (.inl BB) e]
 | frz ob u Z=>obtain⟨e,q⟩:=x;show#[k _ _ (.inl BB) e,Z q]
 | tbl ps=>
  have e:h.get? a=some { cls:=.none,data:=.fields ps }:=x;change h'.get? a=some { cls:=.none,data:=.fields ps };show k a _ (.inl BB) e
 | met f y=>
  have e:h.get? a=some (PySem.W.methodObj (.ref f) (.ref y)):=x;change h'.get? a=some (PySem.W.methodObj (.ref f) (.ref y));show k a _ (.inl BB) e
 | ext φ=>obtain⟨p,⟨o,e⟩,st⟩:=x;show#[st _ _ p λo q=>k _ _ (.inl BB) q,#[o,k _ _ (.inl BB) e],st]
def HOk.lt (x:HOk P w H h)(e:H a=some o):a<h.objs.size:=(x a o e).lt
def HOk.fresh (x:HOk P w H h)(e:h.objs.size<=a):H a=none:=by
 cases q:H a with
 | none=>rfl
 | some u=>show absurd (aZ (x.lt q) e) (cV _)
def HOk.kept (x:HOk P w H h)(k:∀b u,h.get? b=some u->h'.get? b=some u):HOk P w H h':=λa o e=>
 (x a o e).stay (λb u _ q=>k b u q) (λ_ q=>q) λ_ _ q=>q
def HOk.laid (x:HOk P w H h)(k:∀b u,h.get? b=some u->h'.get? b=some u)(I:h.objs.size<=a)(B:yk P w (upd H a o) h' a o):HOk P w (upd H a o) h':=λb u e=>by
 have hn:=x.fresh I;by_cases F:b=a;subst F;rw[zi] at e;cases e;show B;rw[zf F] at e;show (x b u e).stay (λc v _ q=>k c v q) (λc q=>by rw[zf (zc q hn)];show q) λc xs q=>by rw[zf (zc q hn)];show q
end
def Rd (H:Hp)(a:Addr)(u:HO):Prop:=H a=some u\/∃o,H a=some (.frz o u)
def Rd.ok(r:Rd H a u)(x:HOk P w H h):yk P w H h a u:=by
 rcases r with r | ⟨o,r⟩;show x a u r;obtain⟨_,q⟩:=x a _ r;show q
def Mut:Option HO->Prop
 | some (.lst _)=>True
 | some (.dK _)=>True
 | some (.dT _)=>True
 | some (.set _ _)=>True
 | some (.ins _ _ _)=>True
 | some (.ext _)=>True
 | _=>False
section
variable {P:Aa}{w:Ab}{H:Hp}{h h':Heap}{x e:Addr}{o':HO}
def HOk.write (ok:HOk P w H h)(I:Mut (H x))(he:e=x\/H e=some (.own x))(k:∀b u,b≠e->h.get? b=some u->h'.get? b=some u)(J:∃u,h'.get? e=some u)
  (O:yk P w (upd H x o') h' x o'):HOk P w (upd H x o') h':=λb u q=>by
 have B:∀c y,H c=some (.own y)->c≠x:=λc y r z=>by subst z;rw[r] at I;show I
 have F:∀c xs,H c=some (.tup xs)->c≠x:=λc xs r z=>by subst z;rw[r] at I;show I
 by_cases Y:b=x;subst Y;rw[zi] at q;cases q;show O;rw[zf Y] at q;by_cases U:b=e
 have Z:H b=some (.own x):=by
  grind
 rw[q] at Z;cases Z;obtain⟨v,hv⟩:=J;show#[v,by rw[U];show hv];show (ok b u q).stay (λc v hc r=>k c v ?_ r) (λc r=>by rw[zf (B c b r)];show r) λc xs r=>by rw[zf (F c xs r)];show r
 grind
end
structure Un (fs ex:AY)(H H':Hp)(h h':Heap):Prop where
 keep:∀b o,h.get? b=some o->H b=none->b∉fs->b∉ex->h'.get? b=some o
 slot:∀b o,h.get? b=some o->H b=none->b∈fs->b∉ex->∃sl,h'.get? b=some { o with slots:=sl }
 free:∀b o,h.get? b=some o->H b=none->b∉ex->H' b=none
 there:∀b o,h.get? b=some o->b∉ex->∃o',h'.get? b=some o'
 tups:∀b xs,H b=some (.tup xs)->H' b=some (.tup xs)
 frzs:∀b o u,H b=some (.frz o u)->H' b=some (.frz o u)
 tbls:∀b ps,H b=some (.tbl ps)->∃more,H' b=some (.tbl (ps++more))
section
variable {fs fs' ex ex':AY}{H H1 H2:Hp}{h h1 h2 h':Heap}{a x e:Addr}{o:HO}
def Un.any(u:Un fs ex H H1 h h1)(q:h.get? b=some ob)(n:H b=none)(B:b∉ex):∃I,h1.get? b=some { ob with slots:=I }:=by
 by_cases F:b∈fs;show u.slot b ob q n F B;show#[ob.slots,u.keep b ob q n F B]
def Un.kept (k:∀b u,h.get? b=some u->h'.get? b=some u):Un fs ex H H h h':=
 #[λb ob q _ _ _=>k b ob q,λb ob q _ _ _=>#[ob.slots,k b ob q],λ_ _ _ n _=>n,λb ob q _=>#[ob,k b ob q],λ_ _ q=>q,λ_ _ _ q=>q,λ_ ps q=>#[#v[],by rw[q];simp]]
def Un.refl:Un fs ex H H h h:=Un.kept λ_ _ q=>q
def Un.laid (k:∀b u,h.get? b=some u->h'.get? b=some u)(B:h.objs.size<=a)(hn:H a=none):Un fs ex H (upd H a o) h h' where
 keep:=λb u q _ _ _=>k b u q
 slot:=λb u q _ _ _=>#[u.slots,k b u q]
 free:=λb u q n _=>by rw[zf (aN (aZ (aw q) B))];show n
 there:=λb u q _=>#[u,k b u q]
 tups:=λb xs q=>by rw[zf (zc q hn)];show q
 frzs:=λb u xs q=>by rw[zf (zc q hn)];show q
 tbls:=λb ps q=>#[#v[],by rw[zf (zc q hn),q];simp]
def Un.write (B:Mut (H x))(U:e=x\/H e=some (.own x))(k:∀b u,b≠e->h.get? b=some u->h'.get? b=some u)(J:∃u,h'.get? e=some u):Un fs ex H (upd H x o) h h':=by
 have O:∀b,H b=none->b≠x:=λb n z=>by subst z;rw[n] at B;show B
 have I:∀b,H b=none->b≠e:=λb n z=>by grind
 have F:∀b u,H b=some u->¬ Mut (some u)->b≠x:=λb u q nm z=>by subst z;rw[q] at B;show nm B
 show#[λb u q n _ _=>k b u (I b n) q,λb u q n _ _=>#[u.slots,k b u (I b n) q],λb u q n _=>by rw[zf (O b n)];show n,λb u q _=>?_,
  λb xs q=>by rw[zf (F b _ q λz=>z)];show q,λb u xs q=>by rw[zf (F b _ q λz=>z)];show q,λb ps q=>#[#v[],by rw[zf (F b _ q λz=>z),q];simp]]
 grind
end
def trk (h:Heap)(H:Hp):AY:=(List.range h.objs.size).filter λa=>(H a).isSome
def zlt (h:Heap)(H:Hp):Heap:=PySem.W.hideAll h (trk h H)
def zi0 (h:Heap)(H:Hp):(zlt h H).objs.size=h.objs.size:=PySem.W.hideAll_size _ _
def zlu(e:h.get? b=some o)(n:H b=none):(zlt h H).get? b=some o:=
 PySem.W.hideAll_get _ e λB=>by
  have q:(H b).isSome=true:=(cB.mp B).2;right
def zpc(e:(zlt h H).get? b=some o):h.get? b=some o/\H b=none:=by
 have B:h.get? b=some o:=PySem.W.of_hideAll (trk h H) e;show#[B,?_]
 cases q:H b with
 | none=>rfl
 | some x=>
  have F:b∈trk h H:=cB.mpr #[aK.mpr (aw B),by simp[q]];have z:(zlt h H).get? b=none:=PySem.W.hideAll_none (trk h H) F;grind
def znY (g h:Heap)(L:Addr):AB:=(List.range h.objs.size).filterMap λa=>if a=L\/(g.get? a).isSome=true then none else (h.get? a).map λo=>(a,o)
def zx (g h:Heap)(L d:Addr):AB:=(znY g h L).filter λp=>decide (p.1≠d)
structure Mod (K:AH)(mg:AI)(base:Heap):Prop where
 kin:K.In base
 glob:base.Ns mainGlobals mg
 blt:∃mb,base.Ns builtinsNs mb/\∀x:Str,x ≠ "__name__" -> mb x=bootBuiltins x
 nolimit:base.NoLimit
structure Cx where
 prog:Aa
 w:Ab
 K:AH
 mg:AI
 base:Heap
 A:Ae
 N:AM
 s₀:AZ
 H₀:Hp
 env:Env
 outer:List Env
 stack:List Env
 ex:AY
 fn:Str->Bool
 calm:Bool
 pn:AB
 xe:AA
abbrev Af (X:Cx){α:Type}:=@wpAny α (model X.prog X.w) X.A
def frs (l:List Env):AY:=l.filterMap (·.frame)
abbrev Cx.fs (X:Cx):AY:=frs X.outer
def Vis (q:Scope)(x:Str):Prop:=q.names.lookup x=some .local\/q.names.lookup x=some .cell\/q.names.lookup x=some .free
def Loc (q:Scope)(x:Str):Prop:=q.names.lookup x=some .local\/q.names.lookup x=some .cell
def Look (env:Env)(h:Heap)(m:AI)(x:Str)(u:Value):Prop:=
 (env.kindOf x=some .local/\m x=some u)\/((env.kindOf x=some .cell\/env.kindOf x=some .free)/\∃c,env.cells.lookup x=some c/\h.IsCell c (some u))
structure Cx.Ok (X:Cx):Prop where
 mod:Mod X.K X.mg X.base
 kind:X.env.scope.kind = .function
 glob:X.env.globals=mainGlobals
 blt:X.env.builtins=builtinsNs
 above:X.s₀.heap.objs.size<=X.env.locals
 inj:∀x y c,X.env.cells.lookup x=some c->X.env.cells.lookup y=some c->x=y
 has:∀x,(X.env.kindOf x=some .cell\/X.env.kindOf x=some .free)->∃c,X.env.cells.lookup x=some c
 cab:∀x c,X.fn x=true->X.env.cells.lookup x=some c->X.s₀.heap.objs.size<=c
 hd:X.calm=true->X.A.handled=none
 frames:X.A.frames=some X.stack
 stk:X.stack=X.outer\/(X.stack=X.env::X.outer/\X.env.frame=some X.env.locals)
 exf:∀b∈X.ex,b≠X.env.locals/\∀x c,X.env.cells.lookup x=some c->c≠b
 bs:∀b o,X.base.get? b=some o->X.s₀.heap.get? b=some o/\X.H₀ b=none
 bsz:X.base.objs.size<=X.s₀.heap.objs.size
 noex:∀b o,X.base.get? b=some o->b∉X.ex
 exfs:∀b∈X.ex,b∉X.fs
 funs:X.s₀.heap.FunFrames X.base X.outer
 frf:∀b∈X.fs,X.H₀ b=none
structure Inv (X:Cx)(BC:AB)(G:List (Option V))(H:Hp)(s:AZ):Prop where
 ok:X.Ok
 os:s.os=X.s₀.os
 bare:AllBare s.gens
 base:Un X.fs X.ex X.H₀ H X.s₀.heap s.heap
 loc:∃m,s.heap.Ns X.env.locals m/\∀ (i:Nat) (x:Str) (v:V),X.N[i]?=some x->G[i]?=some (some v)->Vis X.env.scope x->∃u,yo v u/\Look X.env s.heap m x u
 cell:∀x c,X.env.cells.lookup x=some c->∃v,s.heap.IsCell c v
 free:H X.env.locals=none
 freeC:∀x c,X.env.cells.lookup x=some c->H c=none
 pin:∀p∈X.pn++BC,s.heap.get? p.1=some p.2/\H p.1=none/\p.1≠X.env.locals/\p.1∉X.fs/\∀v,p.2.data≠.cell v
 hok:HOk X.prog X.w H s.heap
 len:G.length=X.N.length
section
variable {X:Cx}{BC:AB}{G:List (Option V)}{H H':Hp}{s:AZ}{h':Heap}
def Cx.Ok.nofr(q:X.Ok)(e:X.base.get? b=some o):b∉X.fs:=λB=>by
 have:=(q.funs.mem B).1;grind
def Inv.bs (I:Inv X BC G H s):∀b o,X.base.get? b=some o->s.heap.get? b=some o/\H b=none:=λb o e=>
 #[I.base.keep b o (I.ok.bs b o e).1 (I.ok.bs b o e).2 (I.ok.nofr e) (I.ok.noex b o e),I.base.free b o (I.ok.bs b o e).1 (I.ok.bs b o e).2 (I.ok.noex b o e)]
def Inv.bk (I:Inv X BC G H s):∀b o,X.base.get? b=some o->s.heap.get? b=some o:=λb o e=>(I.bs b o e).1
def Inv.mod (I:Inv X BC G H s):Mod X.K X.mg X.base:=I.ok.mod
def Inv.kIn (I:Inv X BC G H s):X.K.In s.heap:=I.ok.mod.kin.keeps I.bk
def Inv.lt (I:Inv X BC G H s):X.env.locals<s.heap.objs.size:=let ⟨_,hn,_⟩:=I.loc;hn.lt
def Inv.sz (I:Inv X BC G H s):X.s₀.heap.objs.size<=s.heap.objs.size:=aq I.ok.above (cH I.lt)
def Inv.nofs (I:Inv X BC G H s){a:Addr}(h:s.heap.objs.size<=a):a∉X.fs:=λq=>by obtain⟨_,o,B,_⟩:=I.ok.funs.mem q;show absurd (aZ (aw B) (aq I.sz h)) (cV _)
def Inv.cne (I:Inv X BC G H s):∀x c,X.env.cells.lookup x=some c->c≠X.env.locals:=λx c e z=>by
 obtain⟨v,o,F,J⟩:=I.cell x c e;obtain⟨m,⟨o',es,O,q,B,_⟩,_⟩:=I.loc;grind
def Inv.funs (I:Inv X BC G H s):s.heap.FunFrames X.base X.outer:=by
 have all:∀ (l:List Env),(∀b∈frs l,b∈X.fs)->X.s₀.heap.FunFrames X.base l->s.heap.FunFrames X.base l:=by
  intro l
  induction l with
  | nil=>intro _ _;trivial
  | cons env r J=>
   intro hs O;obtain⟨U,⟨L,o,q,hn,Y,Z⟩,hr⟩:=O;have B:L∈X.fs:=hs L (by unfold frs;rw[cr,q];show am);obtain⟨sl,e⟩:=I.base.slot L o Y (I.ok.frf L B) B λz=>I.ok.exfs L z B;show#[U,#[L,_,q,hn,e,Z],J (λb F=>hs b (by unfold frs;rw[cr,q];show ar _ F)) hr]
 show all X.outer (λ_ F=>F) I.ok.funs
def Inv.stack (I:Inv X BC G H s):s.heap.FunFrames X.base X.stack:=by
 rcases I.ok.stk with e | ⟨e,hf⟩;rw[e];show I.funs;rw[e];obtain⟨m,hn,_⟩:=I.loc;show .cons (by rw[I.ok.kind];decide) hf hn ?_ I.funs;show fj (aq I.ok.bsz I.ok.above)
def Inv.stkSub (I:Inv X BC G H s):∀b∈frs X.stack,b∈X.env.locals::X.fs:=λb q=>by
 rcases I.ok.stk with e | ⟨e,hf⟩;grind;rw[e] at q;unfold frs at q;rw[cr,hf] at q;show q
def Inv.stkFree (I:Inv X BC G H s):∀b∈frs X.stack,H b=none:=λb q=>by
 rcases ay.mp (I.stkSub b q) with e | q;rw[e];show I.free;obtain⟨_,o,B,_⟩:=I.ok.funs.mem q;show I.base.free b o B (I.ok.frf b q) λz=>I.ok.exfs b z q
def Inv.step {g':Array GenState}{t':Nat}{d':Drawn}{ch:AY}(I:Inv X BC G H s)
  (F:∀b∈ch,(b∈X.ex\/X.s₀.heap.objs.size<=b)/\b≠X.env.locals/\(∀x c,X.env.cells.lookup x=some c->c≠b)/\∀p∈X.pn++BC,p.1≠b)
  (U:∀b o,b≠X.env.locals->b∉X.fs->b∉ch->s.heap.get? b=some o->H b=none->h'.get? b=some o)
  (Y:∀b o,b≠X.env.locals->b∈X.fs->b∉ch->s.heap.get? b=some o->H b=none->∃sl,h'.get? b=some { o with slots:=sl }) (J:∀b o,b∉ch->s.heap.get? b=some o->H b=none->H' b=none)
  (an:∀b o,b∉ch->s.heap.get? b=some o->∃o',h'.get? b=some o')
  (ad:∀b xs,H b=some (.tup xs)->H' b=some (.tup xs)) (ag:∀b o u,H b=some (.frz o u)->H' b=some (.frz o u)) (a0:∀b ps,H b=some (.tbl ps)->∃more,H' b=some (.tbl (ps++more)))
  (ns:∀m,s.heap.Ns X.env.locals m->h'.Ns X.env.locals m) (ap:HOk X.prog X.w H' h') (hg:AllBare g') :
  Inv X BC G H' { s with heap:=h',gens:=g',drawn:=d',toks:=t' }:=by
 have al:∀b o,X.s₀.heap.get? b=some o->b≠X.env.locals:=λb o e=>aN (aZ (aw e) I.ok.above)
 have Z:∀b o,X.s₀.heap.get? b=some o->b∉X.ex->b∉ch:=λb o e B hb=>by
  rcases (F b hb).1 with z | z;show B z;show absurd (aZ (aw e) z) (cV _)
 have O:∀x c,X.env.cells.lookup x=some c->∀v,s.heap.IsCell c v->h'.IsCell c v:=by
  rintro x c e v ⟨o,ho,hd⟩;have ac:c∉ch:=λz=>(F c z).2.2.1 x c e BB;by_cases hc:c∈X.fs;obtain⟨sl,q⟩:=Y c o (I.cne x c e) hc ac ho (I.freeC x c e);show#[_,q,hd];show#[o,U c o (I.cne x c e) hc ac ho (I.freeC x c e),hd]
 show#[I.ok,I.os,hg,#[λb o e n hb B=>?_,λb o e n hb B=>?_,λb o e n B=>?_,λb o e B=>?_,λb xs e=>ad b xs (I.base.tups b xs e),λb o xs e=>ag b o xs (I.base.frzs b o xs e),λb ps e=>?_],?_,λx c e=>?_,?_,λx c e=>?_,λp hp=>?_,ap,I.len];show U b o (al b o e) hb (Z b o e B) (I.base.keep b o e n hb B) (I.base.free b o e n B);obtain⟨sl,e1⟩:=I.base.slot b o e n hb B;obtain⟨as,e2⟩:=Y b _ (al b o e) hb (Z b o e B) e1 (I.base.free b o e n B);show#[as,e2];obtain⟨o',e1⟩:=I.base.there b o e B;show J b o' (Z b o e B) e1 (I.base.free b o e n B);obtain⟨o',e1⟩:=I.base.there b o e B;right;obtain⟨m1,e1⟩:=I.base.tbls b ps e;grind;obtain⟨m,hn,hl⟩:=I.loc;show#[m,ns m hn,λi x v e1 e2 e3=>?_];obtain⟨u,r,l⟩:=hl i x v e1 e2 e3;show#[u,r,?_];rcases l with l | ⟨k,c,e,z⟩;show .inl l;show .inr #[k,c,e,O x c e _ z];obtain⟨v,z⟩:=I.cell x c e;show#[v,O x c e v z];obtain⟨m,⟨o,_,_,ho,_⟩,_⟩:=I.loc;show J _ o (λz=>(F _ z).2.1 BB) ho I.free;obtain⟨v,o,ho,hd⟩:=I.cell x c e;show J c o (λz=>(F c z).2.2.1 x c e BB) ho (I.freeC x c e);obtain⟨e,n,ne,nf,d⟩:=I.pin p hp;have ac:p.1∉ch:=λz=>(F p.1 z).2.2.2 p hp BB;right
def Inv.un(I:Inv X BC G H s)(u:Un X.fs [] H H' s.heap h')(B:HOk X.prog X.w H' h'):Inv X BC G H' { s with heap:=h',toks:=t' }:=by
 obtain⟨m,⟨o,es,ep,O,r⟩,_⟩:=id I.loc;obtain⟨sl,U⟩:=u.any O I.free (by simp);show I.step (g':=s.gens) (d':=s.drawn) (ch:=[]) (λ_ z=>nomatch z) (λb o _ F _ e n=>u.keep b o e n F (by simp)) (λb o _ F _ e n=>u.slot b o e n F (by simp)) (λb o _ e n=>u.free b o e n (by simp)) (λb o _ e=>u.there b o e (by simp)) u.tups u.frzs u.tbls (λm' Y=>by obtain⟨o',es',J,q,Z⟩:=Y;rw[O] at q;cases q;show#[_,es',J,U,Z]) B I.bare
def Inv.call(I:Inv X BC G H s)(u:Un (frs X.stack) ch H H' s.heap h')(J:HOk X.prog X.w H' h')(Z:AllBare g')(B:∀b∈ch,(b∈X.ex\/X.s₀.heap.objs.size<=b)/\b≠X.env.locals/\(∀x c,X.env.cells.lookup x=some c->c≠b)/\∀p∈X.pn++BC,p.1≠b) :
  Inv X BC G H' { s with heap:=h',gens:=g',drawn:=d',toks:=t' }:=by
 obtain⟨m,⟨o,es,ep,Y,r⟩,_⟩:=id I.loc;obtain⟨sl,O⟩:=u.any Y I.free λz=>(B _ z).2.1 BB;show I.step (ch:=ch) B (λb o O hb q e n=>u.keep b o e n (λz=>(ay.mp (I.stkSub b z)).elim O hb) q) (λb o _ _ q e n=>u.any e n q) (λb o q e n=>u.free b o e n q) (λb o q e=>u.there b o e q) u.tups u.frzs u.tbls (λm' hm=>by obtain⟨o',es',U,F,r'⟩:=hm;rw[Y] at F;cases F;show#[_,es',U,O,r']) J Z
def Inv.turned(I:Inv X BC G H s)(k:∀b o,b≠B->s.heap.get? b=some o->h'.get? b=some o)(hn:H B=none)(J:B≠X.env.locals)(h1:B∈X.ex\/X.s₀.heap.objs.size<=B)(h2:∀x c,X.env.cells.lookup x=some c->c≠B)(O:∀p∈X.pn++BC,p.1≠B):Inv X BC G H { s with heap:=h',toks:=t' }:=by
 have U:∀b u,H b=some u->b≠B:=λb u e z=>by rw[z,hn] at e;cases e
 show I.step (g':=s.gens) (d':=s.drawn) (ch:=[B]) (λb Y=>?_) (λb o _ _ F e _=>k b o (λz=>F (by simp[z])) e) (λb o _ _ F e _=>#[o.slots,k b o (λz=>F (by simp[z])) e]) (λ_ _ _ _ n=>n)
  (λb o F e=>#[o,k b o (λz=>F (by simp[z])) e]) (λ_ _ e=>e) (λ_ _ _ e=>e) (λb ps e=>#[#v[],by rw[e];simp]) (λm Z=>?_) (λb u e=>?_) I.bare
 have e:b=B:=by simpa using Y
 subst e;show#[h1,J,h2,O];obtain⟨o,es,ep,ho,r⟩:=Z;show#[o,es,ep,k _ o (Ne.symm J) ho,r];show (I.hok b u e).stay (λc v F q=>k c v ?_ q) (λ_ q=>q) λ_ _ q=>q;grind
def Inv.tok (I:Inv X BC G H s)(t:Nat):Inv X BC G H { s with toks:=t }:=I.un (h':=s.heap) (t':=t) Un.refl I.hok
def Inv.kept(I:Inv X BC G H s)(k:∀b u,s.heap.get? b=some u->h'.get? b=some u):Inv X BC G H { s with heap:=h',toks:=t' }:=I.un (Un.kept k) (I.hok.kept k)
def Inv.laid{a:Addr}(I:Inv X BC G H s)(k:∀b u,s.heap.get? b=some u->h'.get? b=some u)(q:s.heap.objs.size<=a)(B:yk X.prog X.w (upd H a o) h' a o) :
  Inv X BC G (upd H a o) { s with heap:=h',toks:=t' }:=I.un (Un.laid k q (I.hok.fresh q)) (I.hok.laid k q B)
def Inv.write(I:Inv X BC G H s)(F:Mut (H x))(J:e=x\/H e=some (.own x))(k:∀b u,b≠e->s.heap.get? b=some u->h'.get? b=some u)(q:∃u,h'.get? e=some u)(B:yk X.prog X.w (upd H x o) h' x o):Inv X BC G (upd H x o) { s with heap:=h',toks:=t' }:=I.un (Un.write F J k q) (I.hok.write F J k q B)
def Inv.pins_of(I:Inv X BC G H s)(h:∀p∈q,s.heap.get? p.1=some p.2/\H p.1=none/\p.1≠X.env.locals/\p.1∉X.fs/\∀v,p.2.data≠.cell v):Inv X q G H s:=
 #[I.ok,I.os,I.bare,I.base,I.loc,I.cell,I.free,I.freeC,λp B=>(ax.mp B).elim (λz=>I.pin p (bN _ z)) (h p),I.hok,I.len]
def zg6 {N:AM}(q:N.Nodup){i j:Nat}{x:Str}(a:N[i]?=some x)(b:N[j]?=some x):i=j:=by obtain⟨h1,B⟩:=ah.mp a;obtain⟨h2,F⟩:=ah.mp b;show (du q).mp (B.trans F.symm)
def zfu(I:Inv X BC G H s)(hN:X.N.Nodup)(hi:X.N[i]?=some x)(J:Loc X.env.scope x)(r:yo v u)(h:∀s',Inv X BC (G.set i (some v)) H s'->(∃a,Heap.SameBut a s.heap s'.heap/\(a=X.env.locals\/X.env.cells.lookup x=some a))->Q () s')(hf:X.fn x=true\/X.env.scope.names.lookup x=some .local:=by fail"l"):wpAny M A (storeName X.env x u) Q E s:=by
 obtain⟨m,hn,hl⟩:=id I.loc;have ad:(X.env.scope.kind==.class || (X.env.scope.kind==.module&&X.env.locals != X.env.globals))=false:=by rw[I.ok.kind];rfl
 have Y:i<G.length:=by rw[I.len];show (ah.mp hi).1
 have Z:=I.cne
 have B:∀ {a:Addr} {h':Heap},(∃o,s.heap.get? a=some o/\H a=none)->Heap.SameBut a s.heap h'->HOk X.prog X.w H h':=λ{a h'} ha hs b ob e=>by
  obtain⟨_,_,an⟩:=ha;show (I.hok b ob e).stay (λc w' O q=>(hs.2 c ?_).trans q) (λ_ q=>q) λ_ _ q=>q;grind
 rcases J with hk | hk;show wpAny_storeName_local hk hn (λh' ap hs=>?_) ad;obtain⟨oL,_,_,as,_⟩:=id hn;show h _ #[I.ok,I.os,I.bare,#[λb o e n hb J=>?_,λb o e n hb J=>?_,I.base.free,λb o e J=>?_,I.base.tups,I.base.frzs,I.base.tbls],#[_,ap,λj y v' F U e3=>?_],λy c e=>?_,I.free,I.freeC,λp hp=>?_,B #[oL,as,I.free] hs,by simpa using I.len] #[_,hs,.inl BB];show (hs.2 b (aN (aZ (aw e) I.ok.above))).trans (I.base.keep b o e n hb J);obtain⟨sl,F⟩:=I.base.slot b o e n hb J;show#[sl,(hs.2 b (aN (aZ (aw e) I.ok.above))).trans F];obtain⟨o',F⟩:=I.base.there b o e J;show#[o',(hs.2 b (aN (aZ (aw e) I.ok.above))).trans F];by_cases hj:j=i;subst hj;rw[hi] at F;cases F;rw[aS Y] at U;cases U;show#[u,r,.inl #[hk,by simp]];rw[aB (Ne.symm hj)] at U;obtain⟨u',r',q⟩:=hl j y v' F U e3;show#[u',r',?_];rcases q with ⟨k,e⟩ | ⟨k,c,e,z⟩;show .inl #[k,?_];have:y≠x:=λe=>hj (zg6 hN F (e ▸ hi));simp[this,e];show .inr #[k,c,e,z.sameBut hs (Z y c e)];obtain⟨w',z⟩:=I.cell y c e;show#[w',z.sameBut hs (Z y c e)];obtain⟨e,n,ne,nf,d⟩:=I.pin p hp;show#[(hs.2 p.1 ne).trans e,n,ne,nf,d]
 have ac:X.fn x=true:=by
  grind
 obtain⟨c,O⟩:=I.ok.has x (.inl hk);obtain⟨w',z⟩:=I.cell x c O;show wpAny_storeName_cell I.ok.kind hk O z (λh' ag hs=>?_);obtain⟨oc,a0,a1⟩:=id z;show h { s with heap:=h' } #[I.ok,I.os,I.bare,#[λb o e n hb J=>?_,λb o e n hb J=>?_,I.base.free,λb o e J=>?_,I.base.tups,I.base.frzs,I.base.tbls],#[m,hn.sameBut hs (Ne.symm (Z x c O)),λj y v' F U e3=>?_],λy c' e=>?_,I.free,I.freeC,λp hp=>?_,B #[oc,a0,I.freeC x c O] hs,by simpa using I.len] #[c,hs,.inr O];show (hs.2 b (aN (aZ (aw e) (I.ok.cab x c ac O)))).trans (I.base.keep b o e n hb J);obtain⟨sl,F⟩:=I.base.slot b o e n hb J;show#[sl,(hs.2 b (aN (aZ (aw e) (I.ok.cab x c ac O)))).trans F];obtain⟨o',F⟩:=I.base.there b o e J;show#[o',(hs.2 b (aN (aZ (aw e) (I.ok.cab x c ac O)))).trans F];by_cases hj:j=i;subst hj;rw[hi] at F;cases F;rw[aS Y] at U;cases U;show#[u,r,.inr #[.inl hk,c,O,ag]];rw[aB (Ne.symm hj)] at U;obtain⟨u',r',q⟩:=hl j y v' F U e3;show#[u',r',?_];rcases q with q | ⟨k,c',e,z'⟩;show .inl q;show .inr #[k,c',e,z'.sameBut hs ?_];rintro rfl;show hj (zg6 hN F (I.ok.inj _ _ _ e O ▸ hi));by_cases al:c'=c;subst al;show#[_,ag];obtain⟨w2,z2⟩:=I.cell y c' e;show#[w2,z2.sameBut hs al];obtain⟨e,n,ne,nf,d⟩:=I.pin p hp;show#[(hs.2 p.1 ?_).trans e,n,ne,nf,d];intro q;right
def zb2(I:Inv X BC G H s)(q:X.N.Nodup)(hi:X.N[i]?=some x)(B:Loc X.env.scope x)(r:yo v u)(h:∀s',Inv X BC (G.set i (some v)) H s'->Q () s')(F:X.fn x=true\/X.env.scope.names.lookup x=some .local:=by fail"l"):wpAny M A (storeName X.env x u) Q E s:=
 zfu I q hi B r (λs' I' _=>h s' I') F
def Inv.call'(I:Inv X BC G H s)(F:s'.os=s.os)(u:Un (frs X.stack) ch H H' s.heap s'.heap)(q:HOk X.prog X.w H' s'.heap)(J:AllBare s'.gens)(B:∀b∈ch,(b∈X.ex\/X.s₀.heap.objs.size<=b)/\b≠X.env.locals/\(∀x c,X.env.cells.lookup x=some c->c≠b)/\∀p∈X.pn++BC,p.1≠b):Inv X BC G H' s':=by
 obtain⟨h',g',d',t',o'⟩:=s';have e:o'=s.os:=F;subst e;show I.call (g':=g') (t':=t') (d':=d') u q J B
end
abbrev XK:=Value->Option Addr->Hp->Prop
abbrev St:=List (Option V)
abbrev VK:=V->Hp->Prop
abbrev TE:=St->Hp->VK->Prop
abbrev TT:=St->Hp->(Bool->Hp->Prop)->Prop
abbrev TA:=St->Hp->(AT->Hp->Prop)->Prop
structure Ends where
 nx:St->Hp->Prop
 rt:VK
 bk:St->Hp->Prop:=λ_ _=>False
 ct:St->Hp->Prop:=λ_ _=>False
abbrev TS:=Ends->St->Hp->Prop
def EP (X:Cx)(BC:AB)(G:St)(Q:VK)(u:Value)(s':AZ):Prop:=∃v H',Inv X BC G H' s'/\yo v u/\Q v H'
def TP (X:Cx)(BC:AB)(G:St)(Q:Bool->Hp->Prop)(b:Bool)(s':AZ):Prop:=∃H',Inv X BC G H' s'/\Q b H'
def AP (X:Cx)(BC:AB)(G:St)(Q:AT->Hp->Prop)(us:AN)(s':AZ):Prop:=∃vs H',Inv X BC G H' s'/\zR vs us/\Q vs H'
def SP (X:Cx)(BC:AB)(BH:Ends)(f:Flow)(s':AZ):Prop:=
 match f with
 | .next=>∃ q H',Inv X BC q H' s'/\BH.nx q H'
 | .brk=>∃ q H',Inv X BC q H' s'/\BH.bk q H'
 | .cont=>∃ q H',Inv X BC q H' s'/\BH.ct q H'
 | .ret u=>∃v q H',Inv X BC q H' s'/\yo v u/\BH.rt v H'
def PE (X:Cx)(e:Expr)(t:TE):Prop:=
 ∀ (BC:AB) (s:AZ) (G:St) (H:Hp) (Q:VK),Inv X BC G H s->t G H Q->Af X (eval e X.env) (EP X BC G Q) X.xe s
def PT (X:Cx)(e:Expr)(t:TT):Prop:=
 ∀ (BC:AB) (s:AZ) (G:St) (H:Hp) (Q:Bool->Hp->Prop),Inv X BC G H s->t G H Q->Af X (isTrue e X.env (eval e X.env)) (TP X BC G Q) X.xe s
def PW (X:Cx)(e:Expr)(t:TT):Prop:=
 ∀ (q:Sem Value) (BC:AB) (s:AZ) (G:St) (H:Hp) (Q:Bool->Hp->Prop),Inv X BC G H s->t G H Q->Af X (isTrue e X.env q) (TP X BC G Q) X.xe s
def PW.pt(h:PW X e t):PT X e t:=h _
def PA (X:Cx)(es:AO)(t:TA):Prop:=
 ∀ (pos:Pos) (BC:AB) (s:AZ) (G:St) (H:Hp) (Q:AT->Hp->Prop),Inv X BC G H s->t G H Q->Af X (spliced (backTo pos (starEach es X.env))) (AP X BC G Q) X.xe s
def PS (X:Cx)(st:Stmt)(t:TS):Prop:=
 ∀ (BC:AB) (s:AZ) (G:St) (H:Hp) (BH:Ends),Inv X BC G H s->t BH G H->Af X (exec st X.env) (SP X BC BH) X.xe s
def PSs (X:Cx)(st:List Stmt)(t:TS):Prop:=
 ∀ (BC:AB) (s:AZ) (G:St) (H:Hp) (BH:Ends),Inv X BC G H s->t BH G H->Af X (execs st X.env) (SP X BC BH) X.xe s
def thn{α:Type}{t:Sem α}{Q Q':α->AZ->Prop}(h:wpAny M A t Q E s)(q:∀a s,Q a s->Q' a s):wpAny M A t Q' E s:=bC h q λ_ _ x=>x
section
variable {X:Cx}
def za4 (i:Nat):TE:=λG H Q=>∃v,G[i]?=some (some v)/\Q v H
def tC (v:V):TE:=λ_ H Q=>Q v H
def zns {i:Nat}{x:Str}{pos:Pos}(J:X.N[i]?=some x)(O:Vis X.env.scope x)(B:Ah x:=by ext)(F:(x==("__classdict__" : Str))=false:=by ext):PE X (.Name x pos) (za4 i):=by
 intro BC s G H Q I h;obtain⟨v,e,h⟩:=h;obtain⟨m,hn,U⟩:=I.loc;obtain⟨u,r,l⟩:=U i x v J e O;have fin:EP X BC G Q u s:=#[v,H,I,r,h];rcases l with ⟨q,hm⟩ | ⟨q,c,hc,hcell⟩;show wpAny_Name (wpAny_loadName_local I.ok.kind q hn hm fin) B;rcases q with q | q;show wpAny_Name (wpAny_loadName_cell I.ok.kind q hc hcell fin) B;show wpAny_Name (wpAny_loadName_free I.ok.kind q hc hcell fin F) B
def znr {i j pos}:PE X (.Constant (.int i) j pos) (tC (.int i)):=λ_ _ _ H _ I h=>wpAny_Constant_int #[.int i,H,I.tok _,#[_,BB],h]
def zvl {b j pos}:PE X (.Constant (.bool b) j pos) (tC (.bl b)):=λ_ _ _ H _ I h=>Constant_bool #[.bl b,H,I,BB,h]
def zr8 {j pos}:PE X (.Constant .none j pos) (tC .non):=λ_ _ _ H _ I h=>Constant_none #[.non,H,I,BB,h]
def zsb {x j pos}:PE X (.Constant (.str x) j pos) (tC (.str x)):=λ_ _ _ H _ I h=>Calls.Constant_str #[.str x,H,I.tok _,#[_,BB],h]
def Gl (X:Cx)(x:Str):Prop:=X.env.kindOf x=some .globalImplicit
def zjm{E:AA}{BC:AB}{s:AZ}{G:St}{H:Hp}{x:Str}{u:Value}{Q:AA}(I:Inv X BC G H s)(q:Gl X x)(B:X.mg x=some u)(h:Q u s)(F:Ah x:=by ext):Af X (eval (.Name x pos) X.env) Q E s:=
 Calls.Name_function_global I.ok.kind q (Calls.loadGlobal_global (by rw[I.ok.glob];show I.mod.glob.keeps I.bk) B h) F
def zco {E:AA}{BC:AB}{s:AZ}{G:St}{H:Hp}{x:Str}{u:Value}{pos:Pos}{Q:AA}(I:Inv X BC G H s)(q:Gl X x)(B:X.mg x=none)(F:bootBuiltins x=some u)(h:Q u s)
  (hn:x ≠ "__name__" := by ext) (J:Ah x:=by ext):Af X (eval (.Name x pos) X.env) Q E s:=by
 obtain⟨O,h1,h2⟩:=I.mod.blt;show Calls.Name_function_global I.ok.kind q (Calls.loadGlobal_builtin (by rw[I.ok.glob];show I.mod.glob.keeps I.bk) B (by rw[I.ok.blt];show h1.keeps I.bk) ((h2 x hn).trans F) h) J
def zpl {x:Str}{v:V}{u:Value}{pos:Pos}(q:Gl X x)(B:X.mg x=none)(F:bootBuiltins x=some u)(r:yo v u)(hn:x ≠ "__name__" := by ext)(J:Ah x:=by ext):PE X (.Name x pos) (tC v):=
 λ_ _ _ H _ I h=>zco I q B F #[v,H,I,r,h] hn J
variable {a b:Expr}{ta tb:TE}{pos:Pos}
def PC (X:Cx)(F:CmpOp)(a b:Expr)(t:TE):Prop:=
 ∀ (BC:AB) (s:AZ) (G:St) (H:Hp) (Q:VK),Inv X BC G H s->t G H Q->
  Af X (eval a X.env) (λv q=>Af X (eval b X.env) (λu B=>Af X (compareOp F v u) (EP X BC G Q) X.xe B) X.xe q) X.xe s
def zg5(b:Expr)(h:q≠.In)(h2:q≠.NotIn):behindInMarks q b=false:=by
 have B:(q==CmpOp.In)=false:=by cases q <;> first | rfl | show absurd BB h
 have F:(q==CmpOp.NotIn)=false:=by cases q <;> first | rfl | show absurd BB h2
 cases b <;> simp[behindInMarks,B,F]
def zvJ (ta:TE):TE:=λG H Q=>ta G H λx H1=>Q (.bl (decide (x = .non))) H1
def yo.none_iff(r:yo x v):(v==Value.none)=decide (x = .non):=by
 cases x with
 | non=>cases r;rfl
 | bl _=>cases r;rfl
 | int _=>obtain⟨t,rfl⟩:=r;rfl
 | str _=>obtain⟨t,rfl⟩:=r;rfl
 | byt _=>obtain⟨t,rfl⟩:=r;rfl
 | flt _=>obtain⟨t,rfl⟩:=r;rfl
 | ref _=>cases r;rfl
 | ty _=>cases r;rfl
def zr4 {j pos'}(q:PE X a ta):PC X .Is a (.Constant .none j pos') (zvJ ta):=by intro BC s G H Q I h;show thn (q BC s G H _ I h)  ?_;rintro v J ⟨x,H1,I1,B,F⟩;show Constant_none (is_none_gen #[.bl _,H1,I1,by rw[B.none_iff];rfl,F])
def tB (t:TE):TT:=λG H Q=>t G H λx H1=>∃c,x = .bl c/\Q c H1
def znv(h:PC X B a b t)(h1:behindInMarks B b=false:=by first | show zg5 _ (by ext) (by ext) | rfl):PT X (.Compare a [B] [b] pos) (tB t):=by intro BC s G H Q I F;show wpAny_isTrue_Compare1 (thn (h BC s G H _ I F) λv U h1=>thn h1 λu Y h2=>thn h2 λc Z ⟨x,H1,I1,J,O⟩=>?_) h1;obtain⟨d,rfl,q⟩:=O;cases J;show cK #[H1,I1,q]
def zsr(h:PE X e t)(he:∀whole,isTrue e X.env whole=(do let v <- whole;standAt e.pos;holding [v] (truthy v)):=by intro _;rfl):PT X e (tB t):=by intro BC s G H Q I hw;show isTrue_plain (thn (h BC s G H _ I hw) λv s1 ⟨x,H1,I1,r1,q1⟩=>?_) (he _);obtain⟨d,rfl,q⟩:=q1;cases r1;show cK #[H1,I1,q]
variable {tA tB':TT}{zx:AO}
def zvF (t u:TT):TT:=λG H Q=>t G H λc H1=>if c=true then u G H1 Q else Q false H1
def tOr (t u:TT):TT:=λG H Q=>t G H λc H1=>if c=true then Q true H1 else u G H1 Q
def tNot (t:TT):TT:=λG H Q=>t G H λc H1=>Q (!c) H1
def zpM (q:PT X a tA):PW X (.BoolOp .And [a] pos) tA:=by
 intro B BC s G H Q I h;show isTrue_and (thn (q BC s G H Q I h) λc F e=>?_)
 cases c with
 | true=>show isTrue_and_nil e
 | false=>show e
def zst (q:PT X a tA):PW X (.BoolOp .Or [a] pos) tA:=by
 intro B BC s G H Q I h;show isTrue_or (thn (q BC s G H Q I h) λc F e=>?_)
 cases c with
 | false=>show isTrue_or_nil e
 | true=>show e
def zss (B:PT X a tA)(F:PW X (.BoolOp .And (b::zx) pos) tB'):PW X (.BoolOp .And (a::b::zx) pos) (zvF tA tB'):=by
 intro J BC s G H Q I h;show isTrue_and (thn (B BC s G H _ I h)  ?_);rintro c O ⟨H1,I1,q⟩
 cases c with
 | true=>show F J BC O G H1 Q I1 q
 | false=>show#[H1,I1,q]
def zvq (B:PT X a tA)(F:PW X (.BoolOp .Or (b::zx) pos) tB'):PW X (.BoolOp .Or (a::b::zx) pos) (tOr tA tB'):=by
 intro J BC s G H Q I h;show isTrue_or (thn (B BC s G H _ I h)  ?_);rintro c O ⟨H1,I1,q⟩
 cases c with
 | true=>show#[H1,I1,q]
 | false=>show F J BC O G H1 Q I1 q
def zsq (q:PT X a tA):PT X (.UnaryOp .Not a pos) (tNot tA):=by intro BC s G H Q I h;show isTrue_not (q BC s G H (λc H1=>Q (!c) H1) I h)
def zs2 (ta tb:TE):TE:=λG H Q=>ta G H λx H1=>∃c,x = .bl c/\if c=true then tb G H1 Q else Q (.bl false) H1
def zs9 (ta:TE):TE:=λG H Q=>ta G H λx H1=>∃c,x = .bl c/\Q (.bl (!c)) H1
def zsa{op}(h:PE X a t):PE X (.BoolOp op [a] pos) t:=λBC s G H Q I q=>BoolOp_one (h BC s G H Q I q)
def zr5 (B:PE X a ta)(F:PE X (.BoolOp .And (b::zx) pos) tb):PE X (.BoolOp .And (a::b::zx) pos) (zs2 ta tb):=by
 intro BC s G H Q I h;show BoolOp_and (thn (B BC s G H _ I h)  ?_);rintro v J ⟨x,H1,I1,O,q⟩;obtain⟨c,rfl,q⟩:=q;cases O;show cK ?_
 cases c with
 | true=>show F BC J G H1 Q I1 q
 | false=>show#[.bl false,H1,I1,BB,q]
def zr9 (B:PE X a ta):PE X (.UnaryOp .Not a pos) (zs9 ta):=by intro BC s G H Q I h;show UnaryOp_ (thn (B BC s G H _ I h)  ?_);rintro v J ⟨x,H1,I1,F,q⟩;obtain⟨c,rfl,q⟩:=q;cases F;show not_of (cK #[.bl (!c),H1,I1,BB,q])
def tIf (t:TT)(ta tb:TE):TE:=λG H Q=>t G H λc H1=>if c=true then ta G H1 Q else tb G H1 Q
def zl8(F:PT X c tA)(J:PE X a ta)(O:PE X b tb):PE X (.IfExp c a b pos) (tIf tA ta tb):=by
 intro BC s G H Q I h;show wpAny_IfExp (thn (F BC s G H _ I h)  ?_);rintro d q ⟨H1,I1,B⟩
 cases d with
 | true=>show J BC q G H1 Q I1 B
 | false=>show O BC q G H1 Q I1 B
end
def SqL (K:AH)(H:Hp)(a:Addr)(xs:AT):Prop:=
 Rd H a (.lst xs)\/
  ∃ (o:Obj) (q:AK) (n:Nat),K.lookup a=some o/\o.cls = .type "list" /\ o.dict=none/\o.data = .seq q n/\q.size<=sizeLine/\zR xs q.toList
def SqT (K:AH)(H:Hp)(a:Addr)(xs:AT):Prop:=
 Rd H a (.tup xs)\/
  ∃ (o:Obj) (q:AK) (n:Nat),K.lookup a=some o/\o.cls = .type "tuple" /\ o.data = .seq q n/\q.size<=sizeLine/\zR xs q.toList
def absV:Value->Option V
 | .none=>some .non
 | .bool b=>some (.bl b)
 | .int i _=>some (.int i)
 | .str x _=>some (.str x)
 | .bytes b _=>some (.byt b)
 | .float b _=>some (.flt b)
 | .ref a=>some (.ref a)
 | .type n=>some (.ty n)
 | _=>none
def yo.abs(r:yo x u):absV u=some x:=by
 cases x with
 | non=>cases r;rfl
 | bl _=>cases r;rfl
 | int _=>obtain⟨t,rfl⟩:=r;rfl
 | str _=>obtain⟨t,rfl⟩:=r;rfl
 | byt _=>obtain⟨t,rfl⟩:=r;rfl
 | flt _=>obtain⟨t,rfl⟩:=r;rfl
 | ref _=>cases r;rfl
 | ty _=>cases r;rfl
def yo.inj(r:yo x u)(q:yo y u):x=y:=b8 (r.abs.symm.trans q.abs)
theorem zR.inj:∀ {xs ys:AT} {us:AN},zR xs us->zR ys us->xs=ys
 | _,_,_,.nil,.nil=>rfl
 | _,_,_,.cons r t,.cons q t'=>by rw[r.inj q,zR.inj t t']
section
variable {X:Cx}{BC:AB}{G:St}{H:Hp}{s:AZ}{a:Addr}{xs ys:AT}
def SqL.of {K:AH}(h:H a=some (.lst xs)):SqL K H a xs:=.inl (.inl h)
def SqT.of {K:AH}(h:H a=some (.tup xs)):SqT K H a xs:=.inl (.inl h)
def Inv.list (I:Inv X BC G H s)(h:SqL X.K H a xs):∃q:AN,zR xs q/\PlainL s.heap a q.toArray/\xs.length<=sizeLine:=by
 rcases h with h | ⟨o,q,n,hk,hc,hd,hs,hz,r⟩;obtain⟨z,q,n,r,e⟩:=h.ok I.hok;show#[q,r,#[_,n,e,BB,BB,BB],z];show#[q.toList,r,#[o,n,I.kIn a o hk,hc,hd,by simpa using hs],?_];have e:=r.length;grind
def Inv.tuple (I:Inv X BC G H s)(h:SqT X.K H a xs):∃q:AN,zR xs q/\IsTup s.heap a q.toArray/\xs.length<=sizeLine:=by
 rcases h with h | ⟨o,q,n,hk,hc,hs,hz,r⟩;obtain⟨z,q,r,p⟩:=h.ok I.hok;show#[q,r,p.tup,z];show#[q.toList,r,#[o,I.kIn a o hk,hc,n,by simpa using hs],?_];have e:=r.length;grind
def Inv.list_inj (I:Inv X BC G H s)(h:SqL X.K H a xs)(h':SqL X.K H a ys):xs=ys:=by
 obtain⟨q,r,⟨o,n,e,_,_,d⟩,_⟩:=I.list h;obtain⟨its',F,⟨o',O,B,_,_,d'⟩,_⟩:=I.list h';rw[e] at B;cases B;rw[d] at d';injection d' with J _;have:q=its':=by simpa using congrArg Array.toList J
 subst this;show r.inj F
def Inv.tuple_inj (I:Inv X BC G H s)(h:SqT X.K H a xs)(h':SqT X.K H a ys):xs=ys:=by
 obtain⟨q,r,⟨o,e,_,n,d⟩,_⟩:=I.tuple h;obtain⟨its',F,⟨o',B,_,O,d'⟩,_⟩:=I.tuple h';rw[e] at B;cases B;rw[d] at d';injection d' with J _;have:q=its':=by simpa using congrArg Array.toList J
 subst this;show r.inj F
end
abbrev Cx.wish (X:Cx)(E:AA):Cx:={ X with xe:=E }
abbrev Cx.nox (X:Cx):Cx:=X.wish λ_ _=>False
def Cx.Ok.wish {X:Cx}(q:X.Ok)(E:AA):(X.wish E).Ok:=
 #[q.mod,q.kind,q.glob,q.blt,q.above,q.inj,q.has,q.cab,q.hd,q.frames,q.stk,q.exf,q.bs,q.bsz,q.noex,q.exfs,q.funs,q.frf]
def Cx.Ok.unwish{X:Cx}(q:(X.wish E).Ok):X.Ok:=
 #[q.mod,q.kind,q.glob,q.blt,q.above,q.inj,q.has,q.cab,q.hd,q.frames,q.stk,q.exf,q.bs,q.bsz,q.noex,q.exfs,q.funs,q.frf]
section
variable {X:Cx}{BC:AB}{G:St}{H:Hp}{s:AZ}{E:AA}
def Inv.wish (I:Inv X BC G H s)(E:AA):Inv (X.wish E) BC G H s:=#[I.ok.wish E,I.os,I.bare,I.base,I.loc,I.cell,I.free,I.freeC,I.pin,I.hok,I.len]
def Inv.unwish (I:Inv (X.wish E) BC G H s):Inv X BC G H s:=#[I.ok.unwish,I.os,I.bare,I.base,I.loc,I.cell,I.free,I.freeC,I.pin,I.hok,I.len]
def SP.unwish(h:SP (X.wish E) BC BH f s'):SP X BC BH f s':=by
 cases f with
 | next=>obtain⟨B,H',I,q⟩:=h;show#[B,H',I.unwish,q]
 | brk=>obtain⟨B,H',I,q⟩:=h;show#[B,H',I.unwish,q]
 | cont=>obtain⟨B,H',I,q⟩:=h;show#[B,H',I.unwish,q]
 | ret u=>obtain⟨v,B,H',I,r,q⟩:=h;show#[v,B,H',I.unwish,r,q]
def PSs.nox{st:List Stmt}(h:PSs X.nox st t):PSs X st t:=λBC s G H BH I B=>
 bC (h BC s G H BH (I.wish _) B) (λ_ _ q=>q.unwish) λ_ _ z=>False.elim z
end
section
variable {X:Cx}{st:Stmt}{zx:List Stmt}{t u:TS}{e:Expr}{te:TE}{pos:Pos}
def zqu:TS:=λBH G H=>BH.nx G H
def zqw (t u:TS):TS:=λBH G H=>t { BH with nx:=u BH } G H
def zj8:PSs X [] zqu:=λ_ _ G H _ I h=>wpAny_execs_nil #[G,H,I,h]
def zaV (h1:PS X st t)(h2:PSs X zx u):PSs X (st::zx) (zqw t u):=by
 intro BC s G H BH I h;show wpAny_execs_cons (thn (h1 BC s G H { BH with nx:=u BH } I h) λf F q=>?_)
 cases f with
 | next=>
  obtain⟨B,H',I',q⟩:=q;show h2 BC F B H' BH I' q
 | ret v=>show q
 | brk=>show q
 | cont=>show q
def zen (h1:PS X st t):PSs X [st] t:=by
 intro BC s G H BH I h;show wpAny_execs_cons (thn (h1 BC s G H BH I h) λf B q=>?_)
 cases f with
 | next=>show wpAny_execs_nil q
 | ret v=>show q
 | brk=>show q
 | cont=>show q
def Inv.quiet{BC:AB}{G:St}{H:Hp}(I:Inv X BC G H s):interactive X.env=false:=by simp[interactive,I.ok.kind]
def zqs (te:TE):TS:=λBH G H=>te G H λ_ H1=>BH.nx G H1
def zpG (q:PE X e te)(hs:swapsWith e none pos.line X.env=pure false:=by rfl):PS X (.Expr e pos) (zqs te):=by intro BC s G H BH I h;show wpAny_Expr_any (thn (q BC s G H _ I h) <| by rintro v F ⟨x,H1,I1,J,B⟩;show#[G,H1,I1,B]) I.quiet hs
def ztb (te:TE):TS:=λBH G H=>te G H BH.rt
def znu (q:PE X e te):PS X (.Return (some e) pos) (ztb te):=by intro BC s G H BH I h;show wpAny_Return_some (thn (q BC s G H _ I h) <| by rintro v J ⟨x,H1,I1,B,F⟩;show#[x,G,H1,I1,B,F])
def zvI (c:TT)(t u:TS):TS:=λBH G H=>c G H λb H1=>if b=true then t BH G H1 else u BH G H1
def zsn(F:PT X c tc)(J:PSs X a t)(O:PSs X b u):PS X (.If c a b pos) (zvI tc t u):=by
 intro BC s G H BH I h;show wpAny_If (thn (F BC s G H _ I h)  ?_);rintro d q ⟨H1,I1,B⟩
 cases d with
 | true=>show J BC q G H1 BH I1 B
 | false=>show O BC q G H1 BH I1 B
end
abbrev TG:=V->St->Hp->(St->Hp->Prop)->Prop
abbrev TGs:=AT->St->Hp->(St->Hp->Prop)->Prop
def PG (X:Cx)(q:Expr)(t:TG):Prop:=
 ∀ (BC:AB) (s:AZ) (G:St) (H:Hp) (v:V) (u:Value) (Q:St->Hp->Prop),Inv X BC G H s->yo v u->t v G H Q->
  Af X (assign q X.env u) (λ_ s'=>∃ B H',Inv X BC B H' s'/\Q B H') X.xe s
def PGs (X:Cx)(ts:AO)(t:TGs):Prop:=
 ∀ (BC:AB) (s:AZ) (G:St) (H:Hp) (vs:AT) (us:AN) (Q:St->Hp->Prop),Inv X BC G H s->zR vs us->t vs G H Q->
  Af X (assignInOrder ((assignEach ts X.env).map (·.2)) us) (λ_ s'=>∃ q H',Inv X BC q H' s'/\Q q H') X.xe s
abbrev zt3:=V->V->V->Hp->(Hp->Prop)->Prop
def PSet (X:Cx)(t:zt3):Prop:=
 ∀ (BC:AB) (s:AZ) (G:St) (H:Hp) (o i v:V) (q B u:Value) (Q:Hp->Prop),Inv X BC G H s->yo o q->yo i B->yo v u->t o i v H Q->
  Af X (setItem q B u) (λ_ s'=>∃H',Inv X BC G H' s'/\Q H') X.xe s
section
variable {X:Cx}{pos:Pos}
def zbM (i:Nat):TG:=λv G H Q=>Q (G.set i (some v)) H
def zpx(q:X.N.Nodup)(hi:X.N[i]?=some x)(B:Loc X.env.scope x)(F:X.fn x=true\/X.env.scope.names.lookup x=some .local:=by fail"l"):PG X (.Name x pos) (zbM i):=by intro BC s G H v u Q I r h;show wpAny_assign_Name (zb2 I q hi B r (λs' I'=>#[_,H,I',h]) F)
def gNil:TGs:=λvs G H Q=>vs=[]/\Q G H
def zrp (t:TG)(u:TGs):TGs:=λvs G H Q=>∃v r,vs=v::r/\t v G H λq H'=>u r q H' Q
def zpy:PGs X [] gNil:=by intro BC s G H vs us Q I r h;obtain⟨e,h⟩:=h;subst e;cases r;show assignInOrder_nil #[G,H,I,h]
def zma(h1:PG X e t)(h2:PGs X es u)(hs:(assignEach (e::es) X.env).map (·.2)=assign e X.env::(assignEach es X.env).map (·.2):=by rfl):PGs X (e::es) (zrp t u):=by
 intro BC s G H vs us Q I r h;obtain⟨v,U,B,h⟩:=h;subst B
 cases r with
 | cons r F=>
  rw[hs];show fO (thn (h1 BC s G H _ _ _ I r h)  ?_);rintro _ J ⟨q,H1,I1,O⟩;show h2 BC J q H1 _ _ Q I1 F O
def zuB (K:AH)(n:Nat)(t:TGs):TG:=λv G H Q=>∃a xs,v = .ref a/\SqT K H a xs/\xs.length=n/\t xs G H Q
def zsj {es:AO}{k:Nat}{t:TGs}{n:Nat}(J:X.calm=true)(h:PGs X es t)
  (hn:(assignEach es X.env).length=n:=by rfl) (q:(assignEach es X.env).findIdx? (·.1)=none:=by rfl):PG X (.Tuple es k pos) (zuB X.K n t):=by
 intro BC s G H v u Q I r B;obtain⟨a,xs,O,U,Y,B⟩:=B;subst O;cases r;obtain⟨Z,F,ht,hz⟩:=I.tuple U;show assign_Tuple_tuple (I.ok.hd J) ht (by simp[hn,<- Y,F.length]) q λh' hx=>?_;have I1:Inv X BC G H { s with heap:=h' }:=I.kept (t':=s.toks) λb o e=>hx b o (aN (aw e)) e;show h BC _ G H xs _ Q I1 (by simpa using F) B
def gSub (to ti:TE)(t:zt3):TG:=λv G H Q=>to G H λo H1=>ti G H1 λi H2=>t o i v H2 λH3=>Q G H3
def zsi(ho:PE X o to)(hi:PE X i ti)(hs:PSet X t)(ha:∀v,assign (.Subscript o i pos) X.env v=(do
   let ov <- holding [v] (eval o X.env)
   let iv <- holding [v,ov] (eval i X.env)
   standAt pos
   holding [v,ov,iv] (setItem ov iv v)
   release [v,ov,iv] []):=by intro _;rfl):PG X (.Subscript o i pos) (gSub to ti t):=by
 intro BC s G H v u Q I r h;rw[ha];show aa (bS (thn (ho BC s G H _ I h)  ?_));rintro ov s1 ⟨x,H1,I1,r1,q1⟩;show aa (bS (thn (hi BC s1 G H1 _ I1 q1)  ?_));rintro iv s2 ⟨y,H2,I2,r2,q2⟩;show aa (dE (aa (bS (thn (hs BC s2 G H2 x y v ov iv u _ I2 r1 r2 r q2)  ?_))));rintro _ s3 ⟨H3,I3,q3⟩;show wpAny_release #[G,H3,I3,q3]
def zic (te:TE)(g:TG):TS:=λBH G H=>te G H λx H1=>g x G H1 BH.nx
def zsl(B:PE X e te)(F:PG X tg g)(hs:swapsWithSole [tg] e pos.line X.env=pure false:=by rfl)(J:swappedStores [tg] e X.env=pure none:=by rfl)(h1:(assignEach [tg] X.env).map (·.2)=[assign tg X.env]:=by rfl):PS X (.Assign [tg] e pos) (zic te g):=by
 intro BC s G H BH I h;show wpAny_Assign_stores (thn (B BC s G H _ I h) λv O ⟨x,H1,I1,U,Y⟩=>?_) hs J;rw[h1];show thn (F BC O G H1 x v _ I1 U Y) λ_ Z q=>q
def zsp(q:X.N.Nodup)(hi:X.N[i]?=some x)(B:Loc X.env.scope x)(F:PE X e te)(hs:swapsWith e (some (.Name x pos')) pos.line X.env=pure false:=by rfl)(J:X.fn x=true\/X.env.scope.names.lookup x=some .local:=by fail"l") :
  PS X (.Assign [.Name x pos'] e pos) (zic te (zbM i)):=by
 intro BC s G H BH I h;show wpAny_Assign_Name (thn (F BC s G H _ I h) λv Y ⟨y,H1,I1,O,U⟩=>?_) hs;show zb2 I1 q hi B O (λZ I2=>#[_,H1,I2,U]) J
def tPar (i j:Nat)(ta:TA):TS:=λBH G H=>ta G H λvs H1=>∃v w,vs=[v,w]/\BH.nx ((G.set i (some v)).set j (some w)) H1
def zso{kt k2 pt2}(hc:X.calm=true)(hN:X.N.Nodup)(hi:X.N[i]?=some x)(hj:X.N[j]?=some y)(hij:i≠j)(hx:X.env.scope.names.lookup x=some .local)(hy:X.env.scope.names.lookup y=some .local)(ha:PA X [a,b] ta)(hw:swappedStores [.Tuple [.Name x px,.Name y py] kt pt] (.Tuple [a,b] k2 pt2) X.env=pure (some [x,y]))(hs:swapsWithSole [.Tuple [.Name x px,.Name y py] kt pt] (.Tuple [a,b] k2 pt2) pos.line X.env=pure false:=by rfl) :
  PS X (.Assign [.Tuple [.Name x px,.Name y py] kt pt] (.Tuple [a,b] k2 pt2) pos) (tPar i j ta):=by
 intro BC s G H BH I h;rw[exec_Assign_arm];show aa (dE ?_);rw[hs];show aa (af ?_);rw[if_neg (by ext)];show aa (Tuple_ (thn (ha _ BC s G H _ I h)  ?_));rintro us s1 ⟨vs,H1,I1,r1,q1⟩;obtain⟨v,w,e1,q1⟩:=q1;subst e1
 obtain⟨u1,u2,rfl,rv,rw'⟩:∃u1 u2,us=[u1,u2]/\yo v u1/\yo w u2:=by
  cases r1 with
  | cons p q=>
   cases q with
   | cons p' q'=>
    cases q';show#[_,_,BB,p,p']
 show bn ?_ (by change 2<=sizeLine;decide);have I2:Inv X BC G H1 { s1 with heap:=s1.heap.push { cls:=.type "tuple",data:=.seq [u1,u2].toArray } }:=I1.kept (t':=s1.toks) λb o e=>ae _ e;rw[hw];show aa (af ?_);change Af X (do rule "assign.swapped-stores";let items <- unpackItems (.ref s1.heap.objs.size) 2 none;assignInOrder [λv=>bindName X.env y v,λv=>bindName X.env x v] items.reverse;pure Flow.next) _ _ _;show aa (cZ (aa (unpackItems_tuple (items:=#v[u1,u2]) (I.ok.hd hc) (IsTup.new s1.heap _) λh' hx'=>?_)));have I3:=I2.kept (h':=h') (t':=s1.toks) λb o e=>hx' b o (aN (aw e)) e;change wpAny _ _ (assignInOrder [λv=>bindName X.env y v,λv=>bindName X.env x v] [u2,u1] >>= λ_=>pure Flow.next) _ _ _;show aa (fO (wpAny_bindName (zb2 I3 hN hj (.inl hy) rw' (λs2 I4=>?_) (.inr hy))));show fO (wpAny_bindName (zb2 I4 hN hi (.inl hx) rv (λs3 I5=>assignInOrder_nil (af ?_)) (.inr hx)));rw[List.set_comm _ _ (Ne.symm hij)] at I5;show#[_,H1,I5,q1]
end
structure It where
 go:Nat->Hp->Prop
 yld:Nat->Hp->V->Hp->Prop
 stop:Nat->Hp->Prop
def zfF (X:Cx)(BC:AB)(H:Hp)(b:Addr):Prop:=
 H b=none/\b≠X.env.locals/\b∉X.fs/\(b∈X.ex\/X.s₀.heap.objs.size<=b)/\(∀x c,X.env.cells.lookup x=some c->c≠b)/\∀p∈X.pn++BC,p.1≠b
def Inv.fpOk {X:Cx}{BC:AB}{G:St}{H H':Hp}{s:AZ}{b:Addr}(I:Inv X BC G H s)(B:s.heap.objs.size<=b)(hn:H' b=none):zfF X BC H' b:=by
 show#[hn,dy (aZ I.lt B),I.nofs B,.inr (aq I.sz B),λx c e z=>?_,λp F z=>?_];obtain⟨v,q⟩:=I.cell x c e;show absurd (aZ q.lt (by rw[z];show B)) (cV _);show absurd (aZ (aw (I.pin p F).1) (by rw[z];show B)) (cV _)
structure Turn (P:Aa)(w:Ab)(K:AH)(tg:Expr)(J:It)(fp:AY)(it:Addr)(tn:Nat->Heap->Prop):Prop where
 mem:it∈fp
 obj:∀i h,tn i h->∀b∈fp,∃o,h.get? b=some o/\∀v,o.data≠.cell v
 keep:∀i h h',tn i h->(∀b∈fp,∀o,h.get? b=some o->h'.get? b=some o)->tn i h'
 item:∀ (X:Cx),X.prog=P->X.w=w->X.K=K->X.calm=true->∀ (i:Nat) (BC:AB) (s:AZ) (G:St) (H:Hp) (E:AA),Inv X BC G H s->(∀b∈fp,zfF X BC H b)->tn i s.heap->J.go i H->
  wpAny (model P w) X.A (pyNext (.ref it)) (λr s1=>∃u,r=some u/\
   wpAny (model P w) X.A (letOwnedTupleGo tg (.ref it) u) (λ_ s2=>∃x H',Inv X BC G H' s2/\yo x u/\J.yld i H x H'/\tn (i+1) s2.heap/\∀b∈fp,H' b=none) E s1) E s
 done:∀ (X:Cx),X.prog=P->X.w=w->X.K=K->X.calm=true->∀ (i:Nat) (BC:AB) (s:AZ) (G:St) (H:Hp) (E:AA),Inv X BC G H s->(∀b∈fp,zfF X BC H b)->tn i s.heap->J.stop i H->
  wpAny (model P w) X.A (pyNext (.ref it)) (λr s1=>r=none/\Inv X BC G H s1) E s
 self:∀ (A:Ae) (i:Nat) (s:AZ) (Q:AA) (E:AA),tn i s.heap->Q (.ref it) s->wpAny (model P w) A (pyIter (.ref it)) Q E s
abbrev TI:=St->Hp->(It->Hp->Prop)->Prop
def PIE (X:Cx)(BC:AB)(G:St)(tg:Expr)(R:It->Hp->Prop)(q:Value)(B:AZ):Prop:=
 ∃ (F:Addr) (I:AY) (O:Nat->Heap->Prop) (J:It) (H':Hp),q = .ref F/\Inv X BC G H' B/\Turn X.prog X.w X.K tg J I F O/\O 0 B.heap/\(∀b∈I,zfF X BC H' b)/\R J H'
def PI (X:Cx)(tg iter:Expr)(wi:TI):Prop:=
 ∀ (BC:AB) (s:AZ) (G:St) (H:Hp) (R:It->Hp->Prop),Inv X BC G H s->wi G H R->
  Af X (eval iter X.env) (λv q=>Af X (pyIter v) (PIE X BC G tg R) X.xe q) X.xe s
def zox(F:s.heap.get? B=some o)(I:o.cls = .type n)(J:o.data = .fields vs)(hn:["enumerate","zip","dict_itemiterator","dict_reverseitemiterator","odict_iterator","itertools.zip_longest","itertools.pairwise"].contains n=false)(q:Q () s):wpAny M A (letOwnedTupleGo tg (.ref B) u) Q E s:=by
 unfold letOwnedTupleGo
 cases tg <;> first
  | show af q
  | (cases u <;> first
    | show af q
    | (show aa (wpAny_load F ?_)
       rw[I,J];change wpAny M A (if (["enumerate","zip","dict_itemiterator","dict_reverseitemiterator","odict_iterator","itertools.zip_longest","itertools.pairwise"].contains n&&vs[0]?==some (rawInt _))=true then _ else _) Q E s;rw[if_neg (by lia)];show af q))
def Itl (K:AH)(a:Addr):It:=
 #[λi H=>∃xs x,SqL K H a xs/\xs[i]?=some x,λi H x H'=>H'=H/\∀xs,SqL K H a xs->xs[i]?=some x,λi H=>∃xs,SqL K H a xs/\xs.length<=i]
def Itt (K:AH)(a:Addr):It:=
 #[λi H=>∃xs x,SqT K H a xs/\xs[i]?=some x,λi H x H'=>H'=H/\∀xs,SqT K H a xs->xs[i]?=some x,λi H=>∃xs,SqT K H a xs/\xs.length<=i]
def Itr (lo:Int)(n:Nat):It:=#[λi _=>i<n,λi H x H'=>H'=H/\x = .int (lo+i),λi _=>n<=i]
def zkI{P:Aa}{w:Ab}{K:AH}(a q:Addr):Turn P w K tg (Itl K a) [q] q (λi h=>h.IsListIter q a i) where
 mem:=by simp
 obj:=λi h st b B=>by
  have e:b=q:=by simpa using B
  subst e;obtain⟨o,e,c,d⟩:=st;right
 keep:=λi h h' st k=>st.at λo e=>k q (by simp) o e
 item:=by intro X U Y Z hc i BC s G H E I J st hg;subst U Y Z;obtain⟨xs,x,O,hx⟩:=hg;obtain⟨ac,rv,p,hz⟩:=I.list O;obtain⟨u,hu,ru⟩:=rv.get hx;obtain⟨f0,f1,f2,f3,f4,f5⟩:=J q (by simp);show wpAny_pyNext_list_item st p.isList (x:=u) (by simpa using hu) λh' F sb=>?_;have I1:Inv X BC G H { s with heap:=h' }:=I.turned (t':=s.toks) (λb o B e=>(sb.2 b B).trans e) f0 f1 f3 f4 f5;obtain⟨o,e,c,d⟩:=id F;show#[u,BB,zox (s:={ s with heap:=h' }) e c d (by ext) #[x,H,I1,ru,#[BB,λys hy=>by rw[I.list_inj hy O];show hx],F,λb B=>(J b B).1]]
 done:=by intro X U Y Z hc i BC s G H E I J st hg;subst U Y Z;obtain⟨xs,O,hx⟩:=hg;obtain⟨ac,rv,p,hz⟩:=I.list O;obtain⟨f0,f1,f2,f3,f4,f5⟩:=J q (by simp);have hl:=rv.length;show wpAny_pyNext_list_end (I.ok.hd hc) st p.isList (by simp;lia) λh' eb=>#[BB,I.turned (t':=s.toks) (λb o B e=>eb b o B e) f0 f1 f3 f4 f5]
 self:=λ_ _ _ _ _ st h=>wpAny_pyIter_listiter st h
def zh6{P:Aa}{w:Ab}{K:AH}(a q:Addr):Turn P w K tg (Itt K a) [q] q (λi h=>h.IsTupleIter q a i) where
 mem:=by simp
 obj:=λi h st b B=>by
  have e:b=q:=by simpa using B
  subst e;obtain⟨o,e,c,d⟩:=st;right
 keep:=λi h h' st k=>st.at λo e=>k q (by simp) o e
 item:=by intro X Y Z hK hc i BC s G H E I O st hg;subst Y Z hK;obtain⟨xs,x,U,hx⟩:=hg;obtain⟨F,rv,p,hz⟩:=I.tuple U;obtain⟨u,hu,ru⟩:=rv.get hx;obtain⟨f0,f1,f2,f3,f4,f5⟩:=O q (by simp);show wpAny_pyNext_tuple_item st (show s.heap.IsTuple a F.toArray from p) (x:=u) (by simpa using hu) λh' J sb=>?_;have I1:Inv X BC G H { s with heap:=h' }:=I.turned (t':=s.toks) (λb o B e=>(sb.2 b B).trans e) f0 f1 f3 f4 f5;obtain⟨o,e,c,d⟩:=id J;show#[u,BB,zox (s:={ s with heap:=h' }) e c d (by ext) #[x,H,I1,ru,#[BB,λys hy=>by rw[I.tuple_inj hy U];show hx],J,λb B=>(O b B).1]]
 done:=by intro X Y Z hK hc i BC s G H E I O st hg;subst Y Z hK;obtain⟨xs,U,hx⟩:=hg;obtain⟨F,rv,p,hz⟩:=I.tuple U;obtain⟨f0,f1,f2,f3,f4,f5⟩:=O q (by simp);have hl:=rv.length;show wpAny_pyNext_tuple_end (I.ok.hd hc) st (show s.heap.IsTuple a F.toArray from p) (by simp;lia) λh' eb=>#[BB,I.turned (t':=s.toks) (λb o B e=>eb b o B e) f0 f1 f3 f4 f5]
 self:=λ_ _ _ _ _ st h=>wpAny_pyIter_tupleiter st h
def zh5{P:Aa}{w:Ab}{K:AH}(q:Addr)(lo:Int)(n:Nat):Turn P w K tg (Itr lo n) [q] q (λi h=>IsRangeIter h q (lo+(i:Nat) * 1) ((n:Int) - (i:Nat)) 1) where
 mem:=by simp
 obj:=λi h st b B=>by right
 keep:=λi h h' st k=>k q (by simp) _ st
 item:=by intro X O U Y Z i BC s G H E I J st hg;subst O U Y;obtain⟨f0,f1,f2,f3,f4,f5⟩:=J q (by simp);have W:=Walks.range (prog:=X.prog) (w:=X.w) (I.ok.hd Z) q lo 1 n;show W.item i s _ _ hg st λv h' tk hv F kk=>?_;obtain⟨t,rfl⟩:=hv;have I1:Inv X BC G H { s with heap:=h',toks:=tk }:=I.turned (λb o B e=>kk b o (by simpa using B) e) f0 f1 f3 f4 f5;show#[_,BB,zox (s:={ s with heap:=h',toks:=tk }) (n := "range_iterator") F BB BB (by ext) #[.int (lo+i),H,I1,#[t,?_],#[BB,BB],F,λb B=>(J b B).1]];rw[Int.mul_one]
 done:=by intro X O U Y Z i BC s G H E I J st hg;subst O U Y;obtain⟨f0,f1,f2,f3,f4,f5⟩:=J q (by simp);show wpAny_pyNext_range_end (I.ok.hd Z) st (by have:n<=i:=hg;lia) λh' eb=>#[BB,I.turned (t':=s.toks) (λb o B e=>eb b o B e) f0 f1 f3 f4 f5]
 self:=λ_ _ _ _ _ st h=>wpAny_pyIter_rangeiter st h
section
variable {X:Cx}{tg:Expr}
def zoz (K:AH)(tl:TE):TI:=λG H R=>tl G H λx H1=>∃a,x = .ref a/\(∃xs,SqL K H1 a xs)/\R (Itl K a) H1
def zuD (K:AH)(tl:TE):TI:=λG H R=>tl G H λx H1=>∃a,x = .ref a/\(∃xs,SqT K H1 a xs)/\R (Itt K a) H1
def zpA(F:PE X l tl):PI X tg l (zoz X.K tl):=by
 intro BC s G H R I h;show thn (F BC s G H _ I h)  ?_;rintro v B ⟨x,H1,I1,J,O⟩;obtain⟨a,e,⟨xs,U⟩,q⟩:=O;subst e;cases J;obtain⟨Y,rv,p,hz⟩:=I1.list U;show gb p.isList ?_;show#[B.heap.objs.size,[B.heap.objs.size],_,_,H1,BB,I1.kept (t':=B.toks) λb o e=>ae _ e,zkI a _,#[_,av _ BB,BB,BB],λb Z=>?_,q];have e:b=B.heap.objs.size:=by simpa using Z
 subst e;show I1.fpOk (ai _) (I1.hok.fresh (ai _))
def zsk(J:PE X l tl):PI X tg l (zuD X.K tl):=by
 intro BC s G H R I h;show thn (J BC s G H _ I h)  ?_;rintro v B ⟨x,H1,I1,O,U⟩;obtain⟨a,e,⟨xs,Y⟩,q⟩:=U;subst e;cases O;obtain⟨F,rv,p,hz⟩:=I1.tuple Y;show cW (show B.heap.IsTuple a F.toArray from p) ?_;show#[B.heap.objs.size,[B.heap.objs.size],_,_,H1,BB,I1.kept (t':=B.toks) λb o e=>ae _ e,zh6 a _,#[_,av _ BB,BB,BB],λb Z=>?_,q];have e:b=B.heap.objs.size:=by simpa using Z
 subst e;show I1.fpOk (ai _) (I1.hok.fresh (ai _))
def zmo{BC:AB}{G:St}{H:Hp}{s:AZ}{R:It->Hp->Prop}{E:AA}{lo hi:Int}{t u v:Tok}(I:Inv X BC G H s)(h1:-(2 ^ 62)<=lo)(h2:lo<2 ^ 62)(B:-(2 ^ 62)<=hi)(F:hi<2 ^ 62)(q:R (Itr lo (hi - lo).toNat) H):Af X (pyIter (.ref s.heap.objs.size)) (PIE X BC G tg R) E { s with heap:=s.heap.push { cls:=.type "range",data:=.fields #v[.int lo t,.int hi u,.int 1 v] },toks:=tk }:=by
 show wpAny_pyIter_range (IsRange.new ..) (small_one h1 h2 B F) ?_;have I1:Inv X BC G H { s with heap:=s.heap.push { cls:=.type "range",data:=.fields #v[.int lo t,.int hi u,.int 1 v] },toks:=tk }:=I.kept λb o e=>ae _ e
 show#[(s.heap.push { cls:=.type "range",data:=.fields #v[.int lo t,.int hi u,.int 1 v] }).objs.size,[(s.heap.push { cls:=.type "range",data:=.fields #v[.int lo t,.int hi u,.int 1 v] }).objs.size],_,_,H,BB,
  I1.kept (t':=tk) λb o e=>ae _ e,zh5 _ lo (hi - lo).toNat,?_,λb J=>?_,q]
 ·have O:lo+((0:Nat):Int) * 1=lo:=by simp
  have U:(((hi - lo).toNat:Nat):Int) - ((0:Nat):Int)=Builtin.Range.rangeSize lo hi 1:=by rw[rangeSize_one];split <;> lia
  change IsRangeIter _ _ (lo+((0:Nat):Int) * 1) ((((hi - lo).toNat:Nat):Int) - ((0:Nat):Int)) 1;rw[O,U];show av _ BB
 have e:b=(s.heap.push { cls:=.type "range",data:=.fields #v[.int lo t,.int hi u,.int 1 v] }).objs.size:=by simpa using J
 subst e;show I1.fpOk (ai _) (I1.hok.fresh (ai _))
def zrr (ta:TA):TI:=λG H R=>ta G H λvs H1=>∃j:Int,vs=[.int j]/\-(2 ^ 62)<=j/\j<2 ^ 62/\R (Itr 0 j.toNat) H1
def zj3(F:Gl X "range")(J:X.mg "range" = none)(O:PA X [a] ta)(hs:starEach [a] X.env=[(false,eval a X.env)]:=by rfl):PI X tg (.Call (.Name "range" p) [a] [] pos) (zrr ta):=by
 intro BC s G H R I h;show Call_ (zco I F J boot_range (b9 (thn (O pos BC s G H _ I h) λus s1 ⟨vs,H1,I1,U,B⟩=>?_) hs BB));obtain⟨j,e,B,Y,q⟩:=B;subst e
 cases U with
 | cons r Z=>
  cases Z;obtain⟨t,rfl⟩:=r;show call_range_1 (zmo I1 (by lia) (by lia) B Y (by simpa using q))
def zvH (wi:TI)(g:TG)(tb:TS):TS:=λBH G H=>wi G H λJ H1=>∃W:Nat->Nat->St->Hp->Prop,(∃m,W 0 m G H1)/\∀i m G H,W i m G H->
 (J.stop i H/\BH.nx G H)\/(J.go i H/\∃N:St->Hp->Prop,(∀ q H',N q H'->∃F,F<m/\W (i+1) F q H')/\∀x H',J.yld i H x H'->g x G H' λB H2=>tb { BH with nx:=N,ct:=N,bk:=BH.nx } B H2)
def zfk (q:AY)(h:Heap):AB:=q.filterMap λb=>(h.get? b).map λo=>(b,o)
def zbg(B:b∈q)(e:h.get? b=some o):(b,o)∈zfk q h:=dw.mpr #[b,B,by rw[e];rfl]
def zjP(F:p∈zfk B h):p.1∈B/\h.get? p.1=some p.2:=by
 obtain⟨b,I,e⟩:=dw.mp F
 cases q:h.get? b with
 | none=>rw[q] at e;cases e
 | some o=>
  grind
def Inv.pinned {BC:AB}{G:St}{H:Hp}{s:AZ}{q:AY}(I:Inv X BC G H s)(F:∀b∈q,zfF X BC H b)(J:∀b∈q,∃o,s.heap.get? b=some o/\∀v,o.data≠.cell v):Inv X (BC++zfk q s.heap) G H s:=
 I.pins_of λp O=>(ax.mp O).elim (λz=>I.pin p (aT _ z)) λz=>by
  obtain⟨B,e⟩:=zjP z;obtain⟨U,Y,Z,_⟩:=F p.1 B;obtain⟨o,e',d⟩:=J p.1 B;right
def Inv.unpinned{BC pl:AB}{G:St}{H:Hp}(I:Inv X (BC++pl) G H s):Inv X BC G H s:=I.pins_of λp q=>I.pin p (aT _ (bN _ q))
def zsm(hp:PassesOwn (model X.prog X.w) X.A X.env X.xe)(hc:X.calm=true)(hi:PI X tg iter wi)(hg:PG X tg g)(B:PSs X body tb)(hs:∀x,foldedSetIterable iter X.env x=pure x:=by intro _;rfl):PS X (.For tg iter body [] pos) (zvH wi g tb):=by
 intro BC s G H BH I h;show wpAny_For (thn (hi BC s G H _ I h) λv s1 h1=>thn h1 λa0 s2 h2=>?_) hs;obtain⟨it,fp,tn,J,H2,e,I2,T,an,f2,W,⟨m0,w0⟩,ad⟩:=h2;subst e;have F:∀ {H':Hp},(∀b∈fp,H' b=none)->∀b∈fp,zfF X BC H' b:=λhn b B=>#[hn b B,(f2 b B).2];show codeAny_forLoop_any (λn s'=>∃i O H',Inv X BC O H' s'/\tn i s'.heap/\(∀b∈fp,H' b=none)/\W i n O H') ?_ m0 #[0,G,H2,I2,an,λb B=>(f2 b B).1,w0];rintro n s3 ⟨i,U,H3,I3,ag,al,w3⟩;rcases ad i n U H3 w3 with ⟨stop,qn⟩ | ⟨go,N,hN,step⟩
 ·show ee hp (thn (T.done X BB BB BB hc i BC s3 U H3 X.xe I3 (F al) ag stop)  ?_);rintro r s4 ⟨hr,I4⟩;subst hr;show wpAny_execs_nil #[U,H3,I4,qn]
 ·show ee hp (thn (T.item X BB BB BB hc i BC s3 U H3 X.xe I3 (F al) ag go)  ?_);rintro r s4 ⟨u,hr,h4⟩;subst hr;show ee hp (thn h4  ?_);rintro _ s5 ⟨x,H5,I5,r5,y5,ac,ap⟩;have I5':=I5.pinned (F ap) (T.obj _ _ ac);show ee hp (thn (hg _ s5 U H5 x u _ I5' r5 (step x H5 y5))  ?_);rintro _ s6 ⟨as,H6,I6,q6⟩;show ee hp (thn (B _ s6 as H6 _ I6 q6) λf s7 Z=>?_);have Y:∀ {q:St} {H7:Hp},Inv X (BC++zfk fp s5.heap) q H7 s7->N q H7->∃m,m<n/\∃i O H',Inv X BC O H' s7/\tn i s7.heap/\(∀b∈fp,H' b=none)/\W i m O H':=λ{q H7} I7 n7=>by obtain⟨m',hm,w7⟩:=hN q H7 n7;show#[m',hm,i+1,q,H7,I7.unpinned,T.keep _ _ _ ac λb B o e=>(I7.pin (b,o) (aT _ (aT _ (zbg B e)))).1,λb B=>?_,w7];obtain⟨o,e,d⟩:=T.obj _ _ ac b B;show (I7.pin (b,o) (aT _ (aT _ (zbg B e)))).2.1
  cases f with
  | next=>obtain⟨q,H7,I7,n7⟩:=Z;show Y I7 n7
  | cont=>obtain⟨q,H7,I7,n7⟩:=Z;show Y I7 n7
  | brk=>obtain⟨q,H7,I7,Z⟩:=Z;show#[q,H7,I7.unpinned,Z]
  | ret v=>obtain⟨x7,q,H7,I7,r7,Z⟩:=Z;show#[x7,q,H7,I7.unpinned,r7,Z]
end
def zos {K:AH}{a:Addr}{xs:AT}{g:TG}{tb:TS}{BH:Ends}{G:St}{H:Hp}(Pv:Nat->St->Hp->Prop)(O:Pv 0 G H)(U:∀i G H,i<=xs.length->Pv i G H->SqT K H a xs)
  (hs:∀i x G H,xs[i]?=some x->Pv i G H->g x G H λB H2=>tb { BH with nx:=Pv (i+1),ct:=Pv (i+1),bk:=BH.nx } B H2) (Y:∀ G H,Pv xs.length G H->BH.nx G H) :
  ∃W:Nat->Nat->St->Hp->Prop,(∃m,W 0 m G H)/\∀i m G H,W i m G H->
   ((Itt K a).stop i H/\BH.nx G H)\/((Itt K a).go i H/\∃N:St->Hp->Prop,(∀ F H',N F H'->∃J,J<m/\W (i+1) J F H')/\∀x H',(Itt K a).yld i H x H'->g x G H' λB H2=>tb { BH with nx:=N,ct:=N,bk:=BH.nx } B H2):=by
 show#[λi m G H=>m=xs.length - i/\i<=xs.length/\Pv i G H,#[xs.length,by simp,aI _,O],?_];rintro i m G H ⟨rfl,hi,p⟩;have q:=U i G H hi p;by_cases I:i<xs.length;show .inr #[#[xs,xs[i],q,by simp[I]],Pv (i+1),λF H' Z=>#[xs.length - (i+1),by lia,BB,I,Z],λx H' y=>?_];obtain⟨e,y⟩:=y;subst e;show hs i x G _ (y xs q) p;have e:i=xs.length:=by lia
 subst e;show .inl #[#[xs,q,ai _],Y G H p]
abbrev R2:=V->V->Hp->VK->Prop
def OpR (X:Cx)(f:Value->Value->Sem Value)(r:R2):Prop:=
 ∀ (BC:AB) (s:AZ) (G:St) (H:Hp) (x y:V) (v u:Value) (Q:VK),Inv X BC G H s->yo x v->yo y u->r x y H Q->
  Af X (f v u) (EP X BC G Q) X.xe s
def UnR (X:Cx)(f:Value->Sem Value)(r:V->Hp->VK->Prop):Prop:=
 ∀ (BC:AB) (s:AZ) (G:St) (H:Hp) (x:V) (v:Value) (Q:VK),Inv X BC G H s->yo x v->r x H Q->
  Af X (f v) (EP X BC G Q) X.xe s
def zdJ (X:Cx)(f:Value)(r:AT->Hp->VK->Prop):Prop:=
 ∀ (BC:AB) (s:AZ) (G:St) (H:Hp) (xs:AT) (us:AN) (Q:VK),Inv X BC G H s->zR xs us->r xs H Q->
  Af X (call f us) (EP X BC G Q) X.xe s
def tOp (r:R2)(ta tb:TE):TE:=λG H Q=>ta G H λx H1=>tb G H1 λy H2=>r x y H2 Q
def tUn (r:V->Hp->VK->Prop)(ta:TE):TE:=λG H Q=>ta G H λx H1=>r x H1 Q
def rI (C:Int->Int->Prop)(g:Int->Int->V):R2:=λx y H Q=>∃i j,x = .int i/\y = .int j/\C i j/\Q (g i j) H
def rI0 (g:Int->Int->V):R2:=λx y H Q=>∃i j,x = .int i/\y = .int j/\Q (g i j) H
def rU (g:Int->V):V->Hp->VK->Prop:=λx H Q=>∃i,x = .int i/\Q (g i) H
section
variable {X:Cx}{a b c:Expr}{ta tb tc:TE}{pos:Pos}
def zt8(J:PE X a ta)(O:PE X b tb){BC:AB}{G:St}{H:Hp}{R:V->V->Hp->Prop}(I:Inv X BC G H s)(h:ta G H λx H1=>tb G H1 λy H2=>R x y H2){Q:AA}{f:Value->Value->Sem Value}(U:∀v u F x y H2,Inv X BC G H2 F->yo x v->yo y u->R x y H2->Af X (f v u) Q X.xe F) :
  Af X (eval a X.env) (λv q=>Af X (eval b X.env) (λu B=>Af X (f v u) Q X.xe B) X.xe q) X.xe s:=by
 show thn (J BC s G H _ I h)  ?_;rintro v Y ⟨x,H1,I1,Z,q1⟩;show thn (O BC Y G H1 _ I1 q1)  ?_;rintro u F ⟨y,H2,I2,r2,q2⟩;show U v u F x y H2 I2 Z r2 q2
def zvn(F:OpR X (binaryOp B) r)(J:PE X a ta)(O:PE X b tb):PE X (.BinOp a B b pos) (tOp r ta tb):=by intro BC s G H Q I h;show wpAny_BinOp (zt8 J O I h λv u U x y H2 I2 Y Z q=>F BC U G H2 x y v u Q I2 Y Z q)
def zsc(B:UnR X (unaryOp q) r)(F:PE X a ta):PE X (.UnaryOp q a pos) (tUn r ta):=by intro BC s G H Q I h;show UnaryOp_ (thn (F BC s G H _ I h) <| by rintro v J ⟨x,H1,I1,O,U⟩;show B BC J G H1 x v Q I1 O U)
def opI{C:Int->Int->Prop}{g:Int->Int->Int}(B:∀ (i j:Int) (t u:Tok) (s:AZ) (Q:AA) (E:AA),C i j->Q (.int (g i j) s.toks) { s with toks:=s.toks+1 }->Af X (f (.int i t) (.int j u)) Q E s) :
  OpR X f (rI C λi j=>.int (g i j)):=by
 intro BC s G H x y v u Q I F J h;obtain⟨i,j,rfl,rfl,O,q⟩:=h;obtain⟨t,rfl⟩:=F;obtain⟨t',rfl⟩:=J;show B i j t t' s _ _ O #[.int (g i j),H,I.tok _,#[_,BB],q]
def opI0{g:Int->Int->Int}(B:∀ (i j:Int) (t u:Tok) (s:AZ) (Q:AA) (E:AA),Q (.int (g i j) s.toks) { s with toks:=s.toks+1 }->Af X (f (.int i t) (.int j u)) Q E s) :
  OpR X f (rI0 λi j=>.int (g i j)):=by
 intro BC s G H x y v u Q I F J h;obtain⟨i,j,rfl,rfl,q⟩:=h;obtain⟨t,rfl⟩:=F;obtain⟨t',rfl⟩:=J;show B i j t t' s _ _ #[.int (g i j),H,I.tok _,#[_,BB],q]
def ztR{g:Int->Int->Bool}(B:∀ (i j:Int) (t u:Tok) (s:AZ) (Q:AA) (E:AA),Q (.bool (g i j)) s->Af X (f (.int i t) (.int j u)) Q E s) :
  OpR X f (rI0 λi j=>.bl (g i j)):=by
 intro BC s G H x y v u Q I F J h;obtain⟨i,j,rfl,rfl,q⟩:=h;obtain⟨t,rfl⟩:=F;obtain⟨t',rfl⟩:=J;show B i j t t' s _ _ #[.bl (g i j),H,I,BB,q]
def zqQ (i j:Int):Prop:=0<j/\j<1073741824
def CPow (i j:Int):Prop:=0<=j/\j<=1000000/\i.natAbs<2 ^ 64
def zmX (i j:Int):Prop:=(-(2 ^ 64)<i/\i<2 ^ 64)\/(-(2 ^ 64)<j/\j<2 ^ 64)
def zmX.ok {i j:Int}(h:zmX i j):IntMulOk i j:=by
 rcases h with ⟨h1,h2⟩ | ⟨h1,h2⟩;show .of_left (intBits_le_64 h1 h2);show .of_right (intBits_le_64 h1 h2)
def zrQ:OpR X (binaryOp .Add) (rI0 λi j=>.int (i+j)):=opI0 λ_ _ _ _ _ _ _ q=>add_int q
def zrX:OpR X (binaryOp .Sub) (rI0 λi j=>.int (i - j)):=opI0 λ_ _ _ _ _ _ _ q=>sub_int q
def zrU:OpR X (binaryOp .Mult) (rI zmX λi j=>.int (i * j)):=opI λ_ _ _ _ _ _ _ B q=>mul_int q B.ok
def zph:OpR X (binaryOp .FloorDiv) (rI zqQ λi j=>.int (i / j)):=opI λi j _ _ _ _ _ B q=>by have h1:(0:Int)<j:=B.1;have h2:j<1073741824:=B.2;show floordiv_int (by lia) (by rw[Int.fdiv_eq_ediv_of_nonneg i (by lia)];show q) (.inl (PyProof.noPylong_small (by lia)))
def zrT:OpR X (binaryOp .Mod) (rI (λ_ j=>0<j) λi j=>.int (i % j)):=opI λi j _ _ _ _ _ B q=>by have h1:(0:Int)<j:=B;show mod_int' (by lia) (by rw[Int.fmod_eq_emod_of_nonneg i (by lia)];show q)
def zrW:OpR X (binaryOp .Pow) (rI CPow λi j=>.int (i ^ j.toNat)):=opI λ_ _ _ _ _ _ _ B q=>pow_int_small B.1 B.2.1 B.2.2 q
def unI{g:Int->Int}(B:∀ (i:Int) (t:Tok) (s:AZ) (Q:AA) (E:AA),Q (.int (g i) s.toks) { s with toks:=s.toks+1 }->Af X (f (.int i t)) Q E s) :
  UnR X f (rU λi=>.int (g i)):=by
 intro BC s G H x v Q I F h;obtain⟨i,rfl,q⟩:=h;obtain⟨t,rfl⟩:=F;show B i t s _ _ #[.int (g i),H,I.tok _,#[_,BB],q]
def znT:UnR X (unaryOp .USub) (rU λi=>.int (-i)):=unI λ_ _ _ _ _ q=>neg_int q
end
def zvD:V->V->Bool
 | .non,.non=>true | .non,.int _=>true | .int _,.non=>true | .non,.bl _=>true | .bl _,.non=>true | .non,.str _=>true | .str _,.non=>true
 | .int _,.int _=>true | .bl _,.bl _=>true | .str _,.str _=>true | .byt _,.byt _=>true
 | .int _,.str _=>true | .str _,.int _=>true | .bl _,.str _=>true | .str _,.bl _=>true
 | _,_=>false
def rEq:R2:=λx y H Q=>zvD x y=true/\Q (.bl (decide (x=y))) H
def rNe:R2:=λx y H Q=>zvD x y=true/\Q (.bl (!decide (x=y))) H
def ziE {i j:Int}:decide (V.int i=V.int j)=(i==j):=by rw[cb];simp
def zm5:decide (V.bl i=V.bl j)=(i==j):=by rw[cb];simp
def ziF:decide (V.str i=V.str j)=(i==j):=by rw[cb];simp
def ziD:decide (V.byt i=V.byt j)=(i.toList==j.toList):=by
 rw[cb];right
section
variable {X:Cx}{a b c:Expr}{ta tb tc:TE}{pos:Pos}
def z6{BC:AB}{G:St}{H:Hp}{Q:VK}(I:Inv X BC G H s)(q:Q (.bl k) H)(e:k=B):EP X BC G Q (.bool B) s:=by subst e;show#[.bl k,H,I,BB,q]
def zvf:OpR X (compareOp .Eq) rEq:=by
 intro BC s G H x y v u Q I F B h;obtain⟨hs,q⟩:=h
 cases x with
 | non=>
  cases F
  cases y with
  | non=>cases B;show PySem.EqNone.eq_none_none (z6 I q (by simp))
  | bl j=>cases B;show PySem.EqNone.eq_none_bool (z6 I q (by simp))
  | int j=>obtain⟨t',rfl⟩:=B;show PySem.EqNone.eq_none_int (z6 I q (by simp))
  | str j=>obtain⟨t',rfl⟩:=B;show PySem.EqNone.eq_none_str (z6 I q (by simp))
  | _=>show absurd (show false=true from hs) az
 | bl i=>
  cases F
  cases y with
  | non=>cases B;show PySem.EqNone.eq_bool_none (z6 I q (by simp))
  | bl j=>cases B;show eq_bool (z6 I q zm5)
  | str j=>obtain⟨t',rfl⟩:=B;show PySem.EqMixed.eq_bool_str (z6 I q (by simp))
  | _=>show absurd (show false=true from hs) az
 | int i=>
  obtain⟨t,rfl⟩:=F
  cases y with
  | non=>cases B;show PySem.EqNone.eq_int_none (z6 I q (by simp))
  | int j=>obtain⟨t',rfl⟩:=B;show eq_int (z6 I q ziE)
  | str j=>obtain⟨t',rfl⟩:=B;show PySem.EqMixed.eq_int_str (z6 I q (by simp))
  | _=>show absurd (show false=true from hs) az
 | str i=>
  obtain⟨t,rfl⟩:=F
  cases y with
  | non=>cases B;show PySem.EqNone.eq_str_none (z6 I q (by simp))
  | bl j=>cases B;show PySem.EqMixed.eq_str_bool (z6 I q (by simp))
  | int j=>obtain⟨t',rfl⟩:=B;show PySem.EqMixed.eq_str_int (z6 I q (by simp))
  | str j=>obtain⟨t',rfl⟩:=B;show eq_str (z6 I q ziF)
  | _=>show absurd (show false=true from hs) az
 | byt i=>
  obtain⟨t,rfl⟩:=F
  cases y with
  | byt j=>obtain⟨t',rfl⟩:=B;show PySem.W.eq_bytes (z6 I q ziD)
  | _=>show absurd (show false=true from hs) az
 | _=>cases y <;> show absurd (show false=true from hs) az
def zvk:OpR X (compareOp .NotEq) rNe:=by
 intro BC s G H x y v u Q I F B h;obtain⟨hs,q⟩:=h
 cases x with
 | non=>
  cases F
  cases y with
  | non=>cases B;show PySem.EqNone.ne_none_none (z6 I q (by simp))
  | bl j=>cases B;show PySem.EqNone.ne_none_bool (z6 I q (by simp))
  | int j=>obtain⟨t',rfl⟩:=B;show PySem.EqNone.ne_none_int (z6 I q (by simp))
  | str j=>obtain⟨t',rfl⟩:=B;show PySem.EqNone.ne_none_str (z6 I q (by simp))
  | _=>show absurd (show false=true from hs) az
 | bl i=>
  cases F
  cases y with
  | non=>cases B;show PySem.EqNone.ne_bool_none (z6 I q (by simp))
  | bl j=>cases B;show ne_bool (z6 I q (congrArg not zm5))
  | str j=>obtain⟨t',rfl⟩:=B;show PySem.EqMixed.ne_bool_str (z6 I q (by simp))
  | _=>show absurd (show false=true from hs) az
 | int i=>
  obtain⟨t,rfl⟩:=F
  cases y with
  | non=>cases B;show PySem.EqNone.ne_int_none (z6 I q (by simp))
  | int j=>obtain⟨t',rfl⟩:=B;show ne_int (z6 I q (congrArg not ziE))
  | str j=>obtain⟨t',rfl⟩:=B;show PySem.EqMixed.ne_int_str (z6 I q (by simp))
  | _=>show absurd (show false=true from hs) az
 | str i=>
  obtain⟨t,rfl⟩:=F
  cases y with
  | non=>cases B;show PySem.EqNone.ne_str_none (z6 I q (by simp))
  | bl j=>cases B;show PySem.EqMixed.ne_str_bool (z6 I q (by simp))
  | int j=>obtain⟨t',rfl⟩:=B;show PySem.EqMixed.ne_str_int (z6 I q (by simp))
  | str j=>obtain⟨t',rfl⟩:=B;show ne_str (z6 I q (congrArg not ziF))
  | _=>show absurd (show false=true from hs) az
 | byt i=>
  obtain⟨t,rfl⟩:=F
  cases y with
  | byt j=>obtain⟨t',rfl⟩:=B;show PySem.W.ne_bytes (z6 I q (congrArg not ziD))
  | _=>show absurd (show false=true from hs) az
 | _=>cases y <;> show absurd (show false=true from hs) az
def zvj:OpR X (compareOp .Lt) (rI0 λi j=>.bl (decide (i<j))):=ztR λ_ _ _ _ _ _ _ q=>lt_int q
def zvi:OpR X (compareOp .LtE) (rI0 λi j=>.bl (decide (i<=j))):=ztR λ_ _ _ _ _ _ _ q=>le_int q
def zvh:OpR X (compareOp .Gt) (rI0 λi j=>.bl (decide (j<i))):=ztR λ_ _ _ _ _ _ _ q=>gt_int q
def zvg:OpR X (compareOp .GtE) (rI0 λi j=>.bl (decide (j<=i))):=ztR λ_ _ _ _ _ _ _ q=>ge_int q
def zp(b:Expr)(h:q≠.In:=by ext)(h2:q≠.NotIn:=by ext):behindInMarks q b=false:=by
 have B:(q==CmpOp.In)=false:=by cases q <;> first | rfl | show absurd BB h
 have F:(q==CmpOp.NotIn)=false:=by cases q <;> first | rfl | show absurd BB h2
 cases b <;> simp[behindInMarks,B,F]
def zpm(F:OpR X (compareOp B) r)(J:PE X a ta)(O:PE X b tb)(U:behindInMarks B b=false):PE X (.Compare a [B] [b] pos) (tOp r ta tb):=by intro BC s G H Q I h;show wpAny_Compare1 (zt8 J O I h λv u Y x y H2 I2 Z ry q=>F BC Y G H2 x y v u Q I2 Z ry q) U
def zqx (t:TE):TT:=λG H Q=>t G H λx H'=>∃k,x = .bl k/\Q k H'
def zpH(B:OpR X (compareOp q) r)(F:PE X a ta)(J:PE X b tb)(O:behindInMarks q b=false):PT X (.Compare a [q] [b] pos) (zqx (tOp r ta tb)):=by
 intro BC s G H Q I h
 show wpAny_isTrue_Compare1 (thn (F BC s G H _ I h) λv U ⟨x,H1,I1,Y,Z⟩=>thn (J BC U G H1 _ I1 Z) λu s2 ⟨y,H2,I2,r2,q2⟩=>
  thn (B BC s2 G H2 x y v u _ I2 Y r2 q2) λc s3 ⟨z,H3,I3,r3,k,e,q3⟩=>?_) O
 subst e;cases r3;show cK #[H3,I3,q3]
def zkx (r q:R2)(ta tb tc:TE):TE:=λG H Q=>ta G H λx H1=>tb G H1 λy H2=>r x y H2 λz H3=>∃k,z = .bl k/\
 (if k=true then tc G H3 λw' H4=>q y w' H4 Q else Q (.bl false) H3)
def zl6(Y:OpR X (compareOp B) r)(F:OpR X (compareOp q) J)(Z:PE X a ta)(hb:PE X b tb)(hc:PE X c tc)(hm:lastMarks [B,q] [b,c]=false:=by with_unfolding_all rfl):PE X (.Compare a [B,q] [b,c] pos) (zkx r J ta tb tc):=by
 intro BC s G H Q I h
 show Compare_chain (thn (Z BC s G H _ I h) λv s1 ⟨x,H1,I1,r1,q1⟩=>chain_link (thn (hb BC s1 G H1 _ I1 q1) λu s2 ⟨y,H2,I2,O,q2⟩=>
  thn (Y BC s2 G H2 x y v u _ I2 r1 O q2) λd s3 ⟨z,H3,I3,r3,k,e,U⟩=>?_)) hm
 subst e;cases r3;show cK ?_
 cases k with
 | false=>show ite_ff #[.bl false,H3,I3,BB,U]
 | true=>show ite_tt (chain_last (thn (hc BC s3 G H3 _ I3 U) <| by rintro w' s4 ⟨z',H4,I4,r4,q4⟩;show F BC s4 G H4 y z' u w' Q I4 O r4 q4))
def zg0:(sizeLine:Nat)<2 ^ 63:=by rw[ce];decide
def za7(r:zR [x] us):∃u,us=[u]/\yo x u:=by
 cases r with
 | cons q B=>cases B;show#[_,BB,q]
def zv7(r:zR [x,y] us):∃u w',us=[u,w']/\yo x u/\yo y w':=by
 cases r with
 | cons q B=>
  cases B with
  | cons F I=>cases I;show#[_,_,BB,q,F]
def zk4:zdJ X (.builtin "abs") (λxs H Q=>∃i,xs=[.int i]/\Q (.int (if i<0 then -i else i)) H):=by intro BC s G H xs us Q I r h;obtain⟨i,rfl,q⟩:=h;obtain⟨u,rfl,t,rfl⟩:=za7 r;show call_abs_int λu tk=>#[.int (if i<0 then -i else i),H,I.tok _,#[_,BB],q]
def ztz (K:AH)(x:V)(H:Hp)(n:Nat):Prop:=
 match x with
 | .str y=>y.length<=sizeLine/\n=y.length
 | .byt y=>y.size<=sizeLine/\n=y.size
 | .ref p=>(∃xs,SqL K H p xs/\n=xs.length)\/∃xs,SqT K H p xs/\n=xs.length
 | _=>False
def zk6:zdJ X (.builtin "len") (λxs H Q=>∃x n,xs=[x]/\ztz X.K x H n/\Q (.int n) H):=by
 intro BC s G H xs us Q I r h;obtain⟨x,n,rfl,e,q⟩:=h;obtain⟨u,rfl,rx⟩:=za7 r;have hl:=zg0;have hs:sizeLine=16777216:=ce
 cases x with
 | str y=>
  obtain⟨t,rfl⟩:=rx;obtain⟨hy,e'⟩:y.length<=sizeLine/\n=y.length:=e;subst e';show len_str (by lia) #[.int _,H,I.tok _,#[_,BB],q]
 | byt y=>
  obtain⟨t,rfl⟩:=rx;obtain⟨hy,e'⟩:y.size<=sizeLine/\n=y.size:=e;subst e';show PySem.W.len_bytes (by lia) #[.int _,H,I.tok _,#[_,BB],q]
 | ref p=>
  cases rx;have e':(∃xs,SqL X.K H p xs/\n=xs.length)\/∃xs,SqT X.K H p xs/\n=xs.length:=e;rcases e' with ⟨xs,hx,e'⟩ | ⟨xs,hx,e'⟩;subst e';obtain⟨its,r',pl,hz⟩:=I.list hx;have hlen:=r'.length;show Calls.call_len_list pl.isList (by simp only[aP];lia) #[.int xs.length,H,I.tok _,#[_,by simp only[aP];rw[hlen]],q];subst e';obtain⟨its,r',pl,hz⟩:=I.tuple hx;have hlen:=r'.length;show len_tuple pl (by simp only[aP];lia) #[.int xs.length,H,I.tok _,#[_,by simp only[aP];rw[hlen]],q]
 | _=>show (show False from e).elim
end
structure ObjM (h:Heap)(x dx C:Addr)(mA:AI):Prop where
 obj:h.get? x=some (PySem.W.instObj C dx)
 ns:h.Ns1 dx mA
 ne:dx≠x
def zjt {h:Heap}{dx:Addr}{mA:AI}(n:h.Ns1 dx mA):∃F,h.get? dx=some F/\∀name,PySem.W.lookIn name F=some (mA name):=by
 obtain⟨o,es,Z,I,J,O,_,U⟩:=n;show#[o,I,λname=>?_];have e:=U name;unfold nsFind findBy at e;rw[<- Array.find?_toList] at e;unfold PySem.W.lookIn;rw[J];dsimp only;split;right
 ·rename_i q;rw[q] at e
  have a:es.toList.any (·.refKey)=false:=by rw[List.any_eq_false];intro y Y;obtain⟨z,t,B⟩:=O y (bO.mp Y);simp[DictEntry.refKey,B]
  grind
def ObjM.look(I:ObjM h x dx C mA):∃q,PySem.W.InstAt h x (PySem.W.instObj C dx) C (some q)/\∀name,PySem.W.lookIn name q=some (mA name):=
 let ⟨q,ho,hl⟩:=zjt I.ns
 #[q,#[I.obj,BB,BB,ho],hl]
section
variable {prog:Aa}{w:Ab}{A:Ae}{E:AA}{s:AZ}{K:AH}{x dx C f:Addr}{mA:AI}{name:Str}{v:Value}
def zou(X:K.In s.heap)(I:ObjM s.heap x dx C mA)(F:PySem.W.plainGet K C name=true)(O:PySem.W.hasDictIn K C=true)(U:PySem.W.findIn K (.ref C) name=some none)(Y:mA name=some v)(B:PySem.W.handedIn v=true)(h:Q v { s with toks:=s.toks+1 }) :
  Ag prog w A (getAttr (.ref x) name q) Q E s:=by
 obtain⟨od,J,Z⟩:=I.look;show PySem.W.get_value X J (fE F).1 (PySem.W.findObj_own O U BB (by rw[Z,Y])) B h
def zls(X:K.In s.heap)(I:ObjM s.heap x dx C mA)(q:PySem.W.plainGet K C name=true)(B:PySem.W.findIn K (.ref C) name=some (some (.ref f)))(F:PySem.W.isFn K (.ref f)=true)(O:mA name=none)(h:Q (.ref f,[.ref x]) s) :
  Ag prog w A (getMethod (.ref x) name pl) Q E s:=by
 obtain⟨U,J,Y⟩:=I.look;show PySem.W.method_fn X J (fE q).1 (fE q).2 B (beq_iff_eq.mp F) (by change (PySem.W.lookIn name U).map (·.isSome)=some false;rw[Y,O];rfl) h
def zqg(X:K.In s.heap)(I:ObjM s.heap x dx C mA)(hs:PySem.W.findIn K (.ref C) "__setattr__" = some (some (.builtin "object.__setattr__")))(Z:PySem.W.plainOver K C=true)(ht:PySem.W.takerIn K C name=some none)(hh:PySem.W.hasDictIn K C=true)(hw:PySem.Within mA ns)(hsz:ns.length<=sizeLine)(h:∀h',ObjM h' x dx C (λy=>if y=name then some v else mA y)->Heap.SameBut dx s.heap h'->Q () { s with heap:=h',toks:=s.toks+2 }) :
  Ag prog w A (setAttr (.ref x) name v) Q E s:=by
 obtain⟨od,J,hl⟩:=I.look;show PySem.W.set_plain X J hs (PySem.W.osa_open (s:={ s with toks:=s.toks+1 }) (r:=none) X J Z ht λb=>?_);obtain⟨cd,hc,F⟩:=PySem.W.any_some hh;have hx:s.heap.get? x=some #[.ref C,some dx,.plain,#v[]]:=I.obj;show aa (af (aa (aa (wpAny_loadPart hx (aa (PySem.W.Looks.here (s:={ s with toks:=s.toks+1 }) (PySem.W.looks_clsIn X hc) ?_))))));rw[F];show af (a:=some dx) (aa (af (aa ?_)));show wpAny_nsSet1 (s:={ s with toks:=s.toks+1 }) I.ns λh' q B=>?_;obtain⟨oD,ac,ad,O,U,Y⟩:=q.count (PySem.Within.cons name v hw);show aa (wpAny_lookBehind O (by rw[U];show pastItsLine_dict (aq Y (by right))) ?_);show af (h _ #[(B.2 _ (Ne.symm I.ne)).trans I.obj,q,I.ne] B)
def zlU(X:K.In s.heap)(F:PySem.W.makesIn K C=true)(hi:PySem.W.findIn K (.ref C) "__init__" = some (some (.ref f)))(I:PySem.W.typeIn K (.ref f)=some (.type "function"))(h:codeAny (model prog w) (A.under (.builtin "type.__call__" #[.ref C::vs,B])) (.call (.ref f) #[.ref (s.heap.objs.size+1)::vs,B]) (PySem.W.InitBack (s.heap.objs.size+1) R)
   { s with heap:=(s.heap.push PySem.W.emptyDict).push (PySem.W.instObj C s.heap.objs.size) }) :
  codeAny (model prog w) A (.call (.ref C) #[vs,B]) R s:=by
 obtain⟨J,g,d,t,O⟩:=s;show PySem.W.make_core (PySem.W.makes_of X F) (PySem.W.looks_findIn X hi) (λq=>PySem.W.bind_fn X q I) (.inl BB) h
end
def zbO (f:Str)(v:V):List (Str×V)->List (Str×V)
 | []=>[(f,v)]
 | (g,x)::r=>if g=f then (g,v)::r else (g,x)::zbO f v r
theorem zcr (f g:Str)(v:V):∀fs:List (Str×V),(zbO f v fs).lookup g=if g=f then some v else fs.lookup g
 | []=>by
  change List.lookup g [(f,v)]=_;grind
 | (k,x)::r=>by
  have q:=zcr f g v r;rw[show zbO f v ((k,x)::r)=(if k=f then (k,v)::r else (k,x)::zbO f v r) from rfl];grind
theorem zcn (f:Str)(v:V):∀fs:List (Str×V),f∈(zbO f v fs).map (·.1)/\∀g,g∈fs.map (·.1)->g∈(zbO f v fs).map (·.1)
 | []=>#[by simp[zbO],λg h=>by simp at h]
 | (k,x)::r=>by
  obtain⟨q,B⟩:=zcn f v r;rw[show zbO f v ((k,x)::r)=(if k=f then (k,v)::r else (k,x)::zbO f v r) from rfl];grind
theorem zcp (f:Str)(v:V):∀fs:List (Str×V),(zbO f v fs).length<=fs.length+1
 | []=>by simp[zbO]
 | (k,x)::r=>by
  have q:=zcp f v r;rw[show zbO f v ((k,x)::r)=(if k=f then (k,v)::r else (k,x)::zbO f v r) from rfl];grind
def zfD.some_of(r:zfD (some v) o):∃u,o=some u/\yo v u:=by
 cases o with
 | none=>show (show False from r).elim
 | some u=>show#[u,BB,r]
def zfD.none_of(r:zfD none o):o=none:=by
 cases o with
 | none=>rfl
 | some u=>show (show False from r).elim
def ziZ(r:yo v u):PySem.W.handedIn u=true:=by
 cases v with
 | non=>cases (show u=Value.none from r);rfl
 | bl b=>cases (show u=Value.bool b from r);rfl
 | int i=>obtain⟨t,e⟩:=(show ∃t,u=Value.int i t from r);cases e;rfl
 | str x=>obtain⟨t,e⟩:=(show ∃t,u=Value.str x t from r);cases e;rfl
 | byt b=>obtain⟨t,e⟩:=(show ∃t,u=Value.bytes b t from r);cases e;rfl
 | flt b=>obtain⟨t,e⟩:=(show ∃t,u=Value.float b t from r);cases e;rfl
 | ref a=>cases (show u=Value.ref a from r);rfl
 | ty n=>cases (show u=Value.type n from r);rfl
section
variable {P:Aa}{w:Ab}{H H':Hp}{h h':Heap}{a C dx:Addr}{fs fs':List (Str×V)}
def zdU (B:HOk P w H h)(e:H a=some (.ins C dx fs)):∃mA,ObjM h a dx C mA/\(∀f,zfD (fs.lookup f) (mA f))/\PySem.Within mA (fs.map (·.1))/\fs.length<=1000/\H dx=some (.own a):=by obtain⟨d,z,F,ob,mA,n,r,q⟩:=(show yk P w H h a (.ins C dx fs) from B a _ e);show#[mA,#[ob,n,F],r,q,z,d]
end
structure Cls (K:AH)(C:Addr):Prop where
 pg:PySem.W.plainGet K C Str.empty=true
 hd:PySem.W.hasDictIn K C=true
 po:PySem.W.plainOver K C=true
 sa:PySem.W.findIn K (.ref C) "__setattr__" = some (some (.builtin "object.__setattr__"))
def Cls.get {K:AH}{C:Addr}(c:Cls K C)(f:Str):PySem.W.plainGet K C f=true:=c.pg
def zai (K:AH)(C:Addr)(f:Str):Prop:=PySem.W.findIn K (.ref C) f=some none
def zai.taker{K:AH}{C:Addr}(n:zai K C f):PySem.W.takerIn K C f=some none:=by unfold PySem.W.takerIn;rw[show PySem.W.findIn K (.ref C) f=some none from n];rfl
structure Meth (K:AH)(C:Addr)(m:Str)(f:Addr):Prop where
 at_:PySem.W.findIn K (.ref C) m=some (some (.ref f))
 fn:PySem.W.isFn K (.ref f)=true
 kp:PySem.W.keepIn K (.ref f)=true
section
variable {X:Cx}{BC:AB}{G:St}{H:Hp}{s:AZ}{a C dx:Addr}{fs:List (Str×V)}{f:Str}{v:V}{A:Ae}{E:AA}
def zhC(I:Inv X BC G H s)(e:H a=some (.ins C dx fs))(c:Cls X.K C)(n:zai X.K C f)(l:fs.lookup f=some v)(h:∀u s',Inv X BC G H s'->yo v u->Q u s'):wpAny (model X.prog X.w) A (getAttr (.ref a) f b) Q E s:=by
 obtain⟨mA,O,r,_,_,_⟩:=zdU I.hok e;obtain⟨u,B,q⟩:=zfD.some_of (v:=v) (o:=mA f) (by rw[<- l];show r f);show zou I.kIn O (c.get f) c.hd n B (ziZ q) (h u _ (I.tok _) q)
def zhD(I:Inv X BC G H s)(e:H a=some (.ins C dx fs))(c:Cls X.K C)(k:Meth X.K C m g)(l:fs.lookup m=none)(h:Q (.ref g,[.ref a]) s):wpAny (model X.prog X.w) A (getMethod (.ref a) m pl) Q E s:=by
 obtain⟨mA,O,r,_,_,_⟩:=zdU I.hok e;have hn:mA m=none:=zfD.none_of (by rw[<- l];show r m);show zls I.kIn O (c.get m) k.at_ k.fn hn h
def zhV(I:Inv X BC G H s)(e:H a=some (.ins C dx fs))(c:Cls X.K C)(n:zai X.K C f)(hl:fs.length<1000)(F:yo y u)(h:∀s',Inv X BC G (upd H a (.ins C dx (zbO f y fs))) s'->Q () s'):wpAny (model X.prog X.w) A (setAttr (.ref a) f u) Q E s:=by
 obtain⟨mA,O,r,wi,_,B⟩:=zdU I.hok e;have J:(fs.map (·.1)).length<=sizeLine:=by rw[ab,ce];lia
 show zqg I.kIn O c.sa c.po n.taker c.hd wi J λh' O' U=>h _ ?_;have Y:∃o,h'.get? dx=some o:=let ⟨o,_,_,e',_⟩:=O'.ns;#[o,e'];show I.write (x:=a) (e:=dx) (by rw[e];show True.intro) (.inr B) (λb q Z z=>(U.2 b Z).trans z) Y ?_;show#[by rw[zf O.ne];show B,?_,O.ne,O'.obj,_,O'.ns,λg=>?_,λg hg=>?_];have:=zcp f y fs;lia;change zfD ((zbO f y fs).lookup g) (if g=f then some u else mA g);rw[zcr];by_cases q:g=f;rw[if_pos q,if_pos q];show F;right;by_cases q:g=f;rw[q];show (zcn f y fs).1;show (zcn f y fs).2 g (wi g λz=>hg ?_);grind
def Inv.made (I:Inv X BC G H s):Inv X BC G (upd (upd H s.heap.objs.size (.own (s.heap.objs.size+1))) (s.heap.objs.size+1) (.ins C s.heap.objs.size []))
  { s with heap:=(s.heap.push PySem.W.emptyDict).push (PySem.W.instObj C s.heap.objs.size) }:=by
 have B:(s.heap.push PySem.W.emptyDict).get? s.heap.objs.size=some PySem.W.emptyDict:=av s.heap BB
 have J:((s.heap.push PySem.W.emptyDict).push (PySem.W.instObj C s.heap.objs.size)).get? (s.heap.objs.size+1)=some (PySem.W.instObj C s.heap.objs.size):=by
  have:=av (s.heap.push PySem.W.emptyDict) (o:=PySem.W.instObj C s.heap.objs.size) BB;right
 have O:(s.heap.push PySem.W.emptyDict).Ns s.heap.objs.size (λ_=>none):=#[PySem.W.emptyDict,#v[],_,B,BB,(λe U=>absurd U (by simp)),λ_=>rfl];have I1:=I.laid (a:=s.heap.objs.size) (o:=.own (s.heap.objs.size+1)) (h':=s.heap.push PySem.W.emptyDict) (t':=s.toks) (λb u q=>ae _ q) (ai _) #[_,B];show I1.laid (a:=s.heap.objs.size+1) (o:=.ins C s.heap.objs.size []) (t':=s.toks) (λb u q=>ae _ q) (Nat.le_of_eq (cI _ _)) ?_;have F:s.heap.objs.size≠s.heap.objs.size+1:=aN (eW _);show#[by rw[zf F,zi],aI _,F,J,λ_=>none,(Heap.Ns1.of_empty O).at λo q=>ae _ q,λ_=>True.intro,λy Y=>absurd BB Y]
def zn0(B:attributeBase e f env (eval e env)=eval e env)(h:Ag prog w A (eval e env) (λo q=>Ag prog w A (getAttr o f true) Q E q) E s):Ag prog w A (eval (.Attribute e f pos) env) Q E s:=
 Attribute_any_ h (by rw[arm_eval_Attribute,B])
end
def zqt (K:AH)(ta:TE)(f:Str):TE:=λG H Q=>ta G H λx H1=>∃a C dx fs v,x = .ref a/\H1 a=some (.ins C dx fs)/\Cls K C/\zai K C f/\fs.lookup f=some v/\Q v H1
def zsW (K:AH)(ta tv:TE)(f:Str):TS:=λBH G H=>tv G H λy H1=>ta G H1 λx H2=>∃a C dx fs,x = .ref a/\H2 a=some (.ins C dx fs)/\Cls K C/\zai K C f/\fs.length<1000/\
 BH.nx G (upd H2 a (.ins C dx (zbO f y fs)))
section
variable {X:Cx}{o e value:Expr}{f:Str}{pos pos' tpos:Pos}{ta tv:TE}
def zcE (B:PE X e ta)(F:attributeBase e f X.env (eval e X.env)=eval e X.env):PE X (.Attribute e f pos) (zqt X.K ta f):=by intro BC s G H Q I h;show zn0 F (thn (B BC s G H _ I h)  ?_);rintro u Y ⟨x,H1,I1,J,a,C,dx,fs,v,ex,O,c,n,l,q⟩;subst ex;obtain rfl:u=Value.ref a:=J;show zhC I1 O c n l λZ s2 I2 U=>#[v,H1,I2,U,q]
def zhe (B:PE X o ta)(F:PE X value tv)(hs:swapsWith value (some (.Attribute o f pos')) pos.line X.env=pure false):PS X (.Assign [.Attribute o f pos'] value pos) (zsW X.K ta tv f):=by intro BC s G H BH I h;show plainObj_wpAny_Assign_Attribute (thn (F BC s G H _ I h) λu J ⟨y,H1,I1,O,q⟩=>thn (B BC J G H1 _ I1 q) λU s2 ⟨x,H2,I2,Y,a,C,dx,fs,ex,Z,c,n,l,q2⟩=>?_) hs;subst ex;obtain rfl:U=Value.ref a:=Y;show zhV I2 Z c n l O λs3 I3=>#[G,_,I3,q2]
variable {BC:AB}{G:St}{H:Hp}{s:AZ}{A:Ae}{E:AA}{Q:AA}{c:Value}{b:Bool}
inductive TyOf (K:AH) (H:Hp):V->Value->Prop where
 | non:TyOf K H .non (.type "NoneType")
 | bl (x:Bool):TyOf K H (.bl x) (.type "bool")
 | int (i:Int):TyOf K H (.int i) (.type "int")
 | str (x:Str):TyOf K H (.str x) (.type "str")
 | flt (x:UInt64):TyOf K H (.flt x) (.type "float")
 | lst {a:Addr} {xs:AT} (e:H a=some (.lst xs)):TyOf K H (.ref a) (.type "list")
 | frz {a:Addr} {o:Obj} {xs:AT} (e:H a=some (.frz o (.lst xs))):TyOf K H (.ref a) (.type "list")
 | tup {a:Addr} {xs:AT} (e:H a=some (.tup xs)):TyOf K H (.ref a) (.type "tuple")
 | dK {a:Addr} {BD:List (Key×V)} (e:H a=some (.dK BD)):TyOf K H (.ref a) (.type "dict")
 | dT {a:Addr} {BD:List (List Key×V)} (e:H a=some (.dT BD)):TyOf K H (.ref a) (.type "dict")
 | ins {a C dx:Addr} {fs:List (Str×V)} (e:H a=some (.ins C dx fs)) (cl:Cls K C) (ha:PySem.W.findIn K (.ref C) "__class__" = some (some (.builtin "object.__class__")))
   (hn:PySem.W.specialIn K (.builtin "object.__class__") "__get__" = some (some (.builtin "getset_descriptor.__get__"))) (htk:PySem.W.takesIn K (.builtin "object.__class__")=some true)
   (hm:PySem.W.mroIn K C (.type "object")=some true):TyOf K H (.ref a) (.ref C)
def zjb(I:Inv X BC G H s)(B:yo x u)(ty:TyOf X.K H x t)(e:PySem.W.kitOne X.K t c=some b)(h:∀tk,Q (.bool b) { s with toks:=tk }) :
  wpAny (model X.prog X.w) A (call (.builtin "isinstance") [u,c]) Q E s:=by
 cases ty with
 | non=>cases (show u=Value.none from B);show bP PySem.W.kitx_none I.kIn True.intro e (λz=>nomatch z) h
 | bl y=>cases (show u=Value.bool y from B);show bP PySem.W.kitx_bool I.kIn True.intro e (λz=>nomatch z) h
 | int i=>obtain⟨t,q⟩:=(show ∃t,u=Value.int i t from B);cases q;show bP PySem.W.kitx_int I.kIn True.intro e (λz=>nomatch z) h
 | str y=>obtain⟨t,q⟩:=(show ∃t,u=Value.str y t from B);cases q;show bP PySem.W.kitx_str I.kIn True.intro e (λz=>nomatch z) h
 | flt y=>obtain⟨t,q⟩:=(show ∃t,u=Value.float y t from B);cases q;show bP PySem.W.kitx_float I.kIn True.intro e (λz=>nomatch z) h
 | @lst a xs F=>
  cases (show u=Value.ref a from B);obtain⟨_,_,n,_,h1⟩:=(show yk X.prog X.w H s.heap a (.lst xs) from I.hok a _ F);show bP PySem.W.kitx_list I.kIn #[_,h1,BB] e (λz=>nomatch z) h
 | @frz a ob xs F=>
  cases (show u=Value.ref a from B);obtain⟨_,_,_,n,_,h1⟩:=(show yk X.prog X.w H s.heap a (.frz ob (.lst xs)) from I.hok a _ F);show bP PySem.W.kitx_list I.kIn #[_,h1,BB] e (λz=>nomatch z) h
 | @tup a xs F=>
  cases (show u=Value.ref a from B);obtain⟨_,_,_,p⟩:=(show yk X.prog X.w H s.heap a (.tup xs) from I.hok a _ F);obtain⟨o,h1,h2,_⟩:=p;show bP PySem.W.kitx_tuple I.kIn #[o,h1,h2] e (λz=>nomatch z) h
 | @dK a BD F=>
  cases (show u=Value.ref a from B);obtain⟨_,_,vs,_,p⟩:=(show yk X.prog X.w H s.heap a (.dK BD) from I.hok a _ F);obtain⟨o,es,Z,h1,h2,_⟩:=p;show bP PySem.W.kitx_dict I.kIn #[o,h1,h2.1] e (λz=>nomatch z) h
 | @dT a BD F=>
  cases (show u=Value.ref a from B);obtain⟨_,_,xs,_,o,es,Z,h1,h2,_⟩:=(show yk X.prog X.w H s.heap a (.dT BD) from I.hok a _ F);show bP PySem.W.kitx_dict I.kIn #[o,h1,h2.1] e (λz=>nomatch z) h
 | @ins a C dx fs F Y ha hn U hm=>
  cases (show u=Value.ref a from B);obtain⟨mA,O,_⟩:=zdU I.hok F;obtain⟨od,J,_⟩:=O.look;show bP (PySem.W.kitx_own (Y.get _) Y.hd ha hn U hm) I.kIn J e (λz=>nomatch z) h
end
structure Room (k:Nat)(A:Ae):Prop where
 hd:A.handled=none
 dp:A.depth+3 * k+5<recursionLimit
 un:A.units+16 * k+200<cLine
 gd:A.guards=some []:=by rfl
def Room.mono {j k:Nat}{A:Ae}(r:Room k A)(h:j<=k):Room j A:=#[r.hd,by have:=r.dp;lia,by have:=r.un;lia,r.gd]
def Room.deeper(r:Room (k+1) A)(env:Env):Room k (A.deeper env):=
 #[r.hd,by have:=r.dp;change A.depth+1+3 * k+5<_;lia,by have:=r.un;change A.units+3+16 * k+200<_;lia,r.gd]
def zhG{A:Ae}:(A.under (.builtin "type.__call__" #[.ref C::us,q])).depth=A.depth+1:=by first | rfl | simp[Around.under,Code.weight,Code.isCreation,Code.isGuard,Code.isCaller,Code.frames,Code.isFrame,guardIds]
def zhH{A:Ae}:(A.under (.builtin "type.__call__" #[.ref C::us,q])).units=A.units+1:=by first | rfl | simp[Around.under,Code.cUnits,Code.frames,Code.isFrame]
def Room.make(r:Room (k+1) A)(C:Addr)(us:AN)(q:List (Str×Value)):Room k (A.under (.builtin "type.__call__" #[.ref C::us,q])):=
 #[r.hd,by have:=r.dp;rw[zhG];lia,by have:=r.un;rw[zhH];lia,by first | show r.gd | (simpa [Around.under,Code.isGuard,guardIds] using r.gd)]
def Room.depth(r:Room k A):A.depth<recursionLimit:=by have:=r.dp;lia
def Room.units(r:Room k A):A.units+64<cLine:=by have:=r.un;lia
def zqv:TA:=λ_ H Q=>Q [] H
def zbQ (ta:TE)(q:TA):TA:=λG H Q=>ta G H λx H1=>q G H1 λxs H2=>Q (x::xs) H2
section
variable {X:Cx}{e:Expr}{es:AO}{te:TE}{t:TA}{pos:Pos}
def znq:PA X [] zqv:=λ_ _ _ _ H Q I h=>Calls.spliced_nil #[[],H,I,.nil,h]
def zbk (q:PE X e te)(B:PA X es t)(hs:starEach (e::es) X.env=(false,eval e X.env)::starEach es X.env:=by rfl):PA X (e::es) (zbQ te t):=by intro pos BC s G H Q I h;rw[hs];change wpAny _ _ (spliced ((false,eval e X.env)::backTo pos (starEach es X.env))) _ _ s;show Calls.spliced_cons (thn (q BC s G H _ I h)  ?_);rintro u F ⟨x,H1,I1,J,O⟩;show thn (B pos BC F G H1 _ I1 O) <| by rintro us Z ⟨xs,H2,I2,U,Y⟩;show#[x::xs,H2,I2,.cons J U,Y]
end
abbrev Sp:=AT->Hp->VK->XK->Prop
abbrev CXT:=List Env->Hp->AZ->XK->AA
structure Env0 (P:Aa)(w:Ab)(K:AH)(mg:AI)(base:Heap)(A:Ae)(outer:List Env)(s:AZ)(H:Hp):Prop where
 frames:A.frames=some outer
 mod:Mod K mg base
 bs:∀b o,base.get? b=some o->s.heap.get? b=some o/\H b=none
 bsz:base.objs.size<=s.heap.objs.size
 funs:s.heap.FunFrames base outer
 frf:∀b∈frs outer,H b=none
 hok:HOk P w H s.heap
 bare:AllBare s.gens
def CE (q:List Env)(P:Aa)(w:Ab)(H:Hp)(s:AZ)(Q:VK)(u:Value)(s':AZ):Prop:=
 ∃v H',s'.os=s.os/\AllBare s'.gens/\Un (frs q) [] H H' s.heap s'.heap/\HOk P w H' s'.heap/\yo v u/\Q v H'
def CR (CX:CXT)(q:List Env)(P:Aa)(w:Ab)(H:Hp)(s:AZ)(Q:VK)(E:XK)(r:Result)(s':AZ):Prop:=
 match r with
 | .ok (.ret u)=>CE q P w H s Q u s'
 | .ok _=>False
 | .error e=>CX q H s E e s'
structure FnOk (P:Aa)(w:Ab)(K:AH)(mg:AI)(base:Heap)(CX:CXT)(k:Nat)(f:Addr)(fd:Ac)(ps:AM)(sp:Sp):Prop where
 len:∀vs H Q E,sp vs H Q E->vs.length=ps.length
 run:∀ (A:Ae) (outer:List Env) (s:AZ) (H:Hp) (args:Args) (us:AN) (vs:AT) (Q:VK) (E:XK),Room k A->Env0 P w K mg base A outer s H->BindsTo s fd args (ps.zip us)->zR vs us->sp vs H Q E->
  codeAny (model P w) A (.call (.ref f) args) (CR CX outer P w H s Q E) s
def FnOk.mono{P:Aa}{w:Ab}{K:AH}{mg:AI}{base:Heap}{CX:CXT}{f:Addr}{fd:Ac}{ps:AM}(F:FnOk P w K mg base CX j f fd ps sp)(h:j<=k) :
  FnOk P w K mg base CX k f fd ps sp:=#[F.len,λA q s H args us vs Q E B=>F.run A q s H args us vs Q E (B.mono h)]
def FnOk.imp{P:Aa}{w:Ab}{K:AH}{mg:AI}{base:Heap}{CX:CXT}{f:Addr}{fd:Ac}{ps:AM}{sp I:Sp}(F:FnOk P w K mg base CX k f fd ps sp)(h:∀vs H Q E,I vs H Q E->sp vs H Q E):FnOk P w K mg base CX k f fd ps I:=
 #[λvs H Q E q=>F.len vs H Q E (h _ _ _ _ q),λA B s H args us vs Q E J O U Y hs=>F.run A B s H args us vs Q E J O U Y (h _ _ _ _ hs)]
def Env0.make{P:Aa}{w:Ab}{K:AH}{mg:AI}{base:Heap}{A:Ae}{q:List Env}{s:AZ}(e:Env0 P w K mg base A q s H)(C:Addr)(us:AN)(B:List (Str×Value)) :
  Env0 P w K mg base (A.under (.builtin "type.__call__" #[.ref C::us,B])) q s H:=#[by first | show e.frames | (simpa [Around.under,Code.envs,Code.isFrame,pushEnvs] using e.frames),e.mod,e.bs,e.bsz,e.funs,e.frf,e.hok,e.bare]
section
variable {X:Cx}{BC:AB}{G:St}{H:Hp}{s s':AZ}
def Inv.env0 (I:Inv X BC G H s):Env0 X.prog X.w X.K X.mg X.base X.A X.stack s H:=
 #[I.ok.frames,I.ok.mod,I.bs,aq I.ok.bsz I.sz,I.stack,I.stkFree,I.hok,I.bare]
def Inv.after(I:Inv X BC G H s)(h:CE X.stack X.prog X.w H s Q u s'):EP X BC G Q u s':=by obtain⟨v,H',O,B,U,F,r,q⟩:=h;obtain⟨Y,g,d,t,J⟩:=s';obtain rfl:J=s.os:=O;show#[v,H',I.call (h':=Y) (g':=g) (d':=d) (t':=t) (ch:=[]) U F B (λb z=>absurd z (by simp)),r,q]
end
def zdd (sp:Sp)(dvs:AT)(E:XK)(t:TA):TE:=λG H Q=>t G H λvs H1=>sp (vs++dvs) H1 Q E
def zs8 (C:Addr)(m:Str)(sp:Sp)(dvs:AT)(E:XK)(ta:TE)(t:TA):TE:=λG H Q=>ta G H λx H1=>∃a dx fs,x = .ref a/\H1 a=some (.ins C dx fs)/\fs.lookup m=none/\
 t G H1 λvs H2=>sp (x::(vs++dvs)) H2 Q E
def zs7 (C:Addr)(sp:Sp)(dvs:AT)(E:XK)(t:TA):TE:=λG H Q=>t G H λvs H1=>∀x dx,H1 x=none->H1 dx=none->dx≠x->
 sp (.ref x::(vs++dvs)) (upd (upd H1 dx (.own x)) x (.ins C dx [])) (λv H2=>v = .non/\Q (.ref x) H2) E
def zad (K:AH)(fd:Ac)(ps:AM)(ds:AN):Prop:=
 ∀ (s:AZ) (us:AN),K.In s.heap->(us++ds).length=ps.length->BindsTo s fd #[us,[]] (ps.zip (us++ds))
def zad.all {K:AH}{fd:Ac}{ps:AM}(h:∀us:AN,us.length=ps.length->bindArgs fd #[us,[]]=pure (ps.zip us)):zad K fd ps []:=λs us _ q=>by rw[cN] at q ⊢;show .of_eq (h us q)
def zdf (CX:CXT)(X:Cx)(E:XK):Prop:=∀ (BC:AB) (G:St) (H:Hp) (s:AZ) (e:Value) (s':AZ),Inv X BC G H s->CX X.stack H s E e s'->X.xe e s'
section
variable {X:Cx}{CX:CXT}{k:Nat}{f C:Addr}{fd:Ac}{ps:AM}{sp:Sp}{dvs:AT}{ds:AN}{E:XK}{x m:Str}{p pos apos:Pos}{e o:Expr}{es:AO}{ta:TE}{t:TA}
def znG{BC:AB}{G:St}{H:Hp}{s:AZ}{Q:VK}{vs:AT}(F:FnOk X.prog X.w X.K X.mg X.base CX k f fd ps sp)(J:Room k X.A)(O:zad X.K fd ps ds)(U:zR dvs ds)(Y:zdf CX X E)(I:Inv X BC G H s)(r:zR vs us)(h:sp (vs++dvs) H Q E):Af X (call (.ref f) us) (EP X BC G Q) X.xe s:=by
 have B:zR (vs++dvs) (us++ds):=r.append U;have Z:(us++ds).length=ps.length:=by rw[<- B.length];show F.len _ _ _ _ h
 show wpAny_call (gE (F.run X.A X.stack s H #[us,[]] (us++ds) (vs++dvs) Q E J I.env0 (O s us I.kIn Z) B h) λr s' q=>?_)
 cases r with
 | error e=>show Y BC G H s e s' I q
 | ok fl=>
  cases fl with
  | ret u=>show I.after q
  | next=>show False.elim q
  | brk=>show False.elim q
  | cont=>show False.elim q
def zgd (F:FnOk X.prog X.w X.K X.mg X.base CX k f fd ps sp)(O:Room k X.A)(U:Gl X x)(Y:X.mg x=some (.ref f))(Z:PySem.W.keepIn X.K (.ref f)=true)(hb:zad X.K fd ps ds)(hd:zR dvs ds)(hx:zdf CX X E)
  (ha:PA X (e::es) t) (B:Ah x:=by ext) (he:starEach (e::es) X.env=(false,eval e X.env)::starEach es X.env:=by rfl) (J:(backTo pos (starEach es X.env)).any (·.1)=false:=by rfl) :
  PE X (.Call (.Name x p) (e::es) [] pos) (zdd sp dvs E t):=by
 intro BC s G H Q I h;show ef (zjm I U Y ?_ B);show fP (h₀:=X.base) I.ok.mod.kin Z (thn (ha pos BC s G H _ I h) λus s1 ⟨vs,H1,I1,r,q⟩=>#[I1.kIn,?_]) he J;show znG F O hb hd hx I1 r q
def zps {pl:Sem Bool}(he:PE X o ta)(c:Cls X.K C)(hm:Meth X.K C m f)(F:FnOk X.prog X.w X.K X.mg X.base CX k f fd ps sp)(hr:Room k X.A)(hb:zad X.K fd ps ds)(hd:zR dvs ds)(hx:zdf CX X E)(ha:PA X (e::es) t)
  (hst:starEach (e::es) X.env=(false,eval e X.env)::starEach es X.env:=by rfl) (hpl:(backTo pos (starEach es X.env)).any (·.1)=false:=by rfl)
  (ht:eval (.Call (.Attribute o m apos) (e::es) [] pos) X.env=(do
   let ov <- eval o X.env
   standAt apos.atName
   let (f,first) <- holding [ov] (getMethod ov m pl)
   callWith pos f first (backTo pos (starEach (e::es) X.env)) (backToKw pos (keywordEach [] X.env))):=by rfl) :
  PE X (.Call (.Attribute o m apos) (e::es) [] pos) (zs8 C m sp dvs E ta t):=by
 intro BC s G H Q I h;show PySem.W.methodCall_KW (pl:=pl) (thn (he BC s G H _ I h) λu s1 ⟨x,H1,I1,rx,a,dx,fs,ex,ea,l,q⟩=>?_) ht;subst ex;obtain rfl:u=Value.ref a:=rx;show zhD I1 ea c hm l ?_;show fP (first:=[.ref a]) (h₀:=X.base) I.ok.mod.kin hm.kp (thn (ha pos BC s1 G H1 _ I1 q) λus s2 ⟨vs,H2,I2,r,q2⟩=>#[I2.kIn,?_]) hst hpl;show znG (us:=.ref a::us) (vs:=.ref a::vs) F hr hb hd hx I2 (.cons BB r) q2
structure Mk (K:AH)(C f:Addr):Prop where
 makes:PySem.W.makesIn K C=true
 init:PySem.W.findIn K (.ref C) "__init__" = some (some (.ref f))
 fn:PySem.W.isFn K (.ref f)=true
 kp:PySem.W.keepIn K (.ref C)=true
def zmw{BC:AB}{G:St}{H:Hp}{s:AZ}{Q:VK}{vs:AT}(M:Mk X.K C f)(F:FnOk X.prog X.w X.K X.mg X.base CX k f fd ps sp)(O:Room (k+1) X.A)(U:zad X.K fd ps ds)(Y:zR dvs ds)(Z:zdf CX X E)(I:Inv X BC G H s)(r:zR vs us)(h:∀x dx,H x=none->H dx=none->dx≠x->sp (.ref x::(vs++dvs)) (upd (upd H dx (.own x)) x (.ins C dx [])) (λv H2=>v = .non/\Q (.ref x) H2) E) :
  Af X (call (.ref C) us) (EP X BC G Q) X.xe s:=by
 have B:=h (s.heap.objs.size+1) s.heap.objs.size (I.hok.fresh (gn _)) (I.hok.fresh (ai _)) (aN (eW _));have I2:=Inv.made (C:=C) I;have J:zR (V.ref (s.heap.objs.size+1)::(vs++dvs)) (Value.ref (s.heap.objs.size+1)::(us++ds)):=.cons BB (r.append Y);have hl:(Value.ref (s.heap.objs.size+1)::us++ds).length=ps.length:=by have e:=J.length;rw[F.len _ _ _ _ B] at e;show e.symm
 show wpAny_call (zlU (f:=f) I.kIn M.makes M.init (beq_iff_eq.mp M.fn) (gE (F.run _ X.stack _ _ #[Value.ref (s.heap.objs.size+1)::us,[]] (Value.ref (s.heap.objs.size+1)::(us++ds)) _ _ E (O.make C us [])
  (I2.env0.make C us []) (U _ (Value.ref (s.heap.objs.size+1)::us) I2.kIn hl) J B) λr s' q=>?_))
 cases r with
 | error e=>show Z BC G _ _ e s' I2 q
 | ok fl=>
  cases fl with
  | ret u=>
   obtain⟨v,H',I3,rv,ev,q3⟩:=I2.after q;subst ev;show#[rv,#[V.ref (s.heap.objs.size+1),H',I3,BB,q3]]
  | next=>show False.elim q
  | brk=>show False.elim q
  | cont=>show False.elim q
def zpr (M:Mk X.K C f)(F:FnOk X.prog X.w X.K X.mg X.base CX k f fd ps sp)(O:Room (k+1) X.A)(U:Gl X x)(Y:X.mg x=some (.ref C))(Z:zad X.K fd ps ds)(hd:zR dvs ds)(hx:zdf CX X E)
  (ha:PA X (e::es) t) (B:Ah x:=by ext) (he:starEach (e::es) X.env=(false,eval e X.env)::starEach es X.env:=by rfl) (J:(backTo pos (starEach es X.env)).any (·.1)=false:=by rfl) :
  PE X (.Call (.Name x p) (e::es) [] pos) (zs7 C sp dvs E t):=by
 intro BC s G H Q I h;show ef (zjm I U Y ?_ B);show fP (h₀:=X.base) I.ok.mod.kin M.kp (thn (ha pos BC s G H _ I h) λus s1 ⟨vs,H1,I1,r,q⟩=>#[I1.kIn,?_]) he J;show zmw M F O Z hd hx I1 r q
variable {ks:AM}{kpos:Pos}{kws:List Keyword}{te:TE}{tk:TA}{nm:Option Str}
variable {g:AN->AN->AN}{gV:AT->AT->AT}
end
structure FnScope (N P:AM)(sc:Scope):Prop where
 kind:sc.kind = .function
 co:sc.isCoroutine=false
 gen:sc.isGenerator=false
 nd:N.Nodup
 pre:N.take P.length=P
 par:∀x∈P,sc.names.lookup x=some .local\/sc.names.lookup x=some .cell
 nofree:∀y∈sc.names,y.2≠.free
theorem zeM {B:Str->Option NameKind}{x:Str}:∀ {q:List (Str×Value)} {m:AI},(∀v,(x,v)∉q)->bindL B q m x=m x
 | [],_,_=>rfl
 | (n,v)::r,m,h=>by
  unfold bindL;rw[zeM λw F=>h w (ar _ F)];split
  all_goals grind
theorem zeK {B:Str->Option NameKind}{x:Str}:∀ {q:List (Str×Value)} {m:AI},(∀v,(x,v)∉q)->bindC B q m x=m x
 | [],_,_=>rfl
 | (n,v)::r,m,h=>by
  unfold bindC;rw[zeK λw F=>h w (ar _ F)];split
  all_goals grind
theorem zeL {q:Str->Option NameKind}{x:Str}{v:Value}:∀ {P:AM} {vs:AN} {i:Nat} {m:AI},P.Nodup->P[i]?=some x->vs[i]?=some v->q x=some .local->
  bindL q (P.zip vs) m x=some v
 | [],_,_,_,_,h,_,_=>by simp at h
 | _::_,[],_,_,_,_,h,_=>by simp at h
 | p::P,w::vs,0,m,B,h1,h2,F=>by simp at h1 h2;subst h1;subst h2;change bindL q ((p,w)::P.zip vs) m p=_;unfold bindL;rw[zeM λv I=>(c7.mp B).1 (fF I).1,if_pos F];simp
 | p::P,w::vs,i+1,m,B,h1,h2,F=>by change bindL q ((p,w)::P.zip vs) m x=_;unfold bindL;show zeL (i:=i) (c7.mp B).2 (by simpa using h1) (by simpa using h2) F
theorem zeJ {q:Str->Option NameKind}{x:Str}{v:Value}:∀ {P:AM} {vs:AN} {i:Nat} {m:AI},P.Nodup->P[i]?=some x->vs[i]?=some v->q x≠some .local->
  bindC q (P.zip vs) m x=some v
 | [],_,_,_,_,h,_,_=>by simp at h
 | _::_,[],_,_,_,_,h,_=>by simp at h
 | p::P,w::vs,0,m,B,h1,h2,F=>by simp at h1 h2;subst h1;subst h2;change bindC q ((p,w)::P.zip vs) m p=_;unfold bindC;rw[zeK λv I=>(c7.mp B).1 (fF I).1,if_neg F];simp
 | p::P,w::vs,i+1,m,B,h1,h2,F=>by change bindC q ((p,w)::P.zip vs) m x=_;unfold bindC;show zeJ (i:=i) (c7.mp B).2 (by simpa using h1) (by simpa using h2) F
def xx (N:AM)(vs:AT):St:=vs.map some++List.replicate (N.length - vs.length) none
def zeG (CX:CXT)(P:Aa)(w:Ab)(K:AH)(mg:AI)(base:Heap)(N:AM)(qual:Str)(scope:Scope)(f:Addr)(cd:Value)(A:Ae)(outer:List Env)(s:AZ)(H:Hp)(E:XK):Cx where
 prog:=P
 w:=w
 K:=K
 mg:=mg
 base:=base
 A:=A.deeper (envOfC qual scope s.heap.objs.size f cd)
 N:=N
 s₀:=s
 H₀:=H
 env:=envOfC qual scope s.heap.objs.size f cd
 outer:=outer
 stack:=envOfC qual scope s.heap.objs.size f cd::outer
 ex:=[]
 calm:=true
 fn:=λ_=>true
 pn:=[]
 xe:=λe s'=>wpAny (model P w) (A.deeper (envOfC qual scope s.heap.objs.size f cd)) (leaving (envOfC qual scope s.heap.objs.size f cd) e) (λ_ s''=>CX outer H s E e s'') (λe' s''=>CX outer H s E e' s'') s'
def zgF{B:Scope}(h:B.names.lookup x=some .cell):∃c,(cellsFrom n B.names []).lookup x=some c:=by have q:=PySem.W.cellsFrom_some B.names n [] (.inl h);show Option.isSome_iff_exists.mp q
def zi4{CX:CXT}{P:Aa}{w:Ab}{K:AH}{mg:AI}{base:Heap}{N ps:AM}{F:Str}{scope:Scope}{f:Addr}{Z:Value}{A:Ae}{B:List Env}{s s1:AZ}{H:Hp}{E:XK}{vs:AT}(S:FnScope N ps scope)(hd:A.handled=none)(I:Env0 P w K mg base A B s H)(hl:vs.length=ps.length)(r:zR vs us)(x:InCallC s s.heap.objs.size (bindL (envOfC F scope s.heap.objs.size f Z).kindOf (ps.zip us) λ_=>none) (cellsFrom (s.heap.objs.size+1) scope.names []) (bindC (envOfC F scope s.heap.objs.size f Z).kindOf (ps.zip us) λ_=>none) s1) :
  Inv (zeG CX P w K mg base N F scope f Z A B s H E) [] (xx N vs) H s1:=by
 have ac:ps.length<=N.length:=by have:=congrArg List.length S.pre;rw[bp] at this;lia
 obtain⟨h1,tk,rfl,hk⟩:=x.done;have J:∀b:Addr,b∉(zeG CX P w K mg base N F scope f Z A B s H E).ex:=λb z=>absurd (show b∈([]:AY) from z) (by simp)
 show#[#[I.mod,S.kind,BB,BB,ai _,λy z c h1 h2=>?_,λy O=>?_,λy c _ h=>?_,λ_=>hd,Around.frames_deeper I.frames,.inr #[BB,BB],λb z=>absurd z (J b),I.bs,I.bsz,λb _ _=>J b,λb z=>absurd z (J b),I.funs,I.frf],
  rfl,I.bare,Un.kept hk,#[_,x.toInCall.ns,λi y v h1 h2 h3=>?_],λy c h=>#[_,x.cell y c h],I.hok.fresh (ai _),λy c h=>?_,λp U=>absurd (show p∈([]:AB) from U) (by simp),I.hok.kept hk,?_]
 show name_of_addr x.apart (dj h1) (dj h2);have O:scope.names.lookup y=some .cell\/scope.names.lookup y=some .free:=O;rcases O with O | O;show zgF O;show absurd BB (S.nofree _ (dj O));show cH (x.above y c (dj h))
 have hi:i<vs.length:=by
  unfold xx at h2;by_cases hi:i<vs.length;show hi;rw[bt (by simpa using hi)] at h2;rw[List.getElem?_replicate] at h2;right
 have ha:vs[i]?=some v:=by
  unfold xx at h2;rw[bQ (by simpa using hi),aC] at h2;right
 obtain⟨u,hu,rv⟩:=r.get ha;have U:ps[i]?=some y:=by rw[<- S.pre,bX (by lia)];show h1
 have Y:ps.Nodup:=by rw[<- S.pre];show S.nd.sublist (cw _ _)
 show#[u,rv,?_];rcases S.par y (aM U) with k | k;show .inl #[k,zeL Y U hu k];obtain⟨c,e⟩:=zgF (n:=s.heap.objs.size+1) k;show .inr #[.inl k,c,e,?_];have q:=x.cell y c e;rw[zeJ Y U hu (by change scope.names.lookup y≠_;rw[k];decide)] at q;show q;show I.hok.fresh (cH (x.above y c (dj h)));unfold xx;change _=N.length;grind
def zro{CX:CXT}{P:Aa}{w:Ab}{K:AH}{mg:AI}{base:Heap}{f:Addr}{name F:Str}{U:Arguments}{body:List Stmt}{scope:Scope}{dV kV ad pm O ct oc:Value}{an od:Option Addr}{N ps:AM}{sp:Sp}(lk:K.lookup f=some #[oc,od,.func (PySem.W.fnOf name F U body scope dV kV ad pm an O ct),ap])(as:PySem.W.codeIn K O F=true)(S:FnScope N ps scope)(ag:∀vs H Q E,sp vs H Q E->vs.length=ps.length)(Z:∀ (A:Ae) (B:List Env) (s:AZ) (H:Hp) (vs:AT) (Q:VK) (E:XK),Room k (A.deeper (envOfC F scope s.heap.objs.size f O))->sp vs H Q E->
   ∃t,PSs (zeG CX P w K mg base N F scope f O A B s H E) body t/\t { nx:=λ_ H'=>Q .non H',rt:=Q } (xx N vs) H) :
  FnOk P w K mg base CX (k+1) f (PySem.W.fnOf name F U body scope dV kV ad pm an O ct) ps sp:=by
 show#[ag,λA B s H args us vs Q E hr e0 hb r al=>?_];have hl:=ag _ _ _ _ al;have KX:K.In s.heap:=e0.mod.kin.keeps λb o e=>(e0.bs b o e).1;have lim:s.heap.NoLimit:=e0.mod.nolimit.keeps λb o e=>(e0.bs b o e).1
 have ac:∀y∈ps.zip us,scope.names.lookup y.1=some .local\/(scope.names.lookup y.1=some .cell/\((cellsFrom (s.heap.objs.size+1) scope.names []).lookup y.1).isSome=true):=by
  rintro⟨n,v⟩ hy;rcases S.par n (fF hy).1 with q | q;show .inl q;show .inr #[q,PySem.W.cellsFrom_some _ _ _ (.inl q)]
 show codeAny_call_function hr.depth (KX _ _ lk) BB S.co S.gen BB (PySem.W.codeRec_of KX as) (hb _ _ _ _ ?_);show wpAny_newFunctionEnv_cells S.kind ac λenv he s1 x=>?_;subst he;show#[lim.keeps x.toInCall.keep,codeAny_func ?_];obtain⟨t,ht,hq⟩:=Z A B s H vs Q E (hr.deeper _) al;have I:Inv (zeG CX P w K mg base N F scope f O A B s H E) [] (xx N vs) H s1:=zi4 S hr.hd e0 hl r x;show bC (ht [] s1 (xx N vs) H _ I hq) (λfl s' hs=>?_) λe s' hs=>hs
 have fin:∀ {Y:St} {H':Hp} {v:V} {u:Value},Inv (zeG CX P w K mg base N F scope f O A B s H E) [] Y H' s'->yo v u->Q v H'->CE B P w H s Q u s':=
  λ{Y H' v u} J rv q=>#[v,H',J.os,J.bare,J.base,J.hok,rv,q]
 cases fl with
 | ret u=>
  obtain⟨v,Y,H',J,rv,q⟩:=hs;show fin J rv q
 | next=>
  obtain⟨Y,H',J,q⟩:=hs;show fin (v:=V.non) (u:=Value.none) J BB q
 | brk=>
  obtain⟨_,_,_,q⟩:=hs;show False.elim q
 | cont=>
  obtain⟨_,_,_,q⟩:=hs;show False.elim q
section
variable {X:Cx}{x:Str}{p pos:Pos}{e:Expr}{es:AO}{t:TA}{id T:String}{r:AT->Hp->VK->Prop}
def tCB (r:AT->Hp->VK->Prop)(t:TA):TE:=λG H Q=>t G H λvs H1=>r vs H1 Q
def zl5 (F:zdJ X (.builtin id) r)(J:Gl X x)(O:X.mg x=none)(U:bootBuiltins x=some (.builtin id))(Y:PA X (e::es) t)(hn:x ≠ "__name__" := by ext)(q:Ah x:=by ext)
  (Z:starEach (e::es) X.env=(false,eval e X.env)::starEach es X.env:=by rfl) (B:(backTo pos (starEach es X.env)).any (·.1)=false:=by rfl):PE X (.Call (.Name x p) (e::es) [] pos) (tCB r t):=by
 intro BC s G H Q I h;show ef (zco I J O U ?_ hn q);show PyProof.Rows.callWith_builtin1 (thn (Y pos BC s G H _ I h) <| by rintro us s1 ⟨vs,H1,I1,r1,q1⟩;show F BC s1 G H1 vs us Q I1 r1 q1) Z B
def zj0 (F:zdJ X (.type T) r)(J:Gl X x)(O:X.mg x=none)(U:bootBuiltins x=some (.type T))(Y:PA X (e::es) t)(hn:x ≠ "__name__" := by ext)(q:Ah x:=by ext)
  (Z:starEach (e::es) X.env=(false,eval e X.env)::starEach es X.env:=by rfl) (B:(backTo pos (starEach es X.env)).any (·.1)=false:=by rfl):PE X (.Call (.Name x p) (e::es) [] pos) (tCB r t):=by
 intro BC s G H Q I h;show ef (zco I J O U ?_ hn q);show b9 (thn (Y pos BC s G H _ I h) <| by rintro us s1 ⟨vs,H1,I1,r1,q1⟩;show F BC s1 G H1 vs us Q I1 r1 q1) Z B
end
section
variable {κ:Type}[DecidableEq κ]
def uE (BD:List (κ×V))(k:κ):Option V:=(BD.find? λkv=>decide (kv.1=k)).map (·.2)
def zah (BD:List (κ×V))(k:κ)(v:V):List (κ×V):=
 if (BD.any λkv=>decide (kv.1=k))=true then BD.map (λkv=>if kv.1=k then (kv.1,v) else kv) else BD++[(k,v)]
def yd{p:κ×V}(e:p.1=k):uE (p::r) k=some p.2:=by simp[uE,dB,e]
def yc{p:κ×V}{r:List (κ×V)}(e:¬ p.1=k):uE (p::r) k=uE r k:=by simp[uE,dB,e]
theorem za6 (k:κ):∀BD:List (κ×V),(BD.any λkv=>decide (kv.1=k))=(uE BD k).isSome
 | []=>rfl
 | p::r=>by
  rw[cY];by_cases e:p.1=k;simp only[yd e,aY e,Bool.true_or,Option.isSome_some];rw[yc e,a6 e,Bool.false_or];show za6 k r
theorem zhm (k j:κ)(y:V):∀BD:List (κ×V),uE (BD.map λkv=>if kv.1=k then (kv.1,y) else kv) j=(uE BD j).map λx=>if j=k then y else x
 | []=>rfl
 | p::r=>by
  have q:=zhm k j y r;rw[aD];by_cases h:p.1=k;rw[if_pos h];by_cases e:p.1=j;rw[yd (p:=(p.1,y)) e,yd e,Option.map_some,if_pos (e.symm.trans h)];rw[yc (p:=(p.1,y)) e,yc e,q];rw[if_neg h];by_cases e:p.1=j;rw[yd (p:=p) e,yd e,Option.map_some,if_neg (λz=>h (e.trans z))];rw[yc (p:=p) e,yc e,q]
theorem zfz (k j:κ)(y:V):∀BD:List (κ×V),uE BD k=none->uE (BD++[(k,y)]) j=if j=k then some y else uE BD j
 | [],_=>by
  by_cases e:k=j;rw[if_pos e.symm];show yd (p:=(k,y)) e;rw[if_neg (λz=>e z.symm)];show yc (p:=(k,y)) e
 | p::r,hn=>by
  rw[List.cons_append];have q:¬ p.1=k:=λz=>by rw[yd z] at hn;cases hn
  rw[yc q] at hn;have B:=zfz k j y r hn;by_cases e:p.1=j;rw[yd e,yd e,if_neg (λz=>q (e.trans z))];rw[yc e,yc e,B]
def zmT (BD:List (κ×V))(k j:κ)(y:V):uE (zah BD k y) j=if j=k then some y else uE BD j:=by
 unfold zah;by_cases a:(BD.any λkv=>decide (kv.1=k))=true;rw[if_pos a,zhm];rw[za6] at a;by_cases e:j=k;obtain⟨x,q⟩:=Option.isSome_iff_exists.mp a;grind;right;rw[if_neg a];show zfz k j y BD ?_;rw[za6] at a;right
def zaw (BD:List (κ×V))(k:κ)(v:V):(zah BD k v).length<=BD.length+1:=by
 unfold zah;split
 all_goals right
def zme {BD:List (κ×V)}{k:κ}(v:V)(h:uE BD k=none):zah BD k v=BD++[(k,v)]:=by
 unfold zah;rw[za6,h];right
def zfD.isSome_eq(r:zfD o u):o.isSome=u.isSome:=by
 cases o with
 | none=>cases u with
  | none=>rfl
  | some _=>show (show False from r).elim
 | some _=>cases u with
  | none=>show (show False from r).elim
  | some _=>rfl
def KV.val(r:KV BD vs)(k:κ):zfD (uE BD k) (valueAt vs k):=by
 unfold KV at r
 induction r with
 | nil=>show True.intro
 | @cons p q ps B h t I=>
  obtain⟨h1,h2⟩:=h;by_cases e:p.1=k;have F:q.1=k:=h1.symm.trans e;have b:valueAt (q::B) k=some q.2:=by simp[valueAt,dB,F]
  rw[yd e,b];show h2;have F:¬ q.1=k:=λz=>e (h1.trans z);have b:valueAt (q::B) k=valueAt B k:=by simp[valueAt,dB,F]
  rw[yc e,b];show I
def KV.any(r:KV BD vs)(k:κ):(BD.any λkv=>decide (kv.1=k))=vs.any λkv=>decide (kv.1=k):=by
 unfold KV at r
 induction r with
 | nil=>rfl
 | cons h t q=>rw[cY,cY,q,h.1]
def KV.repl {BD:List (κ×V)}{vs:List (κ×Value)}(r:KV BD vs)(k:κ){y:V}{u:Value}(F:yo y u) :
  KV (BD.map λkv=>if kv.1=k then (kv.1,y) else kv) (vs.map λkv=>if kv.1=k then (kv.1,u) else kv):=by
 unfold KV at r ⊢
 induction r with
 | nil=>show .nil
 | @cons p q ps I h t B=>
  rw[aD,aD];show .cons ?_ B;grind
def KV.put(r:KV BD vs)(k:κ)(q:yo y u):KV (zah BD k y) (stored vs k u):=by
 unfold zah stored;rw[r.any k];by_cases e:(vs.any λkv=>decide (kv.1=k))=true;rw[if_pos e,if_pos e];show r.repl k q;rw[if_neg e,if_neg e];show Paired.snoc r #[BB,q]
def KV.length {BD:List (κ×V)}{vs:List (κ×Value)}(r:KV BD vs):BD.length=vs.length:=Paired.length r
end
def zji(r:yo (kV k) u):(zY P w).is k u=true:=by
 cases k with
 | inl i=>obtain⟨t,e⟩:=(show ∃t,u=Value.int i t from r);subst e;show zga P w i t
 | inr x=>obtain⟨t,e⟩:=(show ∃t,u=Value.str x t from r);subst e;show zgb P w x t
theorem zeW:∀ {ks:List Key} {us:AN},zR (ks.map kV) us->ItemsAre (zY P w) ks us
 | [],_,r=>by rw[eO] at r;cases r;show .nil
 | k::ks,_,r=>by
  rw[aD] at r
  cases r with
  | cons h t=>show .cons (zji h) (zeW t)
abbrev KT (H:Hp):List (List Key×V)->List (List Key×Addr×Value)->Prop:=Paired λp q=>p.1=q.1/\H q.2.1=some (.tup (p.1.map kV))/\yo p.2 q.2.2
def KT.val(r:KT H BD xs)(k:List Key):zfD (uE BD k) ((atKey xs k).map (·.2)):=by
 induction r with
 | nil=>show True.intro
 | @cons p q ps B h t I=>
  obtain⟨h1,_,h2⟩:=h;by_cases e:p.1=k;have F:q.1=k:=h1.symm.trans e;have b:atKey (q::B) k=some q.2:=by simp[atKey,dB,F]
  rw[yd e,b];show h2;have F:¬ q.1=k:=λz=>e (h1.trans z);have b:atKey (q::B) k=atKey B k:=by simp[atKey,dB,F]
  rw[yc e,b];show I
def KT.repl(r:KT H BD xs)(k:List Key)(F:yo y u) :
  KT H (BD.map λkv=>if kv.1=k then (kv.1,y) else kv) (xs.map (putAt k u)):=by
 induction r with
 | nil=>show .nil
 | @cons p q ps I h t B=>
  rw[aD,aD];show .cons ?_ B;obtain⟨h1,h2,J⟩:=h;unfold putAt;by_cases e:p.1=k
  all_goals right
def KT.put(r:KT H BD xs)(k:List Key)(F:H b=some (.tup (k.map kV)))(B:yo y u) :
  KT H (zah BD k y) (storedH xs k b u):=by
 have e:(BD.any λkv=>decide (kv.1=k))=(atKey xs k).isSome:=by rw[za6,(r.val k).isSome_eq,Option.isSome_map]
 unfold zah storedH;rw[e];by_cases q:(atKey xs k).isSome=true;rw[if_pos q,if_pos q];show r.repl k B;rw[if_neg q,if_neg q];show Paired.snoc r #[BB,F,B]
def KT.keeps(r:KT H BD xs)(q:∀b ys,H b=some (.tup ys)->H' b=some (.tup ys)):KT H' BD xs:=
 Paired.mapP r λ_ _ z=>#[z.1,q _ _ z.2.1,z.2.2]
section
variable {P:Aa}{w:Ab}{H:Hp}{h:Heap}{a:Addr}
def zp7(q:HOk P w H h)(e:Rd H a u):yk P w H h a u:=e.ok q
def zlh(q:HOk P w H h)(e:Rd H a (.dK BD)):BD.length<=sizeLine/\(a==sysModules)=false/\∃vs,KV BD vs/\h.DictOf (zY P w) a vs:=
 show yk P w H h a (.dK BD) from zp7 q e
def zri(q:HOk P w H h)(e:H a=some (.dK BD)):BD.length<=sizeLine/\(a==sysModules)=false/\∃vs,KV BD vs/\h.DictOf (zY P w) a vs:=zlh q (.inl e)
def zgW(B:HOk P w H h)(e:H a=some (.tup (ks.map kV))):(tupleKind (zY P w)).is h ks a:=by obtain⟨_,q,r,o,h1,h2,⟨n,F⟩,_⟩:=(show yk P w H h a (.tup (ks.map kV)) from B a _ e);show#[o,q.toArray,n,h1,h2,F,by simpa using zeW r]
def zll(F:HOk P w H h)(e:Rd H a (.dT BD)):BD.length<=sizeLine/\(a==sysModules)=false/\
  ∃xs,KT H BD xs/\h.DictOfH (tupleKind (zY P w)) a xs:=by
 obtain⟨z,y,xs,r,o,es,I,h1,h2,J,O,U⟩:=(show yk P w H h a (.dT BD) from zp7 F e);show#[z,y,xs,r,o,es,I,h1,h2,J,O,λx B=>?_,U]
 have all:∀ {l:List (List Key×V)} {m:List (List Key×Addr×Value)},KT H l m->∀x∈m,(tupleKind (zY P w)).is h x.1 x.2.1:=by
  intro l m q
  induction q with
  | nil=>intro x B;show nomatch B
  | @cons p q ps Z hq t Y=>
   intro x B;rcases ay.mp B with e | B;subst e;show zgW F (by right);show Y x B
 show all r x B
def zuq(q:HOk P w H h)(e:H a=some (.dT BD)):BD.length<=sizeLine/\(a==sysModules)=false/\
  ∃xs,KT H BD xs/\h.DictOfH (tupleKind (zY P w)) a xs:=zll q (.inl e)
end
def zc0 (H:Hp)(a:Addr)(y:V)(r:Option V):Prop:=
 (∃BD k,Rd H a (.dK BD)/\y=kV k/\r=uE BD k)\/∃BD k b,Rd H a (.dT BD)/\y = .ref b/\H b=some (.tup (k.map kV))/\r=uE BD k
def zfE (H:Hp)(a:Addr)(y v:V)(H':Hp):Prop:=
 (∃BD k,H a=some (.dK BD)/\y=kV k/\BD.length<sizeLine/\H'=upd H a (.dK (zah BD k v)))\/
 ∃BD k b,H a=some (.dT BD)/\y = .ref b/\H b=some (.tup (k.map kV))/\BD.length<sizeLine/\H'=upd H a (.dT (zah BD k v))
def zc0.k {H:Hp}{a:Addr}{BD:List (Key×V)}{k:Key}(e:H a=some (.dK BD)):zc0 H a (kV k) (uE BD k):=.inl #[BD,k,.inl e,BB,BB]
def zc0.t {H:Hp}{a b:Addr}{BD:List (List Key×V)}{k:List Key}(e:H a=some (.dT BD))(q:H b=some (.tup (k.map kV))):zc0 H a (.ref b) (uE BD k):=.inr #[BD,k,b,.inl e,BB,q,BB]
def zfE.k {H:Hp}{a:Addr}{BD:List (Key×V)}{k:Key}{v:V}(e:H a=some (.dK BD))(q:BD.length<sizeLine):zfE H a (kV k) v (upd H a (.dK (zah BD k v))):=.inl #[BD,k,e,BB,q,BB]
def zfE.t {H:Hp}{a b:Addr}{BD:List (List Key×V)}{k:List Key}{v:V}(e:H a=some (.dT BD))(q:H b=some (.tup (k.map kV)))(B:BD.length<sizeLine) :
  zfE H a (.ref b) v (upd H a (.dT (zah BD k v))):=.inr #[BD,k,b,e,BB,q,B,BB]
section
variable {X:Cx}{BC:AB}{G:St}{H:Hp}{s:AZ}{a:Addr}{y v:V}{u r:Value}{o:Option V}{A:Ae}{E:AA}
def Inv.big (I:Inv X BC G H s):sysModules<s.heap.objs.size:=by have h:mainGlobals<s.heap.objs.size:=(I.mod.glob.keeps I.bk).lt;show Nat.lt_trans (by ext) h
def ziB(Y:A.units+1<cLine)(I:Inv X BC G H s)(g:zc0 H a y (some v))(U:yo y u)(h:∀w' s',Inv X BC G H s'->yo v w'->Q w' s') :
  wpAny (model X.prog X.w) A (getItem (.ref a) u) Q E s:=by
 rcases g with ⟨BD,k,e,ey,l⟩ | ⟨BD,k,b,e,ey,eb,l⟩;subst ey;obtain⟨z,Z,vs,q,F⟩:=zlh I.hok e;obtain⟨w',J,B⟩:=zfD.some_of (v:=v) (o:=valueAt vs k) (by rw[l];show q.val k);show wpAny_getItem_of (zji U) F.mapOf J (h w' _ (I.tok _) B);subst ey;cases (show u=Value.ref b from U);obtain⟨z,Z,xs,q,F⟩:=zll I.hok e;obtain⟨w',J,B⟩:=zfD.some_of (v:=v) (o:=(atKey xs k).map (·.2)) (by rw[l];show q.val k);obtain⟨p,hp,O⟩:=aH.mp J;show wpAny_getItem_heap (fQ Y) (zgW I.hok eb) F hp ?_;rw[O];show h w' _ (I.tok _) B
def zod(U:A.units+1<cLine)(I:Inv X BC G H s)(g:zc0 H a y o)(O:yo y u)(h:∀s',Inv X BC G H s'->Q (.bool (!o.isSome)) s') :
  wpAny (model X.prog X.w) A (compareOp .NotIn u (.ref a)) Q E s:=by
 rcases g with ⟨BD,k,e,ey,l⟩ | ⟨BD,k,b,e,ey,eb,l⟩;subst ey;obtain⟨z,F,vs,B,J⟩:=zlh I.hok e;show wpAny_notIn_of (zji O) F J.mapOf ?_;rw[<- (B.val k).isSome_eq,<- l];show h _ (I.tok _);subst ey;cases (show u=Value.ref b from O);obtain⟨z,F,xs,B,J⟩:=zll I.hok e;show wpAny_notIn_heap (fQ U) (zgW I.hok eb) F J ?_;have q:=(B.val k).isSome_eq;rw[Option.isSome_map] at q;rw[<- q,<- l];show h _ (I.tok _)
def zfR(I:Inv X BC G H s)(F:Mut (H a))(hs:Heap.SameBut a s.heap h')(J:∃q,h'.get? a=some q)(B:yk X.prog X.w (upd H a ob) h' a ob) :
  Inv X BC G (upd H a ob) { s with heap:=h',toks:=t' }:=
 I.write (x:=a) (e:=a) F (.inl BB) (λb q O z=>(hs.2 b O).trans z) J B
def zm6(z:BD.length<=sizeLine)(B:(a==sysModules)=false)(q:KV BD vs)(F:h'.DictOf (zY P w) a vs) :
  yk P w H' h' a (.dK BD):=#[z,B,vs,q,F]
def ziC(hu:A.units+1<cLine)(I:Inv X BC G H s)(g:zfE H a y v H')(ry:yo y u)(rv:yo v r)(h:∀s',Inv X BC G H' s'->Q () s') :
  wpAny (model X.prog X.w) A (setItem (.ref a) u r) Q E s:=by
 rcases g with ⟨BD,k,e,ey,l,eH⟩ | ⟨BD,k,b,e,ey,eb,l,eH⟩;subst ey eH;obtain⟨z,O,vs,B,U⟩:=zri I.hok e;have Y:vs.length<=sizeLine:=by rw[<- B.length];show z
 have Z:(zah BD k v).length<=sizeLine:=by have:=zaw BD k v;lia
 show wpAny_setItem_pairs (hsz:=Y) (zji ry) U λh' F hs=>h _ ?_;have he:∃q,h'.get? a=some q:=let ⟨q,_,_,J,_⟩:=F;#[q,J];show zfR I (by rw[e];show True.intro) hs he (zm6 Z O (B.put k rv) F);subst ey eH;cases (show u=Value.ref b from ry);obtain⟨z,O,xs,B,U⟩:=zuq I.hok e;have Y:xs.length<=sizeLine:=by rw[<- Paired.length B];show z
 have Z:(zah BD k v).length<=sizeLine:=by have:=zaw BD k v;lia
 show wpAny_setItem_heap (hsz:=Y) (fQ hu) (zgW I.hok eb) U λh' F hs=>h _ ?_;obtain⟨q,es,ep,J,h2,h3,h4,_,h5⟩:=F;show zfR I (by rw[e];show True.intro) hs #[q,J] #[Z,O,_,(B.put k eb rv).keeps λc ys ec=>?_,q,es,ep,J,h2,h3,h4,h5];rw[zf (by grind)];show ec
variable {BD:List (Key×V)}{k:Key}
end
def zt0 (i:Expr):Prop:=∀q B,subscripted i false q B=operate [q,B] (getItem q B)
def zqp {prog:Aa}{w:Ab}{A:Ae}{E:AA}{s:AZ}{env:Env}{value q:Expr}{pos:Pos}{T id:String}{Q:AA}
  (Z:typeLookup (.type T) "__getitem__" = pure (some (.builtin id))) (hs:zt0 q)
  (h:Ag prog w A (eval value env) (λo I=>Ag prog w A (eval q env) (λi B=>B.TypeIs o T/\Ag prog w A (getItem o i) Q E B) E I) E s) :
  Ag prog w A (eval (.Subscript value q pos) env) Q E s:=by
 show Subscript_ (bC h (λo I O=>bC O (λi B F=>?_) λ_ _ x=>x) λ_ _ x=>x);obtain⟨Y,F⟩:=F;unfold subscriptTail;show aa ?_;rw[getitemInPython_of_ne Y.not_modules];show aa (wpAny_specialOf Y Z ?_);have fin:Ag prog w A (subscripted q false o i) (λr J=>Ag prog w A (letTemporaryGo value o r >>= λ_=>pure r) Q E J) E B:=by rw[hs o i];show wpAny_operating (bC F (λr J U=>aa (wpAny_letTemporaryGo (af U))) λ_ _ x=>x)
 first
  | show af (aa fin)
  | show aa (by grind)
  | show aa fin
def zfS{X:Cx}{BC:AB}{G:St}{H:Hp}{s:AZ}{a:Addr}{y:V}(I:Inv X BC G H s)(g:zc0 H a y o):s.TypeIs (.ref a) "dict" := by
 rcases g with ⟨BD,k,e,_,_⟩ | ⟨BD,k,b,e,_,_,_⟩;obtain⟨_,_,vs,_,q⟩:=zlh I.hok e;show q.typeIs;obtain⟨_,_,xs,_,q⟩:=zll I.hok e;show q.typeIs
def zqq (td ty:TE):TE:=λG H Q=>td G H λx H1=>ty G H1 λy H2=>∃a v,x = .ref a/\zc0 H2 a y (some v)/\Q v H2
def zkz (ty td:TE):TE:=λG H Q=>ty G H λy H1=>td G H1 λx H2=>∃a o,x = .ref a/\zc0 H2 a y o/\Q (.bl (!o.isSome)) H2
def zqf (td ty tv:TE):TS:=λBH G H=>tv G H λv H1=>td G H1 λx H2=>ty G H2 λy H3=>∃a H4,x = .ref a/\zfE H3 a y v H4/\BH.nx G H4
section
variable {X:Cx}{o i e value:Expr}{pos pos' tpos:Pos}{td ty tv:TE}
def zj1 (B:X.A.units+1<cLine)(J:PE X o td)(hi:PE X i ty)(hs:zt0 i):PE X (.Subscript o i pos) (zqq td ty):=by intro BC s G H Q I h;show zqp PySem.F.slot_dict_getitem.lookup hs (thn (J BC s G H _ I h) λu O ⟨x,H1,I1,U,Y⟩=>thn (hi BC O G H1 _ I1 Y)  ?_);rintro iv s2 ⟨y,H2,I2,Z,a,v,ex,g,q2⟩;subst ex;obtain rfl:u=Value.ref a:=U;show#[zfS I2 g,ziB B I2 g Z λw' s3 I3 q=>#[v,H2,I3,q,q2]]
def zjZ (q:X.A.units+1<cLine)(hi:PE X i ty)(B:PE X o td):PC X .NotIn i o (zkz ty td):=by intro BC s G H Q I h;show thn (hi BC s G H _ I h) λiv F ⟨y,H1,I1,J,O⟩=>thn (B BC F G H1 _ I1 O)  ?_;rintro u s2 ⟨x,H2,I2,U,a,Y,ex,g,Z⟩;subst ex;obtain rfl:u=Value.ref a:=U;show zod q I2 g J λs3 I3=>#[.bl (!Y.isSome),H2,I3,BB,Z]
def zj7 (q:X.A.units+1<cLine)(B:PE X o td)(hi:PE X i ty)(F:PE X value tv)(hs:swapsWith value (some (.Subscript o i pos')) pos.line X.env=pure false) :
  PS X (.Assign [.Subscript o i pos'] value pos) (zqf td ty tv):=by
 intro BC s G H BH I h;show wpAny_Assign_Subscript (thn (F BC s G H _ I h) λr J ⟨v,H1,I1,O,U⟩=>thn (B BC J G H1 _ I1 U) λu Y ⟨x,H2,I2,Z,q2⟩=>thn (hi BC Y G H2 _ I2 q2) λiv s3 ⟨y,H3,I3,ry,a,H4,ex,g,q3⟩=>?_) hs;subst ex;obtain rfl:u=Value.ref a:=Z;show ziC q I3 g ry O λs4 I4=>#[G,H4,I4,q3]
end
def zgK(h:Heap)(q:sysModules<h.objs.size):yk P w H (h.push { cls:=.type "dict",data:=.dict #v[] }) h.objs.size (.dK []):=
 #[aI _,beq_eq_false_iff_ne.mpr (Ne.symm (aN q)),[],.nil,Heap.DictOf.new h]
def zlj(h:Heap)(q:sysModules<h.objs.size):yk P w H (h.push { cls:=.type "dict",data:=.dict #v[] }) h.objs.size (.dT []):=
 #[aI _,beq_eq_false_iff_ne.mpr (Ne.symm (aN q)),[],.nil,_,#v[],0,av _ BB,#[BB,BB,BB],BB,BB,List.nodup_nil]
def znM:TE:=λ_ H Q=>∀p,H p=none->Q (.ref p) (upd H p (.dK []))
def znN:TE:=λ_ H Q=>∀p,H p=none->Q (.ref p) (upd H p (.dT []))
section
variable {X:Cx}{pos:Pos}
def zl7:PE X (.Dict [] [] pos) znM:=λBC s G H Q I h=>
 wpAny_Dict_empty #[.ref s.heap.objs.size,_,I.laid (a:=s.heap.objs.size) (o:=.dK []) (t':=s.toks) (λ_ _ q=>ae _ q) (ai _) (zgK s.heap I.big),BB,h _ (I.hok.fresh (ai _))]
def zha:PE X (.Dict [] [] pos) znN:=λBC s G H Q I h=>
 wpAny_Dict_empty #[.ref s.heap.objs.size,_,I.laid (a:=s.heap.objs.size) (o:=.dT []) (t':=s.toks) (λ_ _ q=>ae _ q) (ai _) (zlj s.heap I.big),BB,h _ (I.hok.fresh (ai _))]
end
def zkC:List (TE×TE)->St->Hp->(List (V×V)->Hp->Prop)->Prop
 | [],_,H,Q=>Q [] H
 | (tk,tv)::r,G,H,Q=>tk G H λx H1=>tv G H1 λy H2=>zkC r G H2 λps H3=>Q ((x,y)::ps) H3
abbrev VV:List (V×V)->List (Value×Value)->Prop:=Paired λp q=>yo p.1 q.1/\yo p.2 q.2
def PPs (X:Cx)(pos:Pos)(B:List (Option Expr))(q:AO)(F:List (TE×TE)):Prop:=
 ∀ (BC:AB) (s:AZ) (G:St) (H:Hp) (Q:List (V×V)->Hp->Prop),Inv X BC G H s->zkC F G H Q->
  Af X (evalPairs (pairTrees B q X.env pos)) (λvs s'=>∃ps H',Inv X BC G H' s'/\VV ps vs/\Q ps H') X.xe s
def zpF:PPs X pos [] [] []:=λBC s G H Q I h=>pairTrees_nil_walk #[[],H,I,.nil,h]
def zmc(F:PE X k tk)(J:PE X v tv)(O:PPs X pos ks vs q) :
  PPs X pos (some k::ks) (v::vs) ((tk,tv)::q):=λBC s G H Q I h=>
 pairTrees_cons_walk (thn (F BC s G H _ I h) λu U ⟨x,H1,I1,Y,Z⟩=>thn (J BC U G H1 _ I1 Z) λw2 s2 ⟨y,H2,I2,ry,q2⟩=>
  thn (O BC s2 G H2 _ I2 q2) <| by rintro ws s3 ⟨ps,H3,I3,B,q3⟩;show#[(x,y)::ps,H3,I3,.cons #[Y,ry] B,q3])
def zcv (BD more:List (Key×V)):List (Key×V):=more.foldl (λacc kv=>zah acc kv.1 kv.2) BD
def KV.merge:∀ {more:List (Key×V)} {B:List (Key×Value)} {BD:List (Key×V)} {vs:List (Key×Value)},KV more B->KV BD vs->KV (zcv BD more) (merged vs B):=by
 intro more B BD vs r;unfold KV at r
 induction r generalizing BD vs with
 | nil=>intro q;show q
 | @cons p q ps J h t F=>
  intro I
  have e:KV (zah BD p.1 p.2) (stored vs q.1 q.2):=by
   have:=I.put p.1 h.2;right
  show F e
theorem zaM:∀ (more BD:List (Key×V)),(zcv BD more).length<=BD.length+more.length
 | [],BD=>by change BD.length<=BD.length+0;lia
 | p::r,BD=>by
  have h1:=zaM r (zah BD p.1 p.2);have h2:=zaw BD p.1 p.2;change (zcv (zah BD p.1 p.2) r).length<=_;grind
theorem zdi:∀ {BD:List (Key×V)} {F:List (Value×Value)},VV (BD.map λkv=>(kV kv.1,kv.2)) F->∃B,Carries (zY P w) F B/\KV BD B
 | [],_,r=>by rw[eO] at r;cases r;show#[[],True.intro,.nil]
 | p::BD,_,r=>by
  rw[aD] at r
  cases r with
  | @cons a b as bs h t=>
   obtain⟨B,c,q⟩:=zdi (P:=P) (w:=w) t;obtain⟨J,I⟩:=b;show#[(p.1,I)::B,#[zji h.1,BB,c],.cons #[BB,h.2] q]
def zs3 (q:List (TE×TE)):TE:=λG H Q=>∀p,H p=none->zkC q G (upd H p (.dK [])) λps H2=>H2 p=some (.dK [])/\∃BD:List (Key×V),ps=BD.map (λkv=>(kV kv.1,kv.2))/\BD.length<=15/\Q (.ref p) (upd H2 p (.dK (zcv [] BD)))
def zpn(h:PPs X pos B F J)(O:B.all (·.isSome)=true)(hl:B.length=F.length)(h0:B≠[])(Y:B.length<=15):PE X (.Dict B F pos) (zs3 J):=by
 intro BC s G H Q I q;have hn:=I.hok.fresh (ai s.heap.objs.size);have I1:=I.laid (a:=s.heap.objs.size) (o:=.dK []) (h':=s.heap.push { cls:=.type "dict",data:=.dict #v[] }) (t':=s.toks) (λ_ _ q=>ae _ q) (ai _) (zgK s.heap I.big);show wpAny_Dict_walk (knd:=zY X.prog X.w) O hl h0 Y (thn (h BC _ G _ _ I1 (q _ hn))  ?_);rintro ws s2 ⟨ps,H2,I2,Z,e,BD,ep,lk,q2⟩;subst ep;obtain⟨rs,c,rk⟩:=zdi (P:=X.prog) (w:=X.w) Z;obtain⟨z,hd,ac,r0,dd⟩:=zri I2.hok e;cases r0;show#[rs,c,dd,λh' U hs=>#[.ref s.heap.objs.size,_,?_,BB,q2]];have hz:(zcv [] BD).length<=sizeLine:=by have h1:=zaM BD [];rw[List.length_nil] at h1;rw[ce];lia
 have he:∃q,h'.get? s.heap.objs.size=some q:=let ⟨q,_,_,hq,_⟩:=U;#[q,hq];show zfR I2 (by rw[e];show True.intro) hs he (zm6 hz hd (rk.merge .nil) U)
section
variable {X:Cx}{BC:AB}{G:St}{H:Hp}{s:AZ}{a:Addr}{y d:V}{u r:Value}{o:Option V}{A:Ae}{E:AA}
variable {o e f:Expr}{apos cpos:Pos}{td ty tx:TE}
variable {BD:List (Key×V)}
end
end L2
namespace HT
open PyProof.Rows
def lexLt:AG->AG->Bool
 | [],[]=>false
 | [],_::_=>true
 | _::_,[]=>false
 | x::xs,y::ys=>if x=y then lexLt xs ys else decide (x<y)
section
open PySem.SeqAt
open PySem.AutoSeq1 (wpAny_loadPart')
open PySem.MeetsSeq PySem.MeetsSeq2 PySem.MeetsSeq3
variable {prog:Aa}{w:Ab}{A:Ae}{E:AA}{s:AZ}
def cat_tup(ht:IsTup s.heap t vs.toArray)(hb:IsTup s.heap b q.toArray)(hv:vs≠[])(h1:q=[]->Q (.ref t) s)(h2:q≠[]->Q (.ref s.heap.objs.size) { s with heap:=s.heap.push { cls:=.type "tuple",data:=.seq (vs++q).toArray } })(hsz:vs.length+q.length<=sizeLine):Ag prog w A (binaryOp .Add (.ref t) (.ref b)) Q E s:=by
 obtain⟨⟨cls,dd,data,sl⟩,Y,hc,n,hd⟩:=id ht;obtain⟨⟨ad,I,ac,J⟩,B,O,n2,U⟩:=id hb;simp only at hc hd O U;subst hc hd O U;have e:vs.toArray++q.toArray=(vs++q).toArray:=by simp
 by_cases Z:q=[]
 ·show concat_meets #[_,Y,BB] #[_,B,BB] noFill_tuple_add seq_tuple_add PySem.F.slot_tuple_add PySem.F.entry_tuple_add (PySem.F.args_tuple_add_2 _ _)
   (tuple_addW1 t b vs.toArray q.toArray n n2 dd I sl J (by simpa using hv) (by simp[Z])) #[Y,B,h1 Z]
 ·show concat_meets #[_,Y,BB] #[_,B,BB] noFill_tuple_add seq_tuple_add PySem.F.slot_tuple_add PySem.F.entry_tuple_add (PySem.F.args_tuple_add_2 _ _)
   (tuple_addW2 t b vs.toArray q.toArray n n2 dd I sl J (by simpa using hv) (by simpa using Z) (by right)) #[Y,B,?_]
  rw[e];show h2 Z
def sIx (n d:Nat):AQ->Nat
 | none=>d
 | some v=>if v<0 then (v+(n:Int)).toNat else min v.toNat n
def sIx_none (n d:Nat):sIx n d none=d:=rfl
def sIx_nat (n d k:Nat):sIx n d (some (k:Int))=min k n:=by change (if (k:Int)<0 then ((k:Int)+(n:Int)).toNat else min (k:Int).toNat n)=min k n;rw[if_neg (by lia),Int.toNat_natCast]
def zsX (n d:Nat)(B:d<=n)(o:AQ):sIx n d o<=n:=by
 cases o with
 | none=>show B
 | some v=>
  change (if v<0 then (v+(n:Int)).toNat else min v.toNat n)<=n;by_cases q:v<0;rw[if_pos q];lia;rw[if_neg q];show Nat.min_le_right _ _
def zin (v:Int)(n d:Nat):(if v<0 then max (v+(n:Int)) 0 else min v (n:Int))=((sIx n d (some v):Nat):Int):=by
 change (if v<0 then max (v+(n:Int)) 0 else min v (n:Int))=(((if v<0 then (v+(n:Int)).toNat else min v.toNat n):Nat):Int);grind
def zht (lo hi:AQ)(n:Nat):Builtin.Slice.sliceAdjust lo hi 1 (n:Int)=(((sIx n 0 lo:Nat):Int),((sIx n n hi:Nat):Int)):=by
 have h1:¬ ((1:Int)<0):=by lia
 unfold Builtin.Slice.sliceAdjust;simp only[h1,if_false];show Prod.ext ?_ ?_
 cases lo with
 | none=>rfl
 | some v=>show zin v n 0
 cases hi with
 | none=>rfl
 | some v=>show zin v n n
def zhP (i j:Nat):Builtin.Slice.slicePlaces (i:Int) (j:Int) 1=j - i:=by
 unfold Builtin.Slice.slicePlaces;have h1:(1:Int) > 0:=by lia
 simp only[h1,if_true,Int.ediv_one];split <;> lia
def zdF{o:AQ}{Q:AQ->AZ->Prop}(p:IsPart v o)(h:Q o s):Ag prog w A (Builtin.Slice.slicePartIndex v) Q E s:=by
 cases p with
 | none=>show slicePart_none h
 | int i t=>show slicePart_int h
def uB{lo hi:AQ}{Q:Int×Int×Nat->AZ->Prop}(hs:s.heap.IsSliceOf J F I .none)(pl:IsPart F lo)(O:IsPart I hi)(h:Q (((sIx n 0 lo:Nat):Int),1,sIx n n hi - sIx n 0 lo) s):Ag prog w A (Builtin.Slice.sliceApplied (.ref J) (pure (n:Int))) Q E s:=by
 obtain⟨Y,q,U,B⟩:=id hs;unfold Builtin.Slice.sliceApplied Builtin.Slice.sliceFields;show wpAny_bind (wpAny_bind (wpAny_field q B (x:=F) BB (wpAny_bind (wpAny_field q B (x:=I) BB (wpAny_bind (wpAny_field q B (x:=.none) BB (wpAny_pure ?_)))))));show wpAny_bind (slicePart_none ?_);change wpAny _ _ (if ((1:Int)==0)=true then _ else _) _ _ s;rw[if_neg (by ext)];show wpAny_bind (zdF pl (wpAny_bind (zdF O (wpAny_bind (wpAny_pure ?_)))));change wpAny _ _ (match Builtin.Slice.sliceAdjust lo hi 1 (n:Int) with | (lo,hi)=>pure (lo,(1:Int),Builtin.Slice.slicePlaces lo hi 1)) _ _ s;rw[zht lo hi n];change wpAny _ _ (pure (((sIx n 0 lo:Nat):Int),(1:Int),Builtin.Slice.slicePlaces ((sIx n 0 lo:Nat):Int) ((sIx n n hi:Nat):Int) 1)) _ _ s;rw[zhP];show wpAny_pure h
def zmb (xs:AK)(i k:Nat):((List.range k).filterMap λ(m:Nat)=>xs[((i:Int)+(m:Int) * 1).toNat]?).toArray=((xs.toList.drop i).take k).toArray:=by
 have e:(λ(m:Nat)=>xs[((i:Int)+(m:Int) * 1).toNat]?)=λm=>xs[i+m]?:=by
  funext m;have:((i:Int)+(m:Int) * 1).toNat=i+m:=by lia
  rw[this]
 rw[e];have:=pick_run xs i k;rw[List.filterMap_map] at this;have q:((λx=>xs[x]?) ∘ λx=>i+x)=λm=>xs[i+m]?:=rfl;right
def getItem_tuple_cut{lo hi:AQ}(B:IsTup s.heap t items)(hs:s.heap.IsSliceOf F Y Z .none)(pl:IsPart Y lo)(pu:IsPart Z hi)(hw:¬ (sIx items.size 0 lo=0/\sIx items.size items.size hi=items.size))(h:Q (.ref s.heap.objs.size) { s with heap:=s.heap.push { cls:=.type "tuple",data:=.seq ((items.toList.drop (sIx items.size 0 lo)).take (sIx items.size items.size hi - sIx items.size 0 lo)).toArray } })(hsz:items.size<=sizeLine):Ag prog w A (getItem (.ref t) (.ref F)) Q E s:=by
 have q:sizeOk (.seq ((items.toList.drop (sIx items.size 0 lo)).take (sIx items.size items.size hi - sIx items.size 0 lo)).toArray):=by change ((items.toList.drop (sIx items.size 0 lo)).take (sIx items.size items.size hi - sIx items.size 0 lo)).toArray.size<=sizeLine;rw[List.size_toArray,List.length_take,List.length_drop,Array.length_toList];lia
 have hj:sIx items.size items.size hi<=items.size:=zsX _ _ (Nat.le_refl _) hi;obtain⟨os,I,J,ac⟩:=id hs;have O:s.TypeIs (.ref F) "slice" := #[os,I,J];unfold getItem;try with_reducible show wpAny_holding ?_
 first | show wpAny_bind (wpAny_pure ?_) | skip
 show wpAny_bind (wpAny_sequenceKey B.typeIs (by ext) ?_)
 show wpAny_bind (wpAny_callSpecial?_slot (name:=Str.ofString "__getitem__") B.typeIs PyProof.Rows.slot_tuple_getitem
  (wpAny_call_entry PyProof.Rows.slot_tuple_getitem B.typeIs entry_tuple_getitem ?_ (args_tuple_getitem _ _)))
 change wpAny _ _ (Builtin.Tuple.tupleItemsOf (.ref t) >>= _) _ _ s;show wpAny_bind (tupleItemsOf_ B ?_);show wpAny_bind (wpAny_typeOf O ?_);rw[if_pos (by ext)];show wpAny_bind (uB hs pl pu ?_);have U:¬ ((((sIx items.size 0 lo:Nat):Int)==0&&(1:Int)==1&&(sIx items.size items.size hi - sIx items.size 0 lo)==items.size)=true):=by grind
 change wpAny _ _ (if (((sIx items.size 0 lo:Nat):Int)==0&&(1:Int)==1&&(sIx items.size items.size hi - sIx items.size 0 lo)==items.size)=true then _ else _) _ _ s;rw[if_neg U,zmb]
 first
  | show wpAny_bind (m:=Builtin.Tuple.tupleExact _) (wpAny_newObj_type (wpAny_pure #[_,BB,wpAny_pure h]) q)
  | show wpAny_bind (by grind) (by grind)
  | show wpAny_bind (by grind)
  | show wpAny_bind (by grind)
end
end HT
namespace L2
open PyProof.Rows
abbrev TO:=St->Hp->(AQ->Hp->Prop)->Prop
def PO (X:Cx)(e:Option Expr)(t:TO):Prop:=
 ∀ (BC:AB) (s:AZ) (G:St) (H:Hp) (Q:AQ->Hp->Prop),Inv X BC G H s->t G H Q->
  Af X (evalPart e X.env) (λu s'=>∃o H',Inv X BC G H' s'/\IsPart u o/\Q o H') X.xe s
def zkA:TO:=λ_ H Q=>Q none H
def zta (t:TE):TO:=λG H Q=>t G H λx H1=>∃i,x = .int i/\Q (some i) H1
section
variable {X:Cx}{e:Expr}{te:TE}{lo hi:Option Expr}{tl th:TO}{pos p2:Pos}
def zpD:PO X none zkA:=by intro BC s G H Q I h;rw[evalPart_none];show af #[none,H,I,.none,h]
def zpE (h:PE X e te):PO X (some e) (zta te):=by intro BC s G H Q I B;rw[evalPart_some];show thn (h BC s G H _ I B)  ?_;rintro u O ⟨x,H1,I1,F,J⟩;obtain⟨i,rfl,q⟩:=J;obtain⟨t,rfl⟩:=F;show#[some i,H1,I1,.int i t,q]
def SlR (X:Cx)(r:V->AQ->AQ->Hp->VK->Prop):Prop:=
 ∀ (BC:AB) (s:AZ) (G:St) (H:Hp) (x:V) (v q B:Value) (lo hi:AQ) (F:Addr) (Q:VK),Inv X BC G H s->yo x v->s.heap.IsSliceOf F q B .none->IsPart q lo->IsPart B hi->r x lo hi H Q->
  ∃T id,typeLookup (.type T) "__getitem__" = pure (some (.builtin id))/\s.TypeIs v T/\Af X (getItem v (.ref F)) (EP X BC G Q) X.xe s
def tSl (r:V->AQ->AQ->Hp->VK->Prop)(te:TE)(tl th:TO):TE:=λG H Q=>te G H λx H1=>tl G H1 λl H2=>th G H2 λu H3=>r x l u H3 Q
def zl9 {r:V->AQ->AQ->Hp->VK->Prop}(O:SlR X r)(U:PE X e te)(Y:PO X lo tl)(Z:PO X hi th):PE X (.Subscript e (.Slice lo hi none p2) pos) (tSl r te tl th):=by intro BC s G H Q I h;show Subscript_ (thn (U BC s G H _ I h)  ?_);rintro v s1 ⟨x,H1,I1,r1,q1⟩;show wpAny_Slice (thn (Y BC s1 G H1 _ I1 q1) λF s2 ⟨l,H2,I2,pl,q2⟩=>thn (Z BC s2 G H2 _ I2 q2)  ?_);rintro J B ⟨u,H3,I3,pu,q3⟩;rw[evalPart_none];show af ?_;have I4:Inv X BC G H3 { B with heap:=B.heap.push { cls:=.type "slice",data:=.fields #v[F,J,.none] } }:=I3.kept (t':=B.toks) λb ob q=>ae _ q;obtain⟨T,id,hT,ht,hg⟩:=O BC { B with heap:=B.heap.push { cls:=.type "slice",data:=.fields #v[F,J,.none] } } G H3 x v F J l u B.heap.objs.size Q I4 r1 (Heap.IsSliceOf.new ..) pl pu q3;change Af X (subscriptTail e (.Slice lo hi none p2) v (.ref B.heap.objs.size)) (EP X BC G Q) X.xe { B with heap:=B.heap.push { cls:=.type "slice",data:=.fields #v[F,J,.none] } };show tail_any (ops:=[.ref B.heap.objs.size,v]) ht hT hg (by with_unfolding_all rfl)
def zdk (xs:AT)(lo hi:AQ):AT:=(xs.drop (HT.sIx xs.length 0 lo)).take (HT.sIx xs.length xs.length hi - HT.sIx xs.length 0 lo)
def zau (xs:AT)(lo hi:AQ):(zdk xs lo hi).length<=xs.length:=by unfold zdk;rw[bp,eX];lia
def rSlT (K:AH):V->AQ->AQ->Hp->VK->Prop:=λx lo hi H Q=>∃a xs,x = .ref a/\SqT K H a xs/\
 ¬ (HT.sIx xs.length 0 lo=0/\HT.sIx xs.length xs.length hi=xs.length)/\∀p,H p=none->Q (.ref p) (upd H p (.tup (zdk xs lo hi)))
def zsZ:SlR X (rSlT X.K):=by
 intro BC s G H x v vl vu lo hi sl Q I U hs pl Y h;obtain⟨a,xs,rfl,Z,hw,q⟩:=h;cases U;obtain⟨F,r,J,O⟩:=I.tuple Z;have B:F.toArray.size=xs.length:=by rw[aP];show r.length.symm
 show#["tuple",_,PyProof.Rows.slot_tuple_getitem.lookup,J.typeIs,?_];show HT.getItem_tuple_cut J hs pl Y (by rw[B];show hw) ?_ (by rw[B];show O);rw[B];show#[.ref s.heap.objs.size,_,I.laid (t':=s.toks) (o:=.tup (zdk xs lo hi)) (λb ob q=>ae _ q) (ai _) ?_,BB,q _ (I.hok.fresh (ai _))];show#[aq (zau xs lo hi) O,_,(r.drop (HT.sIx xs.length 0 lo)).take (HT.sIx xs.length xs.length hi - HT.sIx xs.length 0 lo),uG.new _ _]
def zvu (K:AH):R2:=λx y H Q=>∃a b xs ys,x = .ref a/\y = .ref b/\SqT K H a xs/\SqT K H b ys/\xs≠[]/\xs.length+ys.length<=sizeLine/\
 (ys=[]->Q (.ref a) H)/\(ys≠[]->∀p,H p=none->Q (.ref p) (upd H p (.tup (xs++ys))))
def zR.nil_iff(r:zR xs us):us=[]↔xs=[]:=by
 cases r with
 | nil=>simp
 | cons _ _=>simp
def zpg:OpR X (binaryOp .Add) (zvu X.K):=by intro BC s G H x y v u Q I O U h;obtain⟨a,b,xs,ys,rfl,rfl,Y,Z,hx,hz,q1,q2⟩:=h;cases O;cases U;obtain⟨ac,F,p1,_⟩:=I.tuple Y;obtain⟨J,B,p2,_⟩:=I.tuple Z;show HT.cat_tup p1 p2 (λz=>hx (F.nil_iff.mp z)) (λz=>#[.ref a,H,I,BB,q1 (B.nil_iff.mp z)]) (λz=>?_) (by rw[<- F.length,<- B.length];show hz);show#[.ref s.heap.objs.size,_,I.laid (t':=s.toks) (o:=.tup (xs++ys)) (λb ob q=>ae _ q) (ai _) ?_,BB,q2 (λw=>z (B.nil_iff.mpr w)) _ (I.hok.fresh (ai _))];show#[by right,_,F.append B,uG.new _ _]
end
def ixN (n:Nat)(i:Int):Option Nat:=if 0<=i then (if i<n then some i.toNat else none) else if -(n:Int)<=i then some (i+n).toNat else none
def atI {α:Type}(xs:List α)(i:Int):Option α:=(ixN xs.length i).bind λj=>xs[j]?
def zjf {n:Nat}{i:Int}{j:Nat}(h:ixN n i=some j):seqIndex? i n=some j/\j<n/\-(n:Int)<=i/\i<n:=by
 unfold ixN at h;by_cases q:0<=i;rw[if_pos q] at h;by_cases h1:i<n;rw[if_pos h1] at h;have e:i.toNat=j:=b8 h;show#[by rw[seqIndex_of q h1,e],by lia,by lia,h1];right;rw[if_neg q] at h;by_cases h1:-(n:Int)<=i;rw[if_pos h1] at h;have e:(i+n).toNat=j:=b8 h;show#[by rw[seqIndex_neg (by lia) h1,e],by lia,h1,by lia];right
def zih {α:Type}{xs:List α}{i:Int}{v:α}(h:atI xs i=some v):∃j,seqIndex? i xs.length=some j/\xs[j]?=some v/\j<xs.length/\-(xs.length:Int)<=i/\i<xs.length:=by
 unfold atI at h
 cases e:ixN xs.length i with
 | none=>rw[e] at h;cases h
 | some j=>
  rw[e] at h;obtain⟨h1,h2,q,B⟩:=zjf e;show#[j,h1,h,h2,q,B]
def zii {α:Type}{xs:List α}{j:Nat}{v:α}(h:xs[j]?=some v):atI xs (j:Int)=some v:=by
 have q:j<xs.length:=(ah.mp h).1
 have e:ixN xs.length (j:Int)=some j:=by
  unfold ixN;right
 unfold atI;rw[e];show h
def zfG (b:Expr):Prop:=∀o i,subscripted b false o i=operate [o,i] (getItem o i)
def IxR (X:Cx)(r:R2):Prop:=
 ∀ (value q:Expr) (BC:AB) (s:AZ) (G:St) (H:Hp) (x y:V) (v u:Value) (Q:VK),Inv X BC G H s->yo x v->yo y u->r x y H Q->
  subscripted q false v u=operate [v,u] (getItem v u)->Af X (subscriptTail value q v u) (EP X BC G Q) X.xe s
def MtR (X:Cx)(id:String)(r:V->AT->Hp->VK->Prop):Prop:=
 ∀ (BC:AB) (s:AZ) (G:St) (H:Hp) (x:V) (xs:AT) (v:Value) (us:AN) (Q:VK),Inv X BC G H s->yo x v->zR xs us->r x xs H Q->
  Af X (call (.builtin id) (v::us)) (EP X BC G Q) X.xe s
section
variable {X:Cx}{a b:Expr}{ta tb:TE}{pos:Pos}
def zvm(B:IxR X r)(F:PE X a ta)(J:PE X b tb)(hs:zfG b):PE X (.Subscript a b pos) (tOp r ta tb):=by intro BC s G H Q I h;show Subscript_ (zt8 F J I h λv u O x y H2 I2 U Y q=>B a b BC O G H2 x y v u Q I2 U Y q (hs _ _))
def ztT (K:AH):R2:=λx y H Q=>∃p xs i v,x = .ref p/\y = .int i/\SqL K H p xs/\atI xs i=some v/\Q v H
def zsD (K:AH):R2:=λx y H Q=>∃p xs i v,x = .ref p/\y = .int i/\SqT K H p xs/\atI xs i=some v/\Q v H
def zoF:IxR X (ztT X.K):=by
 intro value B BC s G H x y v u Q I Z ry h hs;obtain⟨p,xs,i,z,rfl,rfl,hq,he,q⟩:=h;cases Z;obtain⟨t,rfl⟩:=ry;obtain⟨F,r,pl,hz⟩:=I.list hq;obtain⟨j,h1,h2,h3,h4,h5⟩:=zih he;obtain⟨w,U,J⟩:=r.get h2;have hl:=r.length;have hn:=zg0;have fin:EP X BC G Q w s:=#[z,H,I,J,q];by_cases Y:0<=i
 have O:i.toNat=j:=by
  rw[seqIndex_of Y h5] at h1;right
 show item_listR pl.isList Y (by lia) (by rw[O];simpa using U) fin hs
 have O:(i+(F.toArray.size:Int)).toNat=j:=by
  rw[seqIndex_neg (by lia) h4] at h1;right
 show subscriptTail_builtinR (x:=w) pl.isList.typeIs slot_list_getitem.lookup
  (wpAny_getItem_list_neg (Q:=λr s'=>r=w/\EP X BC G Q r s') pl.isList (by lia) (by right) (by lia) (by rw[O];simpa using U) #[BB,fin]) hs
def zrw:IxR X (zsD X.K):=by
 intro value B BC s G H x y v u Q I J O h hs;obtain⟨p,xs,i,z,rfl,rfl,U,Y,q⟩:=h;cases J;obtain⟨t,rfl⟩:=O;obtain⟨Z,r,pl,hz⟩:=I.tuple U;obtain⟨j,h1,h2,h3,h4,h5⟩:=zih Y;obtain⟨w,ew,F⟩:=r.get h2;have hl:=r.length;have hn:=zg0;have fin:EP X BC G Q w s:=#[z,H,I,F,q]
 show subscriptTail_builtinR (x:=w) pl.typeIs slot_tuple_getitem.lookup
  (getItem_tuple (j:=j) (Q:=λr s'=>r=w/\EP X BC G Q r s') pl (by lia) (by lia) (by right) (by simpa using ew) #[BB,fin]) hs
def zhI (q:AN)(n j:Nat)(u:Value):Obj.mapSeq (·.setIfInBounds j u) { cls:=.type "list",data:=.seq q.toArray n }={ cls:=.type "list",data:=.seq (q.set j u).toArray n }:=by simp[Obj.mapSeq]
def Inv.lst {BC:AB}{G:St}{H:Hp}{s:AZ}{p:Addr}{xs:AT}(I:Inv X BC G H s)(h:H p=some (.lst xs)) :
  ∃ (q:AN) (n:Nat),zR xs q/\s.heap.get? p=some { cls:=.type "list",data:=.seq q.toArray n }/\xs.length<=sizeLine:=by
 obtain⟨z,q,n,r,e⟩:=I.hok p _ h;show#[q,n,r,e,z]
def Inv.lstUpd{BC:AB}{G:St}{H:Hp}{s:AZ}{p:Addr}{xs ys:AT}{B its':AN}{f:Obj->Obj}(I:Inv X BC G H s)(h:H p=some (.lst xs))(O:s.heap.get? p=some { cls:=.type "list",data:=.seq B.toArray n })(J:f { cls:=.type "list",data:=.seq B.toArray n }={ cls:=.type "list",data:=.seq its'.toArray F })(r:zR ys its')(U:ys.length<=sizeLine)(t:Nat) :
  Inv X BC G (upd H p (.lst ys)) { s with heap:=s.heap.update p f,toks:=t }:=by
 have e:(s.heap.update p f).get? p=some { cls:=.type "list",data:=.seq its'.toArray F }:=by rw[bu f O (by rw[J] <;> rfl),J]
 show I.write (x:=p) (e:=p) (by rw[h];trivial) (.inl BB) (λb u Y q=>(bG _ _ (Ne.symm Y)).trans q) #[_,e] ?_;show#[U,its',F,r,e]
def zvx:V->V->V->Hp->(Hp->Prop)->Prop:=λo i v H Q=>∃p xs k j,o = .ref p/\i = .int k/\H p=some (.lst xs)/\ixN xs.length k=some j/\Q (upd H p (.lst (xs.set j v)))
def zmB:PSet X zvx:=by
 intro BC s G H o i v ov iv u Q I Y Z rv h;obtain⟨p,xs,k,j,rfl,rfl,O,hj,q⟩:=h;cases Y;obtain⟨t,rfl⟩:=Z;obtain⟨B,n,r,F,hz⟩:=I.lst O;obtain⟨h1,h2,h3,h4⟩:=zjf hj;have hl:=r.length;have hn:=zg0
 have I':Inv X BC G (upd H p (.lst (xs.set j v))) { s with heap:=s.heap.update p (Obj.mapSeq (·.setIfInBounds j u)) }:=
  I.lstUpd O F (zhI B n j u) (r.set rv j) (by right) s.toks
 by_cases U:0<=k
 have J:k.toNat=j:=by
  rw[seqIndex_of U h4] at h1;right
 show PySem.W.ki_setAt F U (by lia) (by right) (by rw[J];show#[_,I',q])
 have J:(k+(B.toArray.size:Int)).toNat=j:=by
  rw[seqIndex_neg (by lia) h3] at h1;right
 show PySem.W.ki_setBack F (by lia) (by right) (by lia) (by rw[J];show#[_,I',q])
def zfs (lo hi:AQ)(n:Nat):(sliceBounds lo hi none n).1=((HT.sIx n 0 lo:Nat):Int)/\(sliceBounds lo hi none n).2.1=((HT.sIx n n hi:Nat):Int)/\(sliceBounds lo hi none n).2.2=1:=by
 show#[?_,?_,BB]
 ·cases lo with
  | none=>simp[sliceBounds,HT.sIx]
  | some i=>
   simp only[sliceBounds,HT.sIx,Option.getD_none,show (1:Int) > 0 by ext,if_true];by_cases h:i<0
   ·simp only[h,if_true] <;> lia
   ·simp only[h,if_false] <;> lia
 ·cases hi with
  | none=>simp[sliceBounds,HT.sIx]
  | some i=>
   simp only[sliceBounds,HT.sIx,Option.getD_none,show (1:Int) > 0 by ext,if_true];by_cases h:i<0
   ·simp only[h,if_true] <;> lia
   ·simp only[h,if_false] <;> lia
def zeu (q:AN)(lo hi:AQ):slicePick q.toArray lo hi none=((q.drop (HT.sIx q.length 0 lo)).take (HT.sIx q.length q.length hi - HT.sIx q.length 0 lo)).toArray:=by obtain⟨h1,h2,B⟩:=zfs lo hi q.toArray.size;unfold slicePick;rw[h1,h2,B];simp only[sliceRange_one,pick_run,aP] <;> rfl
def rSlL (K:AH):V->AQ->AQ->Hp->VK->Prop:=λx lo hi H Q=>∃a xs,x = .ref a/\SqL K H a xs/\∀p,H p=none->Q (.ref p) (upd H p (.lst (zdk xs lo hi)))
def zqk:SlR X (rSlL X.K):=by intro BC s G H x v vl vu lo hi sl Q I J hs pl O h;obtain⟨a,xs,rfl,U,q⟩:=h;cases J;obtain⟨Y,r,F,Z⟩:=I.list U;have B:=r.length;show#["list",_,slot_list_getitem.lookup,F.isList.typeIs,?_];show wpAny_getItem_list_slice F.isList hs pl O .none (by simp) ?_ (by grind);rw[zeu,<- B];show#[.ref s.heap.objs.size,_,I.laid (t':=s.toks) (o:=.lst (zdk xs lo hi)) (λb ob q=>ae _ q) (ai _) ?_,BB,q _ (I.hok.fresh (ai _))];show#[aq (zau xs lo hi) Z,_,0,(r.drop (HT.sIx xs.length 0 lo)).take (HT.sIx xs.length xs.length hi - HT.sIx xs.length 0 lo),av _ BB]
def zc3:V->Bool
 | .non=>true
 | .bl _=>true
 | .int _=>true
 | .str _=>true
 | _=>false
def eqV:V->V->Bool
 | .non,.non=>true
 | .bl a,.bl b=>a==b
 | .bl a,.int b=>(if a then 1 else 0)==b
 | .int a,.bl b=>a==(if b then 1 else 0)
 | .int a,.int b=>a==b
 | .str a,.str b=>a==b
 | _,_=>false
def zrk(B:yo y u)(q:yo x v)(I:zc3 y=true)(F:zc3 x=true):SeqAt.EqAt A s u v (eqV y x):=by
 cases y with
 | non=>
  cases B
  cases x with
  | non=>cases q;show SeqAt.EqAt.same _
  | bl b=>cases q;show SeqAt.EqAt.none_bool b
  | int b=>obtain⟨t,rfl⟩:=q;show SeqAt.EqAt.none_int b t
  | str b=>obtain⟨t,rfl⟩:=q;show SeqAt.EqAt.none_str b t
  | _=>show absurd (show false=true from F) az
 | bl a=>
  cases B
  cases x with
  | non=>cases q;show SeqAt.EqAt.bool_none a
  | bl b=>cases q;show SeqAt.EqAt.bool_bool a b
  | int b=>obtain⟨t,rfl⟩:=q;show SeqAt.EqAt.bool_int a b t
  | str b=>obtain⟨t,rfl⟩:=q;show SeqAt.EqAt.bool_str a b t
  | _=>show absurd (show false=true from F) az
 | int a=>
  obtain⟨t',rfl⟩:=B
  cases x with
  | non=>cases q;show SeqAt.EqAt.int_none a t'
  | bl b=>cases q;show SeqAt.EqAt.int_bool a t' b
  | int b=>obtain⟨t,rfl⟩:=q;show SeqAt.EqAt.int_int a t' b t
  | str b=>obtain⟨t,rfl⟩:=q;show SeqAt.EqAt.int_str a t' b t
  | _=>show absurd (show false=true from F) az
 | str a=>
  obtain⟨t',rfl⟩:=B
  cases x with
  | non=>cases q;show SeqAt.EqAt.str_none a t'
  | bl b=>cases q;show SeqAt.EqAt.str_bool a t' b
  | int b=>obtain⟨t,rfl⟩:=q;show SeqAt.EqAt.str_int a t' b t
  | str b=>obtain⟨t,rfl⟩:=q;show SeqAt.EqAt.str_str a t' b t
  | _=>show absurd (show false=true from F) az
 | _=>show absurd (show false=true from I) az
def eqU (x:V)(u:Value):Bool:=match u with
 | .none=>eqV .non x
 | .bool b=>eqV (.bl b) x
 | .int i _=>eqV (.int i) x
 | .str z _=>eqV (.str z) x
 | _=>false
def zm7(r:yo y u)(f:zc3 y=true):eqU x u=eqV y x:=by
 cases y with
 | non=>cases r;rfl
 | bl b=>cases r;rfl
 | int i=>obtain⟨t,rfl⟩:=r;rfl
 | str z=>obtain⟨t,rfl⟩:=r;rfl
 | _=>show absurd (show false=true from f) az
theorem zb5:∀ {xs:AT} {us:AN},zR xs us->xs.all zc3=true->us.any (eqU x)=xs.any λy=>eqV y x
 | _,_,.nil,_=>rfl
 | y::xs,u::us,.cons r t,f=>by rw[dF,bE] at f;rw[cY,cY,zm7 r f.1,zb5 t f.2]
theorem zaO {A:Ae}{s:AZ}{x:V}{v:Value}(B:yo x v)(F:zc3 x=true):∀ {xs:AT} {us:AN},zR xs us->xs.all zc3=true->∀u∈us,SeqAt.EqAt A s u v (eqU x u)
 | _,_,.nil,_=>by grind
 | y::xs,u::us,.cons r t,f=>λI q=>by
  rw[dF,bE] at f;rcases ay.mp q with rfl | q;rw[zm7 r f.1];show zrk r B f.1 F;show zaO B F t f.2 I q
def inV (x:V)(xs:AT):Bool:=xs.any λy=>eqV y x
def rIn (K:AH)(q:Bool):R2:=λx y H Q=>∃p xs,y = .ref p/\(SqL K H p xs\/SqT K H p xs)/\zc3 x=true/\xs.all zc3=true/\Q (.bl (if q then !inV x xs else inV x xs)) H
def zjS:OpR X (compareOp .In) (rIn X.K false):=by
 intro BC s G H x y v u Q I O Y h;obtain⟨p,xs,rfl,F,U,fs,q⟩:=h;cases Y;rcases F with F | F;obtain⟨B,r,pl,Z⟩:=I.list F;show SeqAt.in_listAt (eqU x) pl.isList (λw J=>zaO O U r fs w (by simpa using J)) #[.bl _,H,I,BB,?_];rw[show B.toArray.any (eqU x)=B.any (eqU x) by simp,zb5 r fs];show q;obtain⟨B,r,pl,Z⟩:=I.tuple F;show SeqAt.in_tupleAt (eqU x) pl (λw J=>zaO O U r fs w (by simpa using J)) #[.bl _,H,I,BB,?_];rw[show B.toArray.any (eqU x)=B.any (eqU x) by simp,zb5 r fs];show q
def zff:OpR X (compareOp .NotIn) (rIn X.K true):=by
 intro BC s G H x y v u Q I O Y h;obtain⟨p,xs,rfl,F,U,fs,q⟩:=h;cases Y;rcases F with F | F;obtain⟨B,r,pl,Z⟩:=I.list F;show SeqAt.notIn_listAt (eqU x) pl.isList (λw J=>zaO O U r fs w (by simpa using J)) #[.bl _,H,I,BB,?_];rw[show B.toArray.any (eqU x)=B.any (eqU x) by simp,zb5 r fs];show q;obtain⟨B,r,pl,Z⟩:=I.tuple F;show SeqAt.notIn_tupleAt (eqU x) pl (λw J=>zaO O U r fs w (by simpa using J)) #[.bl _,H,I,BB,?_];rw[show B.toArray.any (eqU x)=B.any (eqU x) by simp,zb5 r fs];show q
def zeN:zdJ X (.type "list") (λxs H Q=>∃p ys,xs=[.ref p]/\(SqL X.K H p ys\/SqT X.K H p ys)/\∀l,H l=none->Q (.ref l) (upd H l (.lst ys))):=by
 intro BC s G H xs us Q I r h;obtain⟨p,ys,rfl,O,q⟩:=h;obtain⟨u,rfl,rx⟩:=za7 r;cases rx
 have fin:∀ (B:AN),zR ys B->ys.length<=sizeLine->∀ (h':Heap) (F:Nat),(∀b o',s.heap.get? b=some o'->h'.get? b=some o')->
   h'.get? s.heap.objs.size=some { cls:=.type "list",dict:=none,data:=.seq B.toArray F,slots:=#v[] }->EP X BC G Q (.ref s.heap.objs.size) { s with heap:=h' }:=λB J U h' F Y e=>
  #[.ref s.heap.objs.size,_,I.laid (t':=s.toks) Y (ai _) (show yk X.prog X.w _ h' _ (.lst ys) from #[U,B,F,J,e]),BB,q _ (I.hok.fresh (ai _))]
 rcases O with O | O;obtain⟨B,J,pl,U⟩:=I.list O;have Z:=J.length;obtain⟨o,ho,hc,n,hd⟩:=pl.isList;show call_list_seq p (.inl BB) ho hc hd (λh' F Y e=>fin B J U h' F Y e) (by grind);obtain⟨B,J,pl,U⟩:=I.tuple O;have Z:=J.length;obtain⟨o,ho,hc,n,hd⟩:=pl;show call_list_seq p (.inr BB) ho hc hd (λh' F Y e=>fin B J U h' F Y e) (by grind)
def zdM:zdJ X (.type "tuple") (λxs H Q=>∃p ys,xs=[.ref p]/\((SqL X.K H p ys/\∀l,H l=none->Q (.ref l) (upd H l (.tup ys)))\/(SqT X.K H p ys/\Q (.ref p) H))):=by
 intro BC s G H xs us Q I r h;obtain⟨p,ys,rfl,h⟩:=h;obtain⟨u,rfl,U⟩:=za7 r;cases U;rcases h with ⟨hq,q⟩ | ⟨hq,q⟩;obtain⟨B,F,pl,J⟩:=I.list hq;have O:=F.length;show call_tuple_list pl.isList (λh' Y=>?_) (by grind);have I1:Inv X BC G H { s with heap:=h' }:=I.kept (t':=s.toks) Y
 have I2:Inv X BC G (upd H h'.objs.size (.tup ys)) { s with heap:=h'.push { cls:=.type "tuple",data:=.seq B.toArray } }:=
  I1.laid (t':=s.toks) (λb o e=>ae _ e) (ai _) (show yk X.prog X.w _ _ _ (.tup ys) from #[J,B,F,uG.new _ _])
 show#[.ref h'.objs.size,_,I2,BB,q _ (I1.hok.fresh (ai _))];obtain⟨B,F,pl,J⟩:=I.tuple hq;show call_tuple_same pl #[.ref p,H,I,BB,q]
def tyV (K:AH)(T:String)(x:V)(H:Hp):Prop:=match x with
 | .str _=>T = "str"
 | .int _=>T = "int"
 | .ref p=>(T = "list" /\ ∃xs,SqL K H p xs)\/(T = "tuple" /\ ∃o,K.lookup p=some o/\o.cls = .type "tuple" /\ o.dict=none)\/
   (T = "dict" /\ ((∃BD,H p=some (.dK BD))\/∃BD,H p=some (.dT BD)))\/(T = "set" /\ ∃S n,H p=some (.set S n))
 | _=>False
def zti {BC:AB}{G:St}{H:Hp}{s:AZ}{T:String}{x:V}{v:Value}(I:Inv X BC G H s)(r:yo x v)(ty:tyV X.K T x H) :
  s.TypeIs v T/\∀a,v = .ref a->∃ob,s.heap.get? a=some ob/\ob.dict=none:=by
 cases x with
 | str z=>
  obtain⟨t,rfl⟩:=r;cases (show T = "str" from ty);show#[typeIs_str s z t,λ_ e=>nomatch e]
 | int i=>
  obtain⟨t,rfl⟩:=r;cases (show T = "int" from ty);show#[fD s i t,λ_ e=>nomatch e]
 | ref p=>
  cases r;rcases ty with ⟨rfl,xs,hq⟩ | ⟨rfl,o,q,hc,B⟩ | ⟨rfl,q⟩ | ⟨rfl,S,n,q⟩;obtain⟨J,_,pl,_⟩:=I.list hq;show#[pl.isList.typeIs,λa e=>?_];cases e;obtain⟨o,n,e,c,B,_⟩:=pl;show#[o,e,B];show#[#[o,I.kIn p o q,hc],λa e=>?_];cases e;show#[o,I.kIn _ o q,B]
  have z:∃o,s.heap.get? p=some o/\o.ExactDict:=by
   rcases q with ⟨BD,q⟩ | ⟨BD,q⟩;obtain⟨_,_,_,_,o,_,_,e,ex,_⟩:=I.hok p _ q;show#[o,e,ex];obtain⟨_,_,_,_,o,_,_,e,ex,_⟩:=I.hok p _ q;show#[o,e,ex]
  obtain⟨o,e,ex⟩:=z;show#[#[o,e,ex.1],λa F=>?_];cases F;show#[o,e,ex.2.1];obtain⟨o,_,_,_,e,ex,_⟩:=I.hok p _ q;show#[#[o,e,ex.1],λa F=>?_];cases F;show#[o,e,ex.2.1]
 | _=>show False.elim ty
def tBM (K:AH)(T:String)(r:V->AT->Hp->VK->Prop)(to:TE)(t:TA):TE:=λG H Q=>to G H λx H1=>tyV K T x H1/\t G H1 λxs H2=>r x xs H2 Q
variable {o e:Expr}{es:AO}{to:TE}{t:TA}{name:Str}{apos cpos:Pos}{T id:String}{r:V->AT->Hp->VK->Prop}
def zr6 (pa:PlainAttrs T)(J:Slot T name id)(U:typeOf (.builtin id)=pure (.type "method_descriptor"))(hm:MtR X id r)(ho:PE X o to)(ha:PA X (e::es) t)
  (B:attributeBase o name X.env (eval o X.env)=eval o X.env:=by rfl)
  (O:((backTo cpos (starEach (e::es) X.env)).all (λx=>!x.1)&&(backToKw cpos (keywordEach [] X.env)).all (λx=>x.1.isSome)
   && decide ((e::es).length+([]:List Keyword).length+(if ([]:List Keyword).isEmpty then 0 else 1)<30))=true:=by rfl)
  (F:(apos.endLine==cpos.line)=true:=by rfl) (hs:starEach (e::es) X.env=(false,eval e X.env)::starEach es X.env:=by rfl) (q:(backTo cpos (starEach es X.env)).any (·.1)=false:=by rfl) :
  PE X (.Call (.Attribute o name apos) (e::es) [] cpos) (tBM X.K T r to t):=by
 intro BC s G H Q I h;show wpAny_Call_method_late B O F BB (thn (ho BC s G H _ I h)  ?_);rintro v s1 ⟨x,H1,I1,Y,ty,q1⟩;obtain⟨h1,h2⟩:=zti I1 Y ty;show#[T,id,pa,J,U,h1,h2,?_];have Z:=ha cpos BC s1 G H1 _ I1 q1;rw[hs] at Z ⊢;show Calls.callWith_builtin (by change (false || (backTo cpos (starEach es X.env)).any (·.1))=false;rw[q] <;> rfl) (Calls.evalArgs_plain ?_);show thn Z <| by rintro us s2 ⟨vs,H2,I2,r2,q2⟩;show hm BC s2 G H2 x vs v us Q I2 Y r2 q2
end
def MtM (X:Cx)(id:String)(r:V->AT->Hp->VK->Prop):Prop:=
 ∀ (BC:AB) (s:AZ) (G:St) (H:Hp) (x:V) (xs:AT) (v:Value) (us:AN) (Q:VK),Inv X BC G H s->yo x v->zR xs us->r x xs H Q->
  Af X (call (.builtin id) (v::us)) (EP X BC G Q) X.xe s
theorem zR.one:∀ {x:V} {us:AN},zR [x] us->∃u,us=[u]/\yo x u
 | _,_,.cons r .nil=>#[_,BB,r]
theorem zR.rep(h:zR xs us):∀k:Nat,zR (List.replicate k xs).flatten (List.replicate k us).flatten
 | 0=>.nil
 | k+1=>by rw[cy,cy,dG,dG];show zR.append h (zR.rep h k)
theorem zcc (q:AN):∀ (k:Nat) (acc:AN),
  List.foldl (λB F=>B++F) acc.toArray (List.replicate k q.toArray)=(acc++(List.replicate k q).flatten).toArray
 | 0,acc=>by simp
 | k+1,acc=>by
  have e:acc.toArray++q.toArray=(acc++q).toArray:=by simp
  have I:(acc++q)++(List.replicate k q).flatten=acc++(List.replicate (k+1) q).flatten:=by grind
  rw[<- I,<- zcc q k (acc++q),<- e,cy,List.foldl_cons]
section
variable {X:Cx}{BC:AB}{G:St}{H:Hp}{s:AZ}{l b:Addr}{xs ys zs:AT}
def Inv.lset{B its':AN}{f:AK->AK}(I:Inv X BC G H s)(F:H l=some (.lst xs))(e:s.heap.get? l=some { cls:=.type "list",data:=.seq B.toArray n })(J:f B.toArray=its'.toArray)(O:zR ys its')(U:ys.length<=sizeLine) :
  Inv X BC G (upd H l (.lst ys)) { s with heap:=s.heap.update l (Obj.mapSeq f),toks:=t' }:=by
 have q:=PySem.IsL.update e f;rw[J] at q;show I.write (x:=l) (e:=l) (by rw[F];show trivial) (.inl BB) (λb' u Y Z=>(bG s.heap (Obj.mapSeq f) (Ne.symm Y)).trans Z) #[_,q] ?_;show#[U,its',_,O,q]
def Inv.lnew(I:Inv X BC G H s)(F:zR ys B)(J:ys.length<=sizeLine) :
  Inv X BC G (upd H s.heap.objs.size (.lst ys)) { s with heap:=s.heap.push { cls:=.type "list",data:=.seq B.toArray },toks:=t' }:=
 I.laid (λ_ _ q=>ae _ q) (ai _) #[J,B,0,F,av _ BB]
def Inv.fresh (I:Inv X BC G H s):H s.heap.objs.size=none:=I.hok.fresh (ai _)
def Inv.lstM (I:Inv X BC G H s)(B:H l=some (.lst xs)):xs.length<=sizeLine/\∃ (q:AN) (n:Nat),zR xs q/\xs.length=q.length/\s.heap.get? l=some { cls:=.type "list",data:=.seq q.toArray n }:=by obtain⟨z,q,n,r,e⟩:=I.hok l _ B;show#[z,q,n,r,r.length,e]
def zl0(h:n<=sizeLine):Builtin.List.listTooLong n=false:=by
 unfold Builtin.List.listTooLong;right
def zgl:V->AT->Hp->VK->Prop:=λx vs H Q=>∃l xs y,x = .ref l/\vs=[y]/\H l=some (.lst xs)/\xs.length<sizeLine/\Q .non (upd H l (.lst (xs++[y])))
def ze4:MtM X "list.append" zgl:=by intro BC s G H x vs v us Q I O U h;obtain⟨l,xs,y,rfl,rfl,J,Z,q⟩:=h;cases O;obtain⟨u,rfl,Y⟩:=U.one;obtain⟨z,B,n,r,hl,e⟩:=I.lstM J;show eD F.slot_list_append #[_,e,BB] F.entry_list_append (F.args_list_append_2 _ _) (PySem.list_append l B.toArray n u (by grind)) #[e,?_];show#[.non,_,I.lset (its':=B++[u]) J e (by simp) (r.append (.cons Y .nil)) ?_,BB,q];rw[aj,eP];lia
def zp3:V->AT->Hp->VK->Prop:=λx vs H Q=>∃l b xs zs,x = .ref l/\vs=[.ref b]/\H l=some (.lst xs)/\H b=some (.lst zs)/\xs.length+zs.length<=sizeLine/\Q .non (upd H l (.lst (xs++zs)))
def zjH:MtM X "list.extend" zp3:=by
 intro BC s G H x vs v us Q I Y Z h;obtain⟨l,b,xs,zs,rfl,rfl,U,hB,hz,q⟩:=h;cases Y;obtain⟨u,rfl,ru⟩:=Z.one;cases ru;obtain⟨z,J,n,r,hl,e⟩:=I.lstM U;obtain⟨z2,B,n2,r2,ac,e2⟩:=I.lstM hB;have hsz:J.toArray.size+B.toArray.size<=sizeLine:=by rw[aP,aP];lia
 have O:¬ (!J.toArray.isEmpty&&Builtin.List.listTooLong (J.toArray.size+B.toArray.size))=true:=by
  rw[zl0 hsz,Bool.and_false];grind
 show eD F.slot_list_extend #[_,e,BB] F.entry_list_extend (F.args_list_extend_2 _ _)
  (AutoSeq1.list_extend_list_list_0 l J.toArray n b B.toArray n2 O (by lia) (by lia)) #[e,e2,?_]
 show#[.non,_,I.lset (its':=J++B) U e (by simp) (r.append r2) ?_,BB,q];right
def rCat:R2:=λx y H Q=>∃l b xs zs,x = .ref l/\y = .ref b/\H l=some (.lst xs)/\H b=some (.lst zs)/\xs.length+zs.length<=sizeLine/\∀p,H p=none->Q (.ref p) (upd H p (.lst (xs++zs)))
def zrR:OpR X (binaryOp .Add) rCat:=by
 intro BC s G H x y v u Q I J O h;obtain⟨l,b,xs,zs,rfl,rfl,U,Y,hz,q⟩:=h;cases J;cases O;obtain⟨z,F,n,r,hl,e⟩:=I.lstM U;obtain⟨z2,B,n2,Z,ac,e2⟩:=I.lstM Y;show PySem.P.add_list e e2 ?_ (by right);have ea:F.toArray++B.toArray=(F++B).toArray:=by simp
 rw[ea];show#[.ref _,_,I.lnew (t':=s.toks) (r.append Z) (by right),BB,q _ I.fresh]
def zjp {α:Type}(xs:List α)(k:Nat):(List.replicate k xs).flatten.length=k * xs.length:=by right
variable {prog:Aa}{w:Ab}{A:Ae}{E:AA}
end
end L2
namespace Att
open PySem.W PySem.Calls PyProof.Rows
def zci:∀ (ns:AG) (vs:AN),WellAll P h vs (ns.map WData.int)->IntsAre vs ns:=by
 intro ns
 induction ns with
 | nil=>
  intro vs w;rw[List.map_nil] at w;cases w;show .nil
 | cons n ns q=>
  intro vs w;rw[List.map_cons] at w
  cases w with
  | cons a b=>
   cases a;show .cons _ _ (q _ b)
def zko{l:OpenLaw}(hn:l.most=some n){P:Params}{h:Heap}{q:AN}(B:l.row.toRowW.claim.pre args=true)(J:WellAll P h q args) :
  ∃a vs ns,q=[Value.ref a]/\args=[WData.list (ns.map WData.int)]/\h.get? a=some { cls:=.type "list",data:=.seq vs.toArray }/\IntsAre vs ns/\ns.length<=n:=by
 have O:WShape.hasAll [] args [.list .int]=true:=(pre_splitW B).1;have U:l.pre.holds [] { args:=args }=true:=(pre_splitW B).2;obtain⟨d,r,rfl,h1,h2⟩:=hasAllW_cons O;obtain rfl:=hasAllW_nil h2;obtain⟨xs,rfl,Z⟩:=hasW_list h1;obtain⟨ns,rfl⟩:=items_int Z
 have F:ns.length<=n:=by
  unfold OpenLaw.pre at U
  have Y:(WTm.not (.lt (.lit (.int (n:Int))) (.len (.arg 0)))).holds [] { args:=[.list (ns.map .int)] }=true:=by
   have Y:=(holds_andW U).1;right
  have h5:=condW_of Y (w_not (w_lt w_lit (w_len_list (w_arg BB))));grind
 cases J with
 | cons w1 w2=>
  cases w2
  cases w1 with
  | list ho I=>show#[_,_,ns,BB,BB,ho,zci ns _ I,F]
def zj4 (l:OpenLaw)(args:List WData):l.row.toRowW.claim.post args (.bool true) args=true:=
 postW_of (r:=l.row.toRowW) (X:=(true==true))
  (show WShape.has [] (.bool true) .bool=true by first | rfl | decide | simp[WShape.has,WShape.arms,WShape.armsAll])
  (show (WTm.eq .res (.lit (.bool true))).value [] { args:=args,res:=some (.bool true),after:=args }=some (.bool (true==true)) from w_eq_bool (w_res BB) w_lit) BB
def attach_call{l:OpenLaw}{q:Aa}{F:AM}{XP:(AI)->Heap->Prop}{YP:Ab->Heap->Prop}{d:DefRec}(hn:l.most=some n)(ag:d.params.defaults=[])(U:∀ (w:Ab) (I B:AZ) (mg mb:AI) (fa:Addr) (o:Obj) (pm cd J:Value) (a:Addr) (vs:AN) (ns:AG),
   Ground q F [] XP w I mg mb B.heap->YP w B.heap->
   B.heap.get? fa=some o->o.data = .func (docDef d.name d.params d.body d.scope pm cd J)->B.heap.CodeRec cd d.name->mg d.name=some (.ref fa)->
   B.heap.get? a=some { cls:=.type "list",data:=.seq vs.toArray }->IntsAre vs ns->ns.length<=n->B.gens = #v[]->
   codeAny (model l.prog w) callerA (.call (.ref fa) #[[.ref a],[]]) (λr s'=>r = .ok (.ret (.bool true))/\OldK B.heap s'.heap/\s'.os=B.os/\AllBare s'.gens) B) :
  WalkO q F XP YP l.row.toRowW d [] (λf vs=>PySem.call f vs):=by
 intro w I B mg mb BG Y fa o pm cd J dV kV ho hd al hD an hg args a0 as Z a1 a2 ap a3;obtain rfl:dV = .none:=Dflts.none hD ag;obtain rfl:kV = .none:=Dflts.noKw hD;obtain⟨a,vs,ns,rfl,rfl,ac,O,ad⟩:=zko hn Z ap;show enter_call (codeAny_mono (U w I B mg mb fa o pm cd J a vs ns BG Y ho (fd_plain hd) al an ac O ad hg) λr s' hq=>?_);obtain⟨rfl,h2,h3,h4⟩:=hq;show#[.inl #[.bool true,.bool true,[],BB,λ_=>rfl,.bool true,zj4 l _,λ_=>#[List.Pairwise.nil,λ_ hm=>(nomatch hm)]],h2,h3,h4]
section
variable {prog:Aa}{w:Ab}{A:Ae}{E:AA}{s:AZ}{K:Frag}
def ledger (h:Heap)(L d:Addr):AB:=(List.range h.objs.size).filterMap λa=>if a=L\/a=d then none else (h.get? a).map λo=>(a,o)
end
end Att
namespace L2
open PyProof.Rows
theorem zfA:∀ {vs:AN} {ns:AG},IntsAre vs ns->zR (ns.map V.int) vs
 | _,_,.nil=>.nil
 | _,_,.cons n t h=>.cons #[t,BB] (zfA h)
def ztA (H:Hp):Prop:=∀b,H b=none\/∃o xs,H b=some (.frz o (.lst xs))
def zlN{P:Aa}{w:Ab}{K:AH}{mg mb:AI}{CX:CXT}{fa a:Addr}{fd:Ac}{sp:Sp}{B:AZ}{vs:AN}{ns:AG}(KX:K.In B.heap)(Z:B.heap.Ns mainGlobals mg)(J:B.heap.Ns builtinsNs mb)(ap:∀x:Str,x ≠ "__name__" -> mb x=bootBuiltins x)(ac:B.heap.NoLimit)(hg:B.gens = #v[])(ha:B.heap.get? a=some { cls:=.type "list",data:=.seq vs.toArray })(hi:IntsAre vs ns)(hl:ns.length<=sizeLine)(hr:Room k callerA)(F:∀base:Heap,K.In base->base.Ns mainGlobals mg->FnOk P w K mg base CX k fa fd [x] sp)(Y:∀ (s:AZ) (u:Value),BindsTo s fd #[[u],[]] [(x,u)])(as:∀H:Hp,ztA H->SqL K H a (ns.map V.int)->sp [.ref a] H (λv _=>v = .bl true) λ_ _ _=>False)(a0:∀H e s',CX [] H B (λ_ _ _=>False) e s'->False) :
  codeAny (model P w) callerA (.call (.ref fa) #[[.ref a],[]]) (λr s'=>r = .ok (.ret (.bool true))/\OldK B.heap s'.heap/\s'.os=B.os/\AllBare s'.gens) B:=by
 have rv:=zfA hi;have a2:=hi.length
 have U:∀H:Hp,ztA H->SqL K H a (ns.map V.int)->HOk P w H B.heap->(∀b,H b≠none->b=a)->(H a≠none->K.lookup a=none)->
   codeAny (model P w) callerA (.call (.ref fa) #[[.ref a],[]]) (λr s'=>r = .ok (.ret (.bool true))/\OldK B.heap s'.heap/\s'.os=B.os/\AllBare s'.gens) B:=by
  intro H hO hS ad hA hK;have I:∀ {b:Addr} {o:Obj},B.heap.get? b=some o->H b=none->(zlt B.heap H).get? b=some o:=λe n=>zlu e n;have a1:∀ {b:Addr} {o:Obj} {es:Array DictEntry} {ep:Nat},B.heap.get? b=some o->o.data = .dict es ep->H b=none:=λ{b o es ep} e d=>by grind
  have O:∀ {b:Addr} {m:AI},B.heap.Ns b m->(zlt B.heap H).Ns b m:=λ{b m} ⟨o,es,ep,e,d,r⟩=>#[o,es,ep,I e (a1 e d),d,r];have ag:K.In (zlt B.heap H):=λb o e=>I (KX b o e) (by grind);have hM:Mod K mg (zlt B.heap H):=#[ag,O Z,#[mb,O J,ap],let ⟨mc,h1,h2⟩:=ac;#[mc,O h1,h2]];have e0:Env0 P w K mg (zlt B.heap H) callerA [] B H:=#[BB,hM,λb o e=>zpc e,Nat.le_of_eq (zi0 _ _),trivial,λb J=>absurd (show b∈([]:AY) from J) (by simp),ad,.of_eq hg];show gE ((F _ ag (O Z)).run callerA [] B H #[[.ref a],[]] [.ref a] [.ref a] _ _ hr e0 (Y B (.ref a)) (.cons BB .nil) (as H hO hS)) λr s' h=>?_
  cases r with
  | error e=>show (a0 H e s' h).elim
  | ok fl=>
   cases fl with
   | next=>show False.elim h
   | brk=>show False.elim h
   | cont=>show False.elim h
   | ret u=>
    obtain⟨v,H',os,al,un,an,r',q⟩:=h;have q':v = .bl true:=q;subst q';obtain rfl:u=Value.bool true:=r';show#[BB,OldK.of_keep λb o e=>?_,os,al]
    cases q:H b with
    | none=>show un.keep b o e q (by intro z;show absurd (show b∈([]:AY) from z) (by simp)) (by simp)
    | some u=>
     rcases hO b with z | ⟨ob,xs,z⟩;grind;have z2:=un.frzs b ob _ z;obtain⟨e1,_⟩:=ad b _ z;obtain⟨e2,_⟩:=an b _ z2;grind
 cases hk:K.lookup a with
 | some o=>
  have e:=KX a o hk;rw[ha] at e;cases e;show U (λ_=>none) (λ_=>.inl BB) (.inr #[_,vs.toArray,_,hk,BB,BB,BB,by right,by simpa using rv]) (λb u z=>by lia) (by grind) λz=>absurd BB z
 | none=>
  show U (λb=>if b=a then some (.frz { cls:=.type "list",data:=.seq vs.toArray } (.lst (ns.map V.int))) else none) (λb=>?_) (.inl (.inr #[{ cls:=.type "list",data:=.seq vs.toArray },if_pos BB])) (λb u z=>?_) (λb z=>?_) λ_=>hk;by_cases J:b=a;show .inr #[_,_,if_pos J];show .inl (if_neg J);by_cases J:b=a;have z':=(if_pos J).symm.trans z;cases z';subst J;show#[ha,by right,vs,_,rv,ha];right;grind
def zqM{l:PySem.W.OpenLaw}{q:Aa}{I:AM}{XP:(AI)->Heap->Prop}{YP:Ab->Heap->Prop}{d:DefRec}{K:Params->AH}{CX:Ab->CXT}{sp:Ab->Sp}(hn:l.most=some n)(Z:n<=sizeLine)(ac:d.params.defaults=[])(hr:Room k callerA)(hY:∀ (w:Ab) (h:Heap),YP w h->(K w.params).In h)(F:∀ (w:Ab) (mg:AI) (fa:Addr) (h:Heap),(K w.params).In h->h.Ns mainGlobals mg->mg d.name=some (.ref fa)->
   ∃fd:Ac,(∀ (s:AZ) (u:Value),BindsTo s fd #[[u],[]] [(x,u)])/\
    ∀base:Heap,(K w.params).In base->base.Ns mainGlobals mg->FnOk l.prog w (K w.params) mg base (CX w) k fa fd [x] (sp w))(ad:∀ (w:Ab) (H:Hp) (a:Addr) (ns:AG),ns.length<=n->ztA H->SqL (K w.params) H a (ns.map V.int)->sp w [.ref a] H (λv _=>v = .bl true) λ_ _ _=>False)(ag:∀ (w:Ab) (H:Hp) (s:AZ) (e:Value) (s':AZ),CX w [] H s (λ_ _ _=>False) e s'->False) :
  PySem.W.WalkO q I XP YP l.row.toRowW d [] (λf vs=>PySem.call f vs):=by
 show Att.attach_call hn ac λw an O mg mb fa o pm cd ap a vs ns BG Y ho hd as al U J B hg=>?_;have KX:=hY w _ Y;obtain⟨fd,hb,hF⟩:=F w mg fa _ KX BG.T.g al;show zlN KX BG.T.g BG.T.b BG.T.builtins BG.T.nolimit hg U J (aq B Z) hr hF hb (λH hO hS=>ad w H a ns B hO hS) λH e s'=>ag w H O e s'
def yb (s:Stmt):Arguments:=match s with
 | .FunctionDef _ a _ _ _ _ _ _ _ _=>a
 | _=>{ posonlyargs:=[],args:=[],vararg:=none,kwonlyargs:=[],kw_defaults:=[],kwarg:=none,defaults:=[] }
def zC (s:Stmt):List Stmt:=match s with
 | .FunctionDef _ _ b _ _ _ _ _ _ _=>b
 | _=>[]
def zd (s:Stmt):Scope:=match s with
 | .FunctionDef _ _ _ _ _ _ q _ _ _=>q
 | _=>{ kind:=.function,names:=[],isGenerator:=false,isCoroutine:=false }
abbrev CX0:CXT:=λ_ _ _ _ _ _=>False
abbrev E0:XK:=λ_ _ _=>False
def zjY:zdf CX0 X E0:=λ_ _ _ _ _ _ _ h=>h.elim
structure Fun (K:AH)(x qual:Str)(st:Stmt)(f:Addr)(fd:Ac):Prop where
 ex:∃ (oc:Value) (od:Option Addr) (kV doc pm:Value) (an:Option Addr) (cdv ct:Value) (osl:Array AJ),
  fd=PySem.W.fnOf x qual (yb st) (zC st) (zd st) .none kV doc pm an cdv ct/\K.lookup f=some #[oc,od,.func fd,osl]/\PySem.W.codeIn K cdv qual=true
 kp:PySem.W.keepIn K (.ref f)=true
section
variable {P:Aa}{w:Ab}{K:AH}{mg:AI}{base:Heap}
def Fun.ok{x I:Str}{st:Stmt}{f:Addr}{fd:Ac}{N ps:AM}{sp:Sp}(F:Fun K x I st f fd)(S:FnScope N ps (zd st))(U:∀vs H Q E,sp vs H Q E->vs.length=ps.length)(O:∀ (J:Value) (A:Ae) (B:List Env) (s:AZ) (H:Hp) (vs:AT) (Q:VK) (E:XK),Room k (A.deeper (envOfC I (zd st) s.heap.objs.size f J))->sp vs H Q E->
   ∃t,PSs (zeG CX0 P w K mg base N I (zd st) f J A B s H E).nox (zC st) t/\t { nx:=λ_ H'=>Q .non H',rt:=Q } (xx N vs) H):FnOk P w K mg base CX0 (k+1) f fd ps sp:=by
 obtain⟨oc,od,kV,ac,pm,an,J,ct,ad,rfl,lk,Y⟩:=F.ex;show zro lk Y S U λA B s H vs Q E hr Z=>?_;obtain⟨t,h,q⟩:=O J A B s H vs Q E hr Z;show#[t,h.nox,q]
def Fun.binds {x q:Str}{st:Stmt}{f:Addr}{fd:Ac}{ps:AM}(F:Fun K x q st f fd)
  (h:∀ (kV B J:Value) (O:Option Addr) (I ct:Value) (us:AN),us.length=ps.length->bindArgs (PySem.W.fnOf x q (yb st) (zC st) (zd st) .none kV B J O I ct) #[us,[]]=pure (ps.zip us)):zad K fd ps []:=by
 obtain⟨Z,od,kV,B,J,O,I,ct,U,rfl,lk,Y⟩:=F.ex;show .all (h kV B J O I ct)
def zgP{x q:Str}{st:Stmt}{f:Addr}{Y J:Option Addr}{kV F O B ct:Value}(l:K.lookup f=some #[U,Y,.func (PySem.W.fnOf x q (yb st) (zC st) (zd st) .none kV F O J B ct),I])(c:PySem.W.codeIn K B q=true)(k:PySem.W.keepIn K (.ref f)=true):Fun K x q st f (PySem.W.fnOf x q (yb st) (zC st) (zd st) .none kV F O J B ct):=#[#[U,Y,kV,F,O,J,B,ct,I,BB,l,c],k]
end
def zlv(q:Room k A):A.units+1<cLine:=bg (Nat.add_le_add_left (by decide:1<=64) _) q.units
def zcW(h:n<=1000):n<sizeLine:=bg h (by ext)
section
variable {X:Cx}
def pv (i:Nat){x:Str}{pos:Pos}(B:X.N[i]?=some x:=by rfl)(F:Vis X.env.scope x:=by fail"v")(I:Ah x:=by ext)
  (q:(x==("__classdict__" : Str))=false:=by ext):PE X (.Name x pos) (za4 i):=zns B F I q
end
def zrv {A B:Prop}(h:B):if false=true then A else B:=by grind
def iteT {A B:Prop}(h:A):if true=true then A else B:=by grind
def znb {c A B:Prop}[Decidable c](h1:c->A)(h2:¬ c->B):if c then A else B:=by grind
def yT (H H':Hp):Prop:=∀b o,H b=some o->H' b=some o
def yT.free(e:yT H H')(h:H' l=Option.none):H l=Option.none:=by
 cases q:H l with
 | none=>rfl
 | some o=>
  rw[e l o q] at h;cases h
section
variable {κ:Type}[DecidableEq κ]
variable {X:Cx}
def zfM:zdJ X (.builtin "isinstance") (λxs H Q=>∃x T t b,xs=[x,.ty T]/\TyOf X.K H x t/\PySem.W.kitOne X.K t (.type T)=some b/\Q (.bl b) H):=by intro BC s G H xs us Q I r h;obtain⟨x,T,t,b,rfl,ty,e,q⟩:=h;obtain⟨u,c,rfl,B,F⟩:=zv7 r;cases F;show zjb I B ty e λtk=>#[.bl b,H,I.tok tk,BB,q]
def zmn (K:AH):R2:=λx y H Q=>∃a b xs ys,x = .ref a/\y = .ref b/\H a=some (.tup xs)/\H b=some (.tup ys)/\xs.length+ys.length<=sizeLine/\
 ∀p H',H' p=some (.tup (xs++ys))->yT H H'->Q (.ref p) H'
def zpf:OpR X (binaryOp .Add) (zmn X.K):=by
 intro BC s G H x y v u Q I rx ry h;obtain⟨a,b,xs,ys,rfl,rfl,ha,Y,hz,q⟩:=h;by_cases hx:xs=[]
 ·subst hx;cases rx;cases ry;obtain⟨B,r1,p1,_⟩:=I.tuple (.of ha);obtain⟨F,r2,p2,_⟩:=I.tuple (.of Y);obtain⟨⟨cls,dd,data,sl⟩,ho,hc,n,hd⟩:=id p1;obtain⟨⟨ag,Z,ac,ad⟩,J,O,n2,U⟩:=id p2;simp only at hc hd O U;subst hc hd O U;have hi:B=[]:=r1.nil_iff.mpr BB
  show concat_meets #[_,ho,BB] #[_,J,BB] gy seq_tuple_add eC eh (dX _ _)
   (tuple_addW0 a b B.toArray F.toArray n n2 dd Z sl ad (by simp[hi])) #[ho,J,#[.ref b,H,I,BB,q b H Y λ_ _ e=>e]]
 show zpg BC s G H _ _ v u Q I rx ry #[a,b,xs,ys,BB,BB,.of ha,.of Y,hx,hz,λe=>?_,λe p hp=>?_];subst e;show q a H (by right) λ_ _ e=>e;show q p _ zi λc o e=>by rw[zf (zc e hp)];show e
end
def zgz (l:Addr)(items:AK)(n:Nat)(q:Option Addr)(B:Array AJ)(u:Tok) :
  Meets (Builtin.«tuple.__mul__» #[[.ref l,.int 1 u],[]]) (λ_ R s=>s.heap.get? l=some { cls:=.type "tuple",dict:=q,data:=.seq items n,slots:=B }/\R (.ok (.ret (Value.ref l))) s):=
 .of_wp λprog w A R s h=>by
  obtain⟨I,g,d,tk,J⟩:=s;obtain⟨F,h⟩:=h;have O:=gA
  wp_walk using bY F
  show#[_,BB,h]
def zh4 (l:Addr)(items:AK)(n:Nat)(dd:Option Addr)(sl:Array AJ)(x:Int)(u:Tok)(hx:2<=x)(hc0:x<2 ^ 63)(hc1:¬ items.isEmpty=true)(hsz:items.size * x.toNat<=sizeLine) :
  Meets (Builtin.«tuple.__mul__» #[[.ref l,.int x u],[]]) (λ_ R s=>s.heap.get? l=some { cls:=.type "tuple",dict:=dd,data:=.seq items n,slots:=sl }/\R (.ok (.ret (Value.ref s.heap.objs.size))) { s with heap:=s.heap.push { cls:=Value.type "tuple",data:=Data.seq (List.foldl (λx1 x2=>x1++x2) #v[] (List.replicate x.toNat items)) },toks:=s.toks }):=
 .of_wp λprog w A R s h=>by
  obtain⟨hp,g,d,tk,os⟩:=s;obtain⟨hl,h⟩:=h;have f1:=gA
  wp_walk
  have e1:¬ ((decide (x < -2 ^ 63) || decide (x ≥ 2 ^ 63))=true):=by simp;lia
  have e2:¬ ((items.isEmpty || x==1)=true):=by grind
  have e3:¬ ((decide (x<=0) || items.isEmpty)=true):=by grind
  have xe:x=(x.toNat:Int):=by lia
  have pe:(items.size:Int) * x=((items.size * x.toNat:Nat):Int):=by rw[ek,<- xe]
  have lz:(sizeLine:Nat)<=(2 ^ 63 - 1) / 8:=by ext
  have e4:¬ ((items.size:Int) * x > (2 ^ 63 - 1) / 8):=by rw[pe];lia
  have e5:¬ (Builtin.Tuple.tupleTooMany ((items.size:Int) * x)=true):=by
   rw[pe];unfold Builtin.Tuple.tupleTooMany;grind
  have e6:sizeOk (.seq (List.foldl (λx1 x2=>x1++x2) #v[] (List.replicate x.toNat items))):=by
   have:=zcc items.toList x.toNat [];change (List.foldl (λx1 x2=>x1++x2) #v[] (List.replicate x.toNat items)).size<=sizeLine;have h2:List.foldl (λx1 x2=>x1++x2) #v[] (List.replicate x.toNat items)=(List.replicate x.toNat items.toList).flatten.toArray:=by simpa using this
   rw[h2,aP,zjp,aG,Nat.mul_comm];show hsz
  generalize hB:((2:Int) ^ 63 - 1) / 8=B at e4;rw[if_neg e1];show aa (gq #[_,hl,BB,n,BB] ?_);rw[if_neg e2];change wpAny _ _ (if (decide (x<=0) || items.isEmpty)=true then _ else _) _ _ _;rw[if_neg e3];change wpAny _ _ (if (items.size:Int) * x > B then _ else _) _ _ _;rw[if_neg e4];change wpAny _ _ (if Builtin.Tuple.tupleTooMany ((items.size:Int) * x)=true then _ else _) _ _ _;rw[if_neg e5];change wpAny _ _ (Builtin.Tuple.tupleExact _ >>= _) _ _ _;show aa (m:=Builtin.Tuple.tupleExact _) (bn ?_ e6);show af #[_,BB,h]
def zvw:R2:=λx y H Q=>∃l k xs,x = .ref l/\y = .int k/\H l=some (.tup xs)/\1<=k/\k<2 ^ 63/\xs≠[]/\xs.length * k.toNat<=sizeLine/\
 ∀p H',H' p=some (.tup (List.replicate k.toNat xs).flatten)->yT H H'->Q (.ref p) H'
def uy:fillsNumberSlot (.type "tuple") "mul" = pure false:=rfl
def zbA:seqRepeat? (.type "tuple")=pure (some (.builtin "tuple.__mul__")):=by unfold seqRepeat?;rw[PySem.seqSlot_of (T := "tuple") (name := "__mul__") (id := "tuple.__mul__") F.slot_tuple_mul.lookup (by decide +kernel),PySem.seqSlot_of (T := "tuple") (name := "__rmul__") (id := "tuple.__rmul__") F.slot_tuple_rmul.lookup (by decide +kernel)];rfl
def zak (a:Int)(t:Tok)(l:Addr)(items:AK)(n:Nat)(q:Option Addr)(B:Array AJ) :
  Meets (Builtin.«int.__rmul__» #[[.int a t,.ref l],[]]) (λ_ R s=>s.heap.get? l=some { cls:=.type "tuple",dict:=q,data:=.seq items n,slots:=B }/\R (.ok (.ret Value.notImplemented)) s):=
 .of_wp λprog w A R s h=>by obtain⟨F,g,d,tk,I⟩:=s;obtain⟨J,h⟩:=h;wp_walk;show#[_,BB,h]
section
variable {X:Cx}
def zpi:OpR X (binaryOp .Mult) zvw:=by
 intro BC s G H x y v u Q I rx ry h;obtain⟨l,k,xs,rfl,rfl,Z,h1,h2,hx,hz,q⟩:=h;cases rx;obtain⟨t,rfl⟩:=ry;obtain⟨B,r,pt,zz⟩:=I.tuple (.of Z);have ac:=r.length;obtain⟨⟨cls,O,data,Y⟩,e,hc,n,hd⟩:=id pt;simp only at hc hd;subst hc hd
 show wpAny_binaryOp_repeat_ref (T := "tuple") (U := "int") (by ext) #[_,e,BB] (λs'=>fD s' k t) uy F.fills_int_mul fG zbA F.slot_int_index.lookup
  (eD fG (fD s k t) F.entry_int_rmul (F.args_int_rmul_2 _ _) (zak k t l B.toArray n O Y) #[e,BB,#[_,e,BB],?_])
 by_cases hk:k=1;subst hk;show eD gB #[_,e,BB] gc (fS _ _) (zgz l B.toArray n O Y t) #[e,#[.ref l,H,I,BB,q l H (by simpa using Z) λ_ _ e=>e]]
 have J:List.foldl (λx1 x2=>x1++x2) #v[] (List.replicate k.toNat B.toArray)=(List.replicate k.toNat B).flatten.toArray:=by
  have:=zcc B k.toNat [];simpa using this
 show eD gB #[_,e,BB] gc (fS _ _) (zh4 l B.toArray n O Y k t (by lia) h2 (λz=>hx (r.nil_iff.mp (by simpa using z))) (by right)) #[e,?_];rw[J];show#[.ref s.heap.objs.size,_,I.laid (t':=s.toks) (o:=.tup (List.replicate k.toNat xs).flatten) (λb ob q=>ae _ q) (ai _) ?_,BB,q _ _ zi λc o e=>by rw[zf (zc e (I.hok.fresh (ai _)))];show e];show#[by rw[zjp,Nat.mul_comm];show hz,_,r.rep k.toNat,uG.new _ _]
end
end L2
namespace HT
open PyProof.Rows
section
variable {prog:Aa}{w:Ab}{A:Ae}{E:AA}{s:AZ}
def getItem_tuple_whole{lo hi:AQ}(q:IsTup s.heap t items)(hs:s.heap.IsSliceOf F U Y .none)(pl:IsPart U lo)(Z:IsPart Y hi)(hw:sIx items.size 0 lo=0/\sIx items.size items.size hi=items.size)(h:Q (.ref t) s)(hsz:items.size<=sizeLine):Ag prog w A (getItem (.ref t) (.ref F)) Q E s:=by
 obtain⟨os,I,J,ac⟩:=id hs;have O:s.TypeIs (.ref F) "slice" := #[os,I,J];unfold getItem;try with_reducible show wpAny_holding ?_
 first | show wpAny_bind (wpAny_pure ?_) | skip
 show wpAny_bind (wpAny_sequenceKey q.typeIs (by ext) ?_)
 show wpAny_bind (wpAny_callSpecial?_slot (name:=Str.ofString "__getitem__") q.typeIs PyProof.Rows.slot_tuple_getitem
  (wpAny_call_entry PyProof.Rows.slot_tuple_getitem q.typeIs entry_tuple_getitem ?_ (args_tuple_getitem _ _)))
 change wpAny _ _ (Builtin.Tuple.tupleItemsOf (.ref t) >>= _) _ _ s;show wpAny_bind (tupleItemsOf_ q ?_);show wpAny_bind (wpAny_typeOf O ?_);rw[if_pos (by ext)];show wpAny_bind (uB hs pl Z ?_);have B:(((sIx items.size 0 lo:Nat):Int)==0&&(1:Int)==1&&(sIx items.size items.size hi - sIx items.size 0 lo)==items.size)=true:=by right
 change wpAny _ _ (if (((sIx items.size 0 lo:Nat):Int)==0&&(1:Int)==1&&(sIx items.size items.size hi - sIx items.size 0 lo)==items.size)=true then _ else _) _ _ s;rw[if_pos B];unfold Builtin.Tuple.tupleIsExact;show wpAny_bind (wpAny_bind (wpAny_typeOf q.typeIs ?_));show wpAny_pure ?_;rw[if_pos (by ext)];show wpAny_bind (wpAny_rule ?_);show wpAny_pure #[_,BB,wpAny_pure h]
end
end HT
namespace L2
open PyProof.Rows
section
variable {X:Cx}
def rSlA:V->AQ->AQ->Hp->VK->Prop:=λx lo hi H Q=>∃a xs,x = .ref a/\H a=some (.tup xs)/\∀p H',H' p=some (.tup (zdk xs lo hi))->yT H H'->Q (.ref p) H'
def zql:SlR X rSlA:=by
 intro BC s G H x v vl vu lo hi sl Q I J hs pl O h;obtain⟨a,xs,rfl,U,q⟩:=h;by_cases Y:HT.sIx xs.length 0 lo=0/\HT.sIx xs.length xs.length hi=xs.length;cases J;obtain⟨F,r,Z,hz⟩:=I.tuple (.of U);have B:F.toArray.size=xs.length:=by rw[aP];show r.length.symm
 show#["tuple",_,PyProof.Rows.slot_tuple_getitem.lookup,Z.typeIs,?_];show HT.getItem_tuple_whole Z hs pl O (by rw[B];show Y) #[.ref a,H,I,BB,q a H ?_ λ_ _ e=>e] (by rw[B];show hz);unfold zdk;grind;show zsZ BC s G H _ v vl vu lo hi sl Q I J hs pl O #[a,xs,BB,.of U,Y,λp hp=>q p _ zi λc o e=>by rw[zf (zc e hp)];show e]
inductive Dt where
 | non | bl (b:Bool) | int (i:Int) | str (x:Str) | tup (l:List Dt) | lst (l:List Dt) | dct
abbrev AS:=List Dt
mutual
def Is (H:Hp):Dt->V->Prop
 | .non,v=>v = .non
 | .bl b,v=>v = .bl b
 | .int i,v=>v = .int i
 | .str x,v=>v = .str x
 | .tup l,v=>∃a xs,v = .ref a/\H a=some (.tup xs)/\IsL H l xs
 | .lst l,v=>∃a xs,v = .ref a/\H a=some (.lst xs)/\IsL H l xs
 | .dct,v=>∃a BD,v = .ref a/\H a=some (.dK BD)/\BD=[]
def IsL (H:Hp):AS->AT->Prop
 | [],xs=>xs=[]
 | d::ds,xs=>∃x r,xs=x::r/\Is H d x/\IsL H ds r
end
def kO (d:Addr)(ob:Obj):HO:=.ext λh=>h.get? d=some ob
open Classical in
@[reducible] noncomputable def pnK:HO->Option (List (Key×V))
 | .dK BD=>some BD
 | .ext q=>if (∃d ob,(∃h:Heap,h.get? d=some ob)/\q=λh=>h.get? d=some ob) then some [(Sum.inr "at",.non)] else none
 | _=>none
def zy (H H':Hp):Prop:=∀b o,H b=some o->(∀BD,pnK o=some BD->uE BD (Sum.inr "at" : Key)=none)->H' b=some o
def zy.refl (H:Hp):zy H H:=λ_ _ e _=>e
def zy.trans(a:zy H H1)(b:zy H1 H2):zy H H2:=λc o e n=>b c o (a c o e n) n
def zy.same(a:yT H H1):zy H H1:=λc o e _=>a c o e
def zy.upd(h:H p=none):zy H (upd H p o):=λc u e _=>by rw[zf (zc e h)];show e
def yT.upd(h:H p=none):yT H (upd H p o):=λc u e=>by rw[zf (zc e h)];show e
def zy.tup(a:zy H H1)(h:H p=some (.tup xs)):H1 p=some (.tup xs):=a _ _ h λ_ e=>by cases e
def zy.lst(a:zy H H1)(h:H p=some (.lst xs)):H1 p=some (.lst xs):=a _ _ h λ_ e=>by cases e
mutual
theorem Is.stay {H H1:Hp}(a:zy H H1):∀ {d:Dt} {v:V},Is H d v->Is H1 d v
 | .non,_,h=>h
 | .bl _,_,h=>h
 | .int _,_,h=>h
 | .str _,_,h=>h
 | .tup l,v,h=>by obtain⟨p,xs,e,hp,hl⟩:=h;show#[p,xs,e,a.tup hp,IsL.stay a hl]
 | .lst l,v,h=>by obtain⟨p,xs,e,hp,hl⟩:=h;show#[p,xs,e,a.lst hp,IsL.stay a hl]
 | .dct,v,h=>by obtain⟨p,BD,e,hp,hl⟩:=h;show#[p,BD,e,a _ _ hp λkvs' e=>by cases e;subst hl;rfl,hl]
theorem IsL.stay {H H1:Hp}(a:zy H H1):∀ {ds:AS} {xs:AT},IsL H ds xs->IsL H1 ds xs
 | [],_,h=>h
 | d::ds,xs,h=>by obtain⟨x,r,e,h1,h2⟩:=h;show#[x,r,e,Is.stay a h1,IsL.stay a h2]
end
theorem IsL.length:∀ {ds:AS} {xs:AT},IsL H ds xs->xs.length=ds.length
 | [],_,h=>by cases h;rfl
 | d::ds,xs,h=>by obtain⟨x,r,rfl,_,h2⟩:=h;rw[aJ,aJ,IsL.length h2]
theorem IsL.get:∀ {ds:AS} {xs:AT} {i:Nat} {x:V},IsL H ds xs->xs[i]?=some x->∃d,ds[i]?=some d/\Is H d x
 | [],_,_,_,h,e=>by cases h;simp at e
 | d::ds,xs,i,x,h,e=>by
  obtain⟨y,r,rfl,h1,h2⟩:=h
  cases i with
  | zero=>simp at e;subst e;show#[d,BB,h1]
  | succ i=>
   obtain⟨d',q,B⟩:=IsL.get (i:=i) (x:=x) h2 (by simpa using e);right
theorem IsL.getD:∀ {ds:AS} {xs:AT} {i:Nat} {d:Dt},IsL H ds xs->ds[i]?=some d->∃x,xs[i]?=some x/\Is H d x
 | [],_,_,_,_,e=>by simp at e
 | d::ds,xs,i,x,h,e=>by
  obtain⟨y,r,rfl,h1,h2⟩:=h
  cases i with
  | zero=>simp at e;subst e;show#[y,BB,h1]
  | succ i=>
   obtain⟨d',q,B⟩:=IsL.getD (i:=i) (d:=x) h2 (by simpa using e);right
theorem IsL.append:∀ {ds es:AS} {xs ys:AT},IsL H ds xs->IsL H es ys->IsL H (ds++es) (xs++ys)
 | [],_,_,_,h,k=>by cases h;show k
 | d::ds,es,xs,ys,h,k=>by obtain⟨y,r,rfl,h1,h2⟩:=h;show#[y,r++ys,BB,h1,IsL.append h2 k]
theorem IsL.take:∀ {ds:AS} {xs:AT} (n:Nat),IsL H ds xs->IsL H (ds.take n) (xs.take n)
 | _,_,0,_=>by simp[IsL]
 | [],_,n+1,h=>by cases h;simp[IsL]
 | d::ds,xs,n+1,h=>by obtain⟨y,r,rfl,h1,h2⟩:=h;show#[y,r.take n,BB,h1,IsL.take n h2]
theorem IsL.drop:∀ {ds:AS} {xs:AT} (n:Nat),IsL H ds xs->IsL H (ds.drop n) (xs.drop n)
 | _,_,0,h=>h
 | [],_,n+1,h=>by cases h;simp[IsL]
 | d::ds,xs,n+1,h=>by obtain⟨y,r,rfl,h1,h2⟩:=h;show IsL.drop n h2
def IsL.one(h:Is H d x):IsL H [d] [x]:=#[x,[],BB,h,BB]
theorem IsL.ints:∀ {ns:AG},IsL H (ns.map .int) (ns.map .int)
 | []=>rfl
 | n::ns=>#[_,_,BB,BB,IsL.ints]
theorem IsL.of_ints:∀ {ns:AG} {xs:AT},IsL H (ns.map .int) xs->xs=ns.map .int
 | [],_,h=>h
 | n::ns,xs,h=>by obtain⟨y,r,rfl,h1,h2⟩:=h;cases h1;rw[IsL.of_ints h2];rfl
def Dt.ty:Dt->String
 | .non => "NoneType" | .bl _ => "bool" | .int _ => "int" | .str _ => "str" | .tup _ => "tuple" | .lst _ => "list" | .dct => "dict"
theorem Is.ty {K:AH}{H:Hp}:∀ {d:Dt} {v:V},Is H d v->TyOf K H v (.type d.ty)
 | .non,_,h=>by cases h;show .non
 | .bl _,_,h=>by cases h;show .bl _
 | .int _,_,h=>by cases h;show .int _
 | .str _,_,h=>by cases h;show .str _
 | .tup l,v,h=>by obtain⟨p,xs,rfl,q,B⟩:=h;show .tup q
 | .lst l,v,h=>by obtain⟨p,xs,rfl,q,B⟩:=h;show .lst q
 | .dct,v,h=>by obtain⟨p,xs,rfl,q,B⟩:=h;show .dK q
abbrev Dt.isTup:Dt->Bool
 | .tup _=>true | _=>false
abbrev Dt.isLst:Dt->Bool
 | .lst _=>true | _=>false
abbrev Dt.isInt:Dt->Bool
 | .int _=>true | .bl _=>true | _=>false
abbrev Dt.isBl:Dt->Bool
 | .bl _=>true | _=>false
def Dt.isWhole:Dt->Bool
 | .int _=>true | _=>false
def zoS (K:AH)(d:Dt):PySem.W.kitOne K (.type d.ty) (.type "tuple")=some d.isTup:=by cases d <;> rfl
def zoR (K:AH)(d:Dt):PySem.W.kitOne K (.type d.ty) (.type "list")=some d.isLst:=by cases d <;> rfl
def zoQ (K:AH)(d:Dt):PySem.W.kitOne K (.type d.ty) (.type "int")=some d.isInt:=by cases d <;> rfl
def zrF (K:AH)(d:Dt):PySem.W.kitOne K (.type d.ty) (.type "bool")=some d.isBl:=by cases d <;> rfl
end
def zhv (env:Env):List (Str×NameKind)->List (Str×Addr)->List (Str×Addr)
 | [],cs=>cs
 | x::r,cs=>zhv env r (if (x.2==NameKind.free)=true then (x.1,(env.cells.lookup x.1).getD 0)::cs else cs)
def zhw(h:∀x∈scope.names,x.2 = .free->∃c,env.cells.lookup x.1=some c):closureFor scope env=pure (zhv env scope.names []):=by
 have gen:∀ (names:List (Str×NameKind)) (cs:List (Str×Addr)),(∀x∈names,x.2 = .free->∃c,env.cells.lookup x.1=some c)->
   (forIn names cs (λx r=>match x with
    | (name,kind)=>if (kind==NameKind.free)=true then do let a <- cellOf env name;pure (ForInStep.yield ((name,a)::r)) else pure (ForInStep.yield r)):Sem (List (Str×Addr)))=pure (zhv env names cs):=by
  intro names
  induction names with
  | nil=>intro cs _;rfl
  | cons x r ih=>
   intro cs hh;obtain⟨n,k⟩:=x;rw[fH];by_cases hk:(k==NameKind.free)=true;obtain⟨c,hc⟩:=hh (n,k) am (cq hk);have hc':env.cells.lookup n=some c:=hc;have e:cellOf env n=pure c:=by unfold cellOf;rw[hc']
   simp only[hk,if_true,e,pure_bind];rw[ih _ λy hy=>hh y (ar _ hy)];change pure _=pure (zhv env r (if (k==NameKind.free)=true then (n,(env.cells.lookup n).getD 0)::cs else cs));right;simp only[hk,pure_bind];have e2:zhv env ((n,k)::r) cs=zhv env r cs:=by change zhv env r (if (k==NameKind.free)=true then _ else cs)=_;rw[if_neg hk]
   right
 unfold closureFor;have:=gen scope.names [] h;simpa using this
theorem zb7:∀ {names:List (Str×NameKind)} {cs:List (Str×Addr)} {x:Str} {c:Addr},(∀y∈names,y.2 = .free->∃c,env.cells.lookup y.1=some c)->(zhv env names cs).lookup x=some c->env.cells.lookup x=some c\/cs.lookup x=some c
 | [],_,_,_,_,h=>.inr h
 | (n,k)::r,cs,x,c,B,h=>by
  have q:=zb7 (names:=r) (x:=x) (c:=c) (λy F=>B y (ar _ F)) h;rcases q with q | q;show .inl q;by_cases I:(k==NameKind.free)=true;obtain⟨J,O⟩:=B (n,k) am (cq I);grind;right
theorem zdh:∀ {names:List (Str×NameKind)} {cs:List (Str×Addr)} {x:Str},(∃c,cs.lookup x=some c)->∃c,(zhv env names cs).lookup x=some c
 | [],_,_,h=>h
 | (n,k)::r,cs,x,h=>by
  show zdh (names:=r) ?_;grind
theorem zbS:∀ {names:List (Str×NameKind)} {cs:List (Str×Addr)} {x:Str},names.lookup x=some .free->∃c,(zhv env names cs).lookup x=some c
 | [],_,_,h=>by simp at h
 | (n,k)::r,cs,x,h=>by
  rw[List.lookup_cons] at h
  cases e:x==n with
  | true=>
   rw[e] at h;have h':some k=some NameKind.free:=h;cases h';show zdh (names:=r) ?_;right
  | false=>
   rw[e] at h;show zbS (names:=r) h
theorem yI {env:Env}:∀ {names:List (Str×NameKind)} {x:Str} {k:NameKind},(∀y∈names,y.2≠.cell)->
  (names.map λ(n,k)=>if (k==NameKind.free&&env.scope.kind==.function&&env.kindOf n==some .cell) then (n,NameKind.cell) else (n,k)).lookup x=some k->(k = .cell\/k = .free)->names.lookup x=some .free
 | [],_,_,_,h,_=>by simp at h
 | (n,k)::r,x,q,B,h,I=>by
  have J:=@yI env r x q (λy F=>B y (ar _ F));grind
theorem xn {env:Env}:∀ {names:List (Str×NameKind)} {x:Str},names.lookup x=some .free->
  (names.map λ(n,k)=>if (k==NameKind.free&&env.scope.kind==.function&&env.kindOf n==some .cell) then (n,NameKind.cell) else (n,k)).lookup x=some .cell\/
  (names.map λ(n,k)=>if (k==NameKind.free&&env.scope.kind==.function&&env.kindOf n==some .cell) then (n,NameKind.cell) else (n,k)).lookup x=some .free
 | [],_,h=>by simp at h
 | (n,k)::r,x,h=>by
  have q:=@xn env r x;grind
def z5 (X:Cx)(scope:Scope)(N:AM)(C:Addr)(s:AZ)(H:Hp)(ex:AY):Cx where
 prog:=X.prog
 w:=X.w
 K:=X.K
 mg:=X.mg
 base:=X.base
 A:=X.A
 N:=N
 s₀:=s
 H₀:=H
 env:=compEnvC scope (zhv X.env scope.names []) C X.env
 outer:=X.stack
 stack:=X.stack
 ex:=ex
 fn:=λ_=>false
 calm:=X.calm
 pn:=[]
 xe:=λ_ _=>False
def caps (XN:AM)(Xnames names:List (Str×NameKind))(N:AM)(BE:List (Option Nat)):Bool:=
 N.length==BE.length&&(names.all λy=>y.2 != .cell)&&((N.zip BE).all λp=>match p.2 with
  | none=>true
  | some i=>XN[i]?==some p.1&&names.lookup p.1==some .free&&(Xnames.lookup p.1==some .cell || Xnames.lookup p.1==some .free)) &&
 (names.all λy=>y.2 != .free || (Xnames.lookup y.1==some .cell || Xnames.lookup y.1==some .free))
def zeO (G:St)(BE:List (Option Nat)):St:=BE.map λo=>match o with
 | none=>none
 | some i=>(G[i]?).join
structure CompOk (X:Cx)(scope:Scope)(N:AM)(BE:List (Option Nat)):Prop where
 kind:scope.kind = .function
 names:∀x∈scope.names,x.2 = .local->scope.names.lookup x.1=some .local
 caps:caps X.N X.env.scope.names scope.names N BE=true
section
variable {X:Cx}{BC:AB}{G:St}{H:Hp}{s:AZ}{scope:Scope}{N:AM}{BE:List (Option Nat)}
def CompOk.cell (c:CompOk X scope N BE):∀y∈scope.names,y.2≠.cell:=λy q e=>by
 have h:=c.caps;unfold L2.caps at h;rw[bE,bE,bE] at h;have:=bT.mp h.1.1.2 y q;right
def CompOk.len (c:CompOk X scope N BE):N.length=BE.length:=by
 have h:=c.caps;unfold L2.caps at h;right
def CompOk.cells (c:CompOk X scope N BE)(B:X.Ok):∀x∈scope.names,x.2 = .free->∃a,X.env.cells.lookup x.1=some a:=λx F e=>by
 have h:=c.caps;unfold L2.caps at h;rw[bE] at h;have q:=bT.mp h.2 x F;rw[e] at q;have I:(X.env.scope.names.lookup x.1==some NameKind.cell || X.env.scope.names.lookup x.1==some NameKind.free)=true:=by simpa using q
 rcases Bool.or_eq_true_iff.mp I with q | q;show B.has _ (.inl (cq q));show B.has _ (.inr (cq q))
def CompOk.cap (c:CompOk X scope N BE){j i:Nat}{x:Str}(h1:N[j]?=some x)(h2:BE[j]?=some (some i)):X.N[i]?=some x/\scope.names.lookup x=some .free/\(X.env.scope.names.lookup x=some .cell\/X.env.scope.names.lookup x=some .free):=by
 have h:=c.caps;unfold L2.caps at h;rw[bE,bE] at h;have B:(x,some i)∈N.zip BE:=by show aM (i:=j) ?_;rw[List.getElem?_zip_eq_some];show#[h1,h2]
 have q:=bT.mp h.1.2 _ B;grind
def zlx {fp:AY}{h':Heap}{tk:Nat}{m:AI}(I:Inv X BC G H s)(c:CompOk X scope N BE)(Z:∀b∈fp,zfF X BC H b)(ac:∀b∈fp,b<s.heap.objs.size)
  (hn:h'.Ns s.heap.objs.size m) (hk:∀b o,s.heap.get? b=some o->h'.get? b=some o) :
  Inv (z5 X scope N s.heap.objs.size s H fp) [] (zeO G BE) H { s with heap:=h',toks:=tk }:=by
 have ad:=c.cells I.ok
 have B:∀x a,(zhv X.env scope.names []).lookup x=some a->X.env.cells.lookup x=some a:=λx a e=>by
  rcases zb7 ad e with z | z;show z;simp at z
 show#[#[I.mod,c.kind,I.ok.glob,I.ok.blt,ai _,λx y a e1 e2=>I.ok.inj x y a (B x a e1) (B y a e2),λx hx=>?_,λx a z _=>absurd (show (false:Bool)=true from z) (by ext),I.ok.hd,I.ok.frames,.inl BB,
  λb J=>#[aN (ac b J),λx a e=>(Z b J).2.2.2.2.1 x a (B x a e)],I.bs,aq I.ok.bsz I.sz,λb o e J=>?_,λb J z=>?_,I.stack,I.stkFree],
  I.os ▸ BB,I.bare,Un.kept hk,#[m,hn,λj x v h1 h2 h3=>?_],λx a e=>?_,I.hok.fresh (ai _),λx a e=>I.freeC x a (B x a e),λp hp=>absurd (show p∈([]:AB) from hp) (by simp),I.hok.kept hk,?_]
 have ag:((relabel scope X.env).names.lookup x=some .cell\/(relabel scope X.env).names.lookup x=some .free):=hx;rcases ag with z | z;show zbS (yI c.cell z (.inl BB));show zbS (yI c.cell z (.inr BB));rcases (Z b J).2.2.2.1 with z | z;show I.ok.noex b o e z;show absurd (aZ (aw e) (aq I.ok.bsz z)) (cV _);rcases ay.mp (I.stkSub b z) with e | e;show (Z b J).2.1 e;show (Z b J).2.2.1 e;have al:N[j]?=some x:=h1;unfold zeO at h2;rw[aC] at h2
 cases e:BE[j]? with
 | none=>rw[e] at h2;cases h2
 | some o=>
  rw[e] at h2
  cases o with
  | none=>cases h2
  | some i=>
   have F:(G[i]?).join=some v:=b8 h2
   have U:G[i]?=some (some v):=by
    cases q:G[i]? with
    | none=>rw[q] at F;cases F
    | some z=>rw[q] at F;have:z=some v:=F;rw[this]
   obtain⟨q1,q2,q3⟩:=c.cap al e;obtain⟨m0,ap,an⟩:=I.loc;obtain⟨u,ru,hu⟩:=an i x v q1 U (q3.elim (λz=>.inr (.inl z)) λz=>.inr (.inr z));show#[u,ru,.inr #[xn q2,?_]];rcases hu with ⟨z,_⟩ | ⟨_,a,ha,hcell⟩;have z':X.env.scope.names.lookup x=some .local:=z;right;obtain⟨a',Y⟩:=zbS (env:=X.env) (cs:=[]) q2;have:a'=a:=by have:=(B x a' Y).symm.trans ha;show b8 this
   subst this;obtain⟨oc,O,hd⟩:=hcell;show#[a',Y,oc,hk _ _ O,hd]
 obtain⟨v,oc,O,hd⟩:=I.cell x a (B x a e);show#[v,oc,hk _ _ O,hd];change (zeO G BE).length=N.length;unfold zeO;rw[ab,c.len]
def zfZ(x:HOk P w H h)(hn:H a=none)(hs:Heap.SameBut a h h'):HOk P w H h':=λb o e=>by
 show (x b o e).stay (λc u B q=>(hs.2 c ?_).trans q) (λ_ q=>q) λ_ _ q=>q;grind
def zhE{Y:St}{H':Hp}{s':AZ}(I:Inv X BC G H s)(O:∀b∈U,zfF X BC H b)(I':Inv (z5 X scope N s.heap.objs.size s H U) [] Y H' s')(hs:Heap.SameBut s.heap.objs.size s'.heap F) :
  Inv X BC G H' { s' with heap:=F }:=by
 have Z:∀b o,s.heap.get? b=some o->b≠s.heap.objs.size:=λb o e=>aN (aw e);have u:=I'.base;show Inv.call' (ch:=U) I I'.os #[λb o e n B J=>?_,λb o e n B J=>?_,u.free,λb o e J=>?_,u.tups,u.frzs,u.tbls] (zfZ I'.hok I'.free hs) I'.bare λb B=>#[(O b B).2.2.2.1,(O b B).2.1,(O b B).2.2.2.2.1,(O b B).2.2.2.2.2];show (hs.2 b (Z b o e)).trans (u.keep b o e n B J);obtain⟨sl,q⟩:=u.slot b o e n B J;show#[sl,(hs.2 b (Z b o e)).trans q];obtain⟨o',q⟩:=u.there b o e J;show#[o',(hs.2 b (Z b o e)).trans q]
variable {prog:Aa}{w:Ab}{A:Ae}{R:Result->AZ->Prop}
def zdN(I:Nat->AZ->Prop)(turn:∀n s,I n s->Ag prog w A (pyNext it) (λr s₁=>match r with
   | none=>R (.ok .next) s₁
   | some v=>Ag prog w A (letOwnedTupleGo target it v) (λ_ s₂=>Ag prog w A (assign target env v) (λ_ s₃=>
     Ag prog w A (forIn ifs true λc r=>if r=true then do let ok <- isTrue c env (eval c env);pure (ForInStep.yield ok) else pure (ForInStep.yield r)) (λok s₄=>
      if ok=true then Ag prog w A (eval elt env) (λx s₅=>
       Ag prog w A (call (.builtin "list.append") [acc,x]) (λ_ s₆=>∃m,m<n/\I m s₆) (λ_ _=>False) s₅) (λ_ _=>False) s₄
      else ∃m,m<n/\I m s₄) (λ_ _=>False) s₃) (λ_ _=>False) s₂) (λ_ _=>False) s₁) (λ_ _=>False) s)(n:Nat)(h:I n s) :
  codeAny (model prog w) A (.compLoop (.ListComp elt [#[target,iter,ifs,0]] scope pos) 0 it acc env) R s:=by
 show codeAny_loop BB I (λn s hI=>?_) n h;change wpAny _ A ((compTurn (.ListComp elt [#[target,iter,ifs,0]] scope pos) 0 it acc env).onRaise (λx=>do noteFrame x env;theTreesLotGoes x)) _ _ s;show wpAny_noted ?_;rw[compTurn_list];show aa (dE (aa (bC (turn n s hI) (λr s₁ h₁=>?_) λ_ _ h'=>h'.elim)))
 cases r with
 | none=>show af h₁
 | some v=>
  show aa (bC h₁ (λ_ s₂ h₂=>?_) λ_ _ h'=>h'.elim);show aa (bC h₂ (λ_ s₃ h₃=>aa (bC h₃ (λok s₄ h₄=>?_) λ_ _ h'=>h'.elim)) λ_ _ h'=>h'.elim)
  cases ok with
  | false=>show af #[BB,h₄]
  | true=>
   show aa (aa (bC h₄ (λx s₅ h₅=>aa (bC h₅ (λ_ s₆ h₆=>af (af #[BB,h₆])) λ_ _ h'=>h'.elim)) λ_ _ h'=>h'.elim))
end
def PTs (X:Cx)(ifs:AO)(t:TT):Prop:=
 ∀ (BC:AB) (s:AZ) (G:St) (H:Hp) (Q:Bool->Hp->Prop),Inv X BC G H s->t G H Q->
  Af X (forIn ifs true λc r=>if r=true then do let ok <- isTrue c X.env (eval c X.env);pure (ForInStep.yield ok) else pure (ForInStep.yield r)) (TP X BC G Q) X.xe s
def zkB:TT:=λ_ H Q=>Q true H
def zpI:PTs X [] zkB:=λBC s G H Q I h=>wpAny_tests_nil #[H,I,h]
def zpJ(h:PT X c t):PTs X [c] t:=λBC s G H Q I q=>wpAny_tests_one (h BC s G H Q I q)
def zvG (wi:TI)(g:TG)(ti:TT)(te:TE)(BE:List (Option Nat)):TE:=λG H Q=>wi G H λJ H1=>∀acc,H1 acc=none->∃W:Nat->Nat->St->Hp->Prop,(∃m,W 0 m (zeO G BE) (upd H1 acc (.lst [])))/\
 ∀i m B H',W i m B H'->(J.stop i H'/\Q (.ref acc) H')\/(J.go i H'/\∃N:St->Hp->Prop,(∀ F H2,N F H2->∃I,I<m/\W (i+1) I F H2)/\
  ∀x H2,J.yld i H' x H2->g x B H2 λq H3=>ti q H3 λO H4=>if O=true then te q H4 λv H5=>∃xs,H5 acc=some (.lst xs)/\xs.length<sizeLine/\N q (upd H5 acc (.lst (xs++[v]))) else N q H4)
def zq2 (g:TG)(ti:TT)(te:TE)(acc:Addr)(N:St->Hp->Prop)(x:V)(G:St)(H:Hp):Prop:=
 g x G H λq H3=>ti q H3 λB H4=>if B=true then te q H4 λv H5=>∃xs,H5 acc=some (.lst xs)/\xs.length<sizeLine/\N q (upd H5 acc (.lst (xs++[v]))) else N q H4
def zmZ (M:Model)(A:Ae)(e:Expr)(k:Nat)(tg:Expr)(ifs:AO)(it acc:Value)(env:Env)(B:(AZ->Prop)->AZ->Prop):Prop:=
 ∀ (R:Result->AZ->Prop) (s:AZ) (I:Nat->AZ->Prop),(∀n s,I n s->wpAny M A (pyNext it) (λr s₁=>match r with
   | none=>R (.ok .next) s₁
   | some v=>wpAny M A (letOwnedTupleGo tg it v) (λ_ s₂=>wpAny M A (assign tg env v) (λ_ s₃=>
     wpAny M A (forIn ifs true λc r=>if r=true then do let ok <- isTrue c env (eval c env);pure (ForInStep.yield ok) else pure (ForInStep.yield r)) (λok s₄=>
      if ok=true then B (λs'=>∃m,m<n/\I m s') s₄ else ∃m,m<n/\I m s₄) (λ_ _=>False) s₃) (λ_ _=>False) s₂) (λ_ _=>False) s₁) (λ_ _=>False) s)->
  ∀n,I n s->codeAny M A (.compLoop e k it acc env) R s
def zju{X:Cx}{ifs:AO}{it acc:Addr}{I:AY}{tn:Nat->Heap->Prop}{J:It}{g:TG}{ti:TT}{tb:(St->Hp->Prop)->St->Hp->Prop}{B:(AZ->Prop)->AZ->Prop}{pl:AB}{Fin:St->Hp->Prop}{R:Result->AZ->Prop}{W:Nat->Nat->St->Hp->Prop}{σ0:St}{H0:Hp}{s0:AZ}(L:zmZ (model X.prog X.w) X.A e k tg ifs (.ref it) (.ref acc) X.env B)(hc:X.calm=true)(xX:X.xe=λ_ _=>False)(T:Turn X.prog X.w X.K tg J I it tn)(f4:∀ {H':Hp},(∀b∈I,H' b=none)->∀b∈I,zfF X pl H' b)(hg:PG X tg g)(ht:PTs X ifs ti)(O:∀pl' s G H (Nx:St->Hp->Prop) (P:AZ->Prop),Inv X (pl++pl') G H s->tb Nx G H->(∀ q H' s',Inv X (pl++pl') q H' s'->Nx q H'->P s')->B P s)(Z:∀i n G H,W i n G H->(J.stop i H/\Fin G H)\/(J.go i H/\∃Nx:St->Hp->Prop,(∀ q H',Nx q H'->∃m,m<n/\W (i+1) m q H')/\∀x H',J.yld i H x H'->g x G H' λU H2=>ti U H2 λb H3=>if b=true then tb Nx U H3 else Nx U H3))(fin:∀ G H s,Inv X pl G H s->Fin G H->R (.ok .next) s)(I0:Inv X pl σ0 H0 s0)(an:tn 0 s0.heap)(ap:∀b∈I,H0 b=none)(w0:W 0 m0 σ0 H0) :
  codeAny (model X.prog X.w) X.A (.compLoop e k (.ref it) (.ref acc) X.env) R s0:=by
 show L R s0 (λn s'=>∃i q H',Inv X pl q H' s'/\tn i s'.heap/\(∀b∈I,H' b=none)/\W i n q H') ?_ m0 #[0,σ0,H0,I0,an,ap,w0];rintro n s5 ⟨i,F,H5,I5,ac,ad,w5⟩;rcases Z i n F H5 w5 with ⟨stop,qn⟩ | ⟨go,Nx,hN,step⟩
 ·show thn (T.done X BB BB BB hc i pl s5 F H5 (λ_ _=>False) I5 (f4 ad) ac stop) ?_;rintro r s6 ⟨hr,I6⟩;subst hr;show fin F H5 s6 I6 qn
 show thn (T.item X BB BB BB hc i pl s5 F H5 (λ_ _=>False) I5 (f4 ad) ac go) ?_;rintro r s6 ⟨u,hr,h6⟩;subst hr;show thn h6 ?_;rintro _ s7 ⟨x,H7,I7,r7,y7,Y,as⟩;have I7':=I7.pinned (f4 as) (T.obj _ _ Y);have a7:=hg _ s7 F H7 x u _ I7' r7 (step x H7 y7);rw[xX] at a7;show thn a7 ?_;rintro _ s8 ⟨al,H8,I8,q8⟩;have t8:=ht _ s8 al H8 _ I8 q8;rw[xX] at t8;show thn t8 ?_;rintro ok s9 ⟨H9,I9,q9⟩
 have ag:∀ q H' s',Inv X (pl++zfk I s7.heap) q H' s'->Nx q H'->∃m,m<n/\∃i q H',Inv X pl q H' s'/\tn i s'.heap/\(∀b∈I,H' b=none)/\W i m q H':=λq H' s' J' n'=>by
  obtain⟨m',hm,w'⟩:=hN q H' n'
  have pn:∀b∈I,∀o,s7.heap.get? b=some o->s'.heap.get? b=some o/\H' b=none:=λb O o e=>by
   have:=J'.pin (b,o) (aT _ (aT _ (zbg O e)));right
  show#[m',hm,i+1,q,H',J'.unpinned,T.keep _ _ _ Y λb O o e=>(pn b O o e).1,λb O=>?_,w'];obtain⟨o,e,_⟩:=T.obj _ _ Y b O;right
 cases ok with
 | false=>show ag _ _ _ I9 q9
 | true=>show O _ s9 al H9 _ _ I9 q9 ag
structure Inn (X X':Cx)(BC:AB)(G:St)(fp:AY)(C:Addr):Prop where
 pX:X'.prog=X.prog
 wX:X'.w=X.w
 KX:X'.K=X.K
 AX:X'.A=X.A
 cX:X'.calm=X.calm
 xX:X'.xe=λ_ _=>False
 lX:X'.env.locals=C
 f4:∀ {H':Hp},(∀b∈fp,H' b=none)->∀b∈fp,zfF X' [] H' b
 back:∀ {σ':St} {H':Hp} {s':AZ} {h'':Heap},Inv X' [] σ' H' s'->Heap.SameBut C s'.heap h''->Inv X BC G H' { s' with heap:=h'' }
structure Opn (X:Cx)(scope:Scope)(BE:List (Option Nat))(Fam:Cx->Prop):Prop where
 kind:scope.kind = .function
 names:∀x∈scope.names,x.2 = .local->scope.names.lookup x.1=some .local
 cells:X.Ok->∀x∈scope.names,x.2 = .free->∃a,X.env.cells.lookup x.1=some a
 run:∀ (BC:AB) (G:St) (H3:Hp) (s3:AZ) (fp:AY) (Q:Env->AZ->Prop),Inv X BC G H3 s3->(∀b∈fp,zfF X BC H3 b)->(∀b∈fp,b<s3.heap.objs.size)->
  (∀X' cenv s4,Fam X'->Inn X X' BC G fp s3.heap.objs.size->cenv.locals=s3.heap.objs.size->X'.env={ cenv with scope:=relabel scope X.env }->Inv X' [] (zeO G BE) H3 s4->(∀b o,s3.heap.get? b=some o->s4.heap.get? b=some o)->Q cenv s4)->
  Af X (newFunctionEnv scope X.env.globals (zhv X.env scope.names []) [] X.env.qual none .none (some X.env)) Q X.xe s3
def zeQ{X:Cx}{Fam:Cx->Prop}{scope:Scope}{BE:List (Option Nat)}{use:Option (Value->Sem Unit)}{Qp:AA}{ifs:AO}{pos:Pos}{U:Sem Value}{o0:Addr->HO}{B:Cx->Addr->(AZ->Prop)->AZ->Prop}{tb:Addr->(St->Hp->Prop)->St->Hp->Prop}{Fin:Addr->Hp->Prop}{wi:TI}{g:TG}{ti:TT}{Kk:It->Hp->Prop}{BC:AB}{G:St}{H:Hp}{s:AZ}(O:Opn X scope BE Fam)(hc:X.calm=true)(a5:clausesOf e=#[tg,iter,ifs,0]::gs)(hs:∀x,foldedSetIterable iter X.env x=pure x)(a7:∀ (R:Result->AZ->Prop) (s:AZ) (it acc:Value) (env:Env),codeAny (model X.prog X.w) X.A (.compLoop e 0 it acc env) R s->Af X (pyIter it) (λba s'=>codeAny (model X.prog X.w) X.A (.compLoop e 0 ba acc env) R s') (notedBy (model X.prog X.w) X.A env λx s'=>R (.error x) s') s->codeAny (model X.prog X.w) X.A (.compStart e 0 it acc env) R s)(hL:∀X',Fam X'->∀it acc,zmZ (model X'.prog X'.w) X'.A e 0 tg ifs it (.ref acc) X'.env (B X' acc))(an:∀ (s:AZ) (Q:AA),Q (.ref s.heap.objs.size) { s with heap:=s.heap.push ob }->Af X U Q X.xe s)(bb:∀ {BC G H s},Inv X BC G H s->∀H',yk X.prog X.w H' (s.heap.push ob) s.heap.objs.size (o0 s.heap.objs.size))(hi:PI X tg iter wi)(hg:∀X',Fam X'->PG X' tg g)(ht:∀X',Fam X'->PTs X' ifs ti)(Y:∀X',Fam X'->X'.prog=X.prog->X'.w=X.w->X'.A=X.A->X'.calm=true->X'.xe=(λ_ _=>False)->∀acc pl s G H (Nx:St->Hp->Prop) (P:AZ->Prop),Inv X' pl G H s->tb acc Nx G H->(∀ Z H' s',Inv X' pl Z H' s'->Nx Z H'->P s')->B X' acc P s)(I:Inv X BC G H s)(h:wi G H Kk)(hK:∀J H1 acc,Kk J H1->H1 acc=none->∃W:Nat->Nat->St->Hp->Prop,(∃m,W 0 m (zeO G BE) (upd H1 acc (o0 acc)))/\∀i n G H,W i n G H->(J.stop i H/\Fin acc H)\/(J.go i H/\∃Nx:St->Hp->Prop,(∀ Z H',Nx Z H'->∃m,m<n/\W (i+1) m Z H')/\∀x H',J.yld i H x H'->g x G H' λad H2=>ti ad H2 λb H3=>if b=true then tb acc Nx ad H3 else Nx ad H3))(ap:∀acc C H5 s6,zfF X BC H5 C->(∃m,s6.heap.Ns C m)->(∀ag,Heap.SameBut C s6.heap ag->Inv X BC G H5 { s6 with heap:=ag })->Fin acc H5->compPost (model X.prog X.w) X.A X.xe use Qp (.ref acc) C (.ok .next) s6) :
  Af X (comprehension e scope X.env pos U false (eval iter X.env) use) Qp X.xe s:=by
 show wpAny_comprehension_free (use:=use) a5 hs (zhw (O.cells I.ok)) O.kind O.names (thn (hi BC s G H _ I h) λxv s1 h1=>thn h1 λbe F h2=>?_);obtain⟨it,fp,tn,J,H2,e,I2,T,as,f2,q2⟩:=h2;subst e;show an F _ ?_;have al:=I2.hok.fresh (ai F.heap.objs.size);obtain⟨W,⟨m0,w0⟩,a0⟩:=hK J H2 F.heap.objs.size q2 al;have a1:∀b o,F.heap.get? b=some o->(F.heap.push ob).get? b=some o:=λb u e=>ae _ e;have I3:Inv X BC G (upd H2 F.heap.objs.size (o0 F.heap.objs.size)) { F with heap:=F.heap.push ob,toks:=F.toks }:=I2.laid (t':=F.toks) a1 (ai _) (bb I2 _);have a2:∀b∈fp,b<F.heap.objs.size:=λb Y=>by obtain⟨o,ho,_⟩:=T.obj _ _ as b Y;show aw ho
 have fn:∀b∈fp,upd H2 F.heap.objs.size (o0 F.heap.objs.size) b=none:=λb Y=>by rw[zf (aN (a2 b Y))];show (f2 b Y).1
 show O.run BC G _ _ fp _ I3 (λb Y=>#[fn b Y,(f2 b Y).2]) (λb Y=>Nat.lt_trans (a2 b Y) (by simp)) λX' bd s4 hF N hl hE I4 kp=>?_;rw[<- hE,hl];have a3:tn 0 s4.heap:=T.keep _ _ _ as λb Y o e=>kp b o (a1 b o e);have cX:=N.cX.trans hc;have ac:=zju (X:=X') (R:=compPost (model X.prog X.w) X.A X.xe use Qp (.ref F.heap.objs.size) (F.heap.push ob).objs.size) (Fin:=λ_ H=>Fin F.heap.objs.size H) (pl:=[]) (hL X' hF (.ref it) F.heap.objs.size) cX N.xX (by rw[N.pX,N.wX,N.KX];show T) N.f4 (hg X' hF) (ht X' hF) (Y X' hF N.pX N.wX N.AX cX N.xX F.heap.objs.size) a0 (λbk H5 s6 I6 q=>?_) I4 a3 fn w0;rw[N.pX,N.wX,N.AX] at ac;show a7 _ _ _ _ _ ac (T.self X.A 0 _ _ _ a3 ac);have bc:H5 (F.heap.push ob).objs.size=none:=by have:=I6.free;rwa[N.lX] at this
 obtain⟨m6,a4,_⟩:=I6.loc;rw[N.lX] at a4;show ap _ _ H5 s6 (I3.fpOk (ai _) bc) #[m6,a4] (λag hs=>N.back I6 hs) q
section
variable {X:Cx}{scope:Scope}{N:AM}{BE:List (Option Nat)}{z:Str}
def zcB (c:CompOk X scope N BE):Opn X scope BE (λX'=>∃C s H ex,X'=z5 X scope N C s H ex) where
 kind:=c.kind
 names:=c.names
 cells:=c.cells
 run:=λBC G H3 U Z Q I3 B F k=>by
  show wpAny_newFunctionEnv c.cell (by simp) (λh4 J O=>?_) c.kind;have Y:∀b o,U.heap.get? b=some o->h4.get? b=some o:=λb o e=>O.extBut b o (aN (aw e)) (ae _ e);show k (z5 X scope N U.heap.objs.size U H3 Z) _ _ #[_,_,_,_,BB] #[BB,BB,BB,BB,BB,BB,BB,λ{H'} hn b q=>#[hn b q,aN (F b q),λy=>?_,.inl q,λx a e=>?_,λp hp=>?_],λI' hs=>zhE I3 B I' hs] BB BB (zlx I3 c B F J Y) Y;rcases ay.mp (I3.stkSub b y) with e | e;show (B b q).2.1 e;show (B b q).2.2.1 e;rcases zb7 (c.cells I3.ok) e with y | y;show (B b q).2.2.2.2.1 x a y;simp at y;show absurd (show p∈([]:AB)++[] from hp) (by simp)
def zgM {BC:AB}{G:St}{Q:VK}{acc C:Addr}{H5:Hp}{F:AZ}(J:∃m,F.heap.Ns C m)(O:∀B,Heap.SameBut C F.heap B->Inv X BC G H5 { F with heap:=B })(q:Q (.ref acc) H5):compPost (model X.prog X.w) X.A X.xe none (EP X BC G Q) (.ref acc) C (.ok .next) F:=
 let ⟨m,hn⟩:=J;#[m,hn,λU I=>#[.ref acc,H5,O U I,BB,q]]
def zk1{pos spos px:Pos}{nx:Str}{B first:Sem Value}{BH:Ends}{BC:AB}{G:St}{s:AZ}(Y:X.N.Nodup)(Z:X.N[ix]?=some nx)(J:X.env.scope.names.lookup nx=some .local)(ac:swapsWithSole [.Name nx px] e spos.line X.env=pure true)(ad:(assignEach [.Name nx px] X.env).map (·.2)=[assign (.Name nx px) X.env])(ag:∀U,evalThenUse e X.env U=comprehension e scope X.env pos B false first (some U) >>= λ_=>pure ())(h:∀ (U:Value->Sem Unit) (Qp:AA),(∀acc C H5 I,zfF X BC H5 C->(∃m,I.heap.Ns C m)->(∀O,Heap.SameBut C I.heap O->Inv X BC G H5 { I with heap:=O })->BH.nx (G.set ix (some (.ref acc))) H5->compPost (model X.prog X.w) X.A X.xe (some U) Qp (.ref acc) C (.ok .next) I)->Af X (comprehension e scope X.env pos B false first (some U)) Qp X.xe s) :
  Af X (exec (.Assign [.Name nx px] e spos) X.env) (SP X BC BH) X.xe s:=by
 rw[exec_Assign_arm];show aa (dE ?_);rw[ac];show aa (af ?_);rw[if_pos rfl];show aa ?_;rw[ag];show aa ?_;show h _ _ λacc C H5 I F hm al q=>?_;have IX:=al _ #[BB,λ_ _=>rfl];change wpAny _ _ (assignAll _ ((assignEach [.Name nx px] X.env).map (·.2))) _ _ I;rw[ad];show wpAny_assign_Name (x:=nx) (pos:=px) ?_;show zfu IX Y Z (Or.inl J) (v:=.ref acc) BB (λs7 I7 ⟨a7,an,ap⟩=>?_) (.inr J)
 have as:C≠a7:=by
  intro z;rcases ap with e | e;show F.2.1 (z.trans e);show F.2.2.2.2.1 nx a7 e z.symm
 obtain⟨m6,oC,a0,a1,a2,rC⟩:=hm;show#[m6,#[oC,a0,a1,(an.2 _ as).trans a2,rC],λh8 a3=>af (af ?_)];show#[_,H5,I7.turned (t':=s7.toks) (λb o hb e=>(a3.2 b hb).trans e) F.1 F.2.1 F.2.2.2.1 F.2.2.2.2.1 F.2.2.2.2.2,q]
variable {Fam:Cx->Prop}{use:Option (Value->Sem Unit)}{Qp:AA}{elt tg iter:Expr}{ifs:AO}{pos ipos spos px:Pos}{wi:TI}{g:TG}{ti:TT}{te:TE}{BC:AB}{G:St}{H:Hp}{s:AZ}{Fin:Addr->Hp->Prop}
def zkZ {P:AZ->Prop}{acc:Addr}{Nx:St->Hp->Prop}(he:PE X elt te)(xX:X.xe=λ_ _=>False)(I:Inv X BC G H s)(q:te G H λv H'=>∃xs,H' acc=some (.lst xs)/\xs.length<sizeLine/\Nx G (upd H' acc (.lst (xs++[v]))))(k:∀ B H' s',Inv X BC B H' s'->Nx B H'->P s') :
  Af X (eval elt X.env) (λx s5=>Af X (call (.builtin "list.append") [.ref acc,x]) (λ_ s6=>P s6) (λ_ _=>False) s5) (λ_ _=>False) s:=by
 have e9:=he BC s G H _ I q;rw[xX] at e9;show thn e9 ?_;rintro u2 J ⟨v,H10,I10,O,xs,U,Y,nx⟩;have F:=ze4 (X:=X) _ J G H10 (.ref acc) [v] (.ref acc) [u2] (λ_ H'=>Nx G H') I10 BB (.cons O .nil) #[_,xs,v,BB,BB,U,Y,nx];rw[xX] at F;show thn F (by rintro _ ac ⟨_,H11,I11,_,Z⟩;show k _ _ _ I11 Z)
def ze3 (O:Opn X scope BE Fam)(hc:X.calm=true)(hi:PI X tg iter wi)(hg:∀X',Fam X'->PG X' tg g)(ht:∀X',Fam X'->PTs X' ifs ti)(he:∀X',Fam X'->PE X' elt te)(hs:∀x,foldedSetIterable iter X.env x=pure x)(I:Inv X BC G H s)
  (h:wi G H λJ H1=>∀acc,H1 acc=none->∃W:Nat->Nat->St->Hp->Prop,(∃m,W 0 m (zeO G BE) (upd H1 acc (.lst [])))/\∀i n G H,W i n G H->(J.stop i H/\Fin acc H)\/(J.go i H/\∃Nx:St->Hp->Prop,(∀ U H',Nx U H'->∃m,m<n/\W (i+1) m U H')/\∀x H',J.yld i H x H'->zq2 g ti te acc Nx x G H'))
  (Y:∀acc C H5 F,zfF X BC H5 C->(∃m,F.heap.Ns C m)->(∀Z,Heap.SameBut C F.heap Z->Inv X BC G H5 { F with heap:=Z })->Fin acc H5->compPost (model X.prog X.w) X.A X.xe use Qp (.ref acc) C (.ok .next) F) :
  Af X (comprehension (.ListComp elt [#[tg,iter,ifs,0]] scope pos) scope X.env ipos (newList []) false (eval iter X.env) use) Qp X.xe s:=
 zeQ (ob:={ cls:=.type "list",dict:=none,data:=.seq ([]:AN).toArray }) (o0:=λ_=>.lst []) (B:=λX' acc P s=>wpAny (model X'.prog X'.w) X'.A (eval elt X'.env) (λx s5=>wpAny (model X'.prog X'.w) X'.A (call (.builtin "list.append") [.ref acc,x]) (λ_ F=>P F) (λ_ _=>False) s5) (λ_ _=>False) s) (tb:=λacc Nx G H=>te G H λv H'=>∃xs,H' acc=some (.lst xs)/\xs.length<sizeLine/\Nx G (upd H' acc (.lst (xs++[v])))) O hc BB hs (λ_ _ _ _ _ h0 h1=>codeAny_compStart_list h0 h1) (λ_ _ _ _ _ _ I ac n h=>zdN I ac n h) (λs Q h=>bn h) (λ_ _=>#[aI _,[],0,.nil,av _ BB]) hi hg ht (λX' hF _ _ _ _ xX _ _ _ _ _ _ _ I q k=>zkZ (he X' hF) xX I q k) I h (λJ H1 acc q hn=>q acc hn) Y
end
section
variable {X:Cx}{scope:Scope}{N:AM}{z:Str}
def zlp {P:Cx->Prop}(h:∀C s H ex,P (z5 X scope N C s H ex)):∀X',(∃C s H ex,X'=z5 X scope N C s H ex)->P X':=by right
abbrev EndK (X:Cx)(BC:AB)(G:St)(use:Option (Value->Sem Unit))(Qp:AA)(Q:VK):Prop:=∀acc C H5 B,zfF X BC H5 C->(∃m,B.heap.Ns C m)->(∀q,Heap.SameBut C B.heap q->Inv X BC G H5 { B with heap:=q })->Q (.ref acc) H5->compPost (model X.prog X.w) X.A X.xe use Qp (.ref acc) C (.ok .next) B
end
structure Dfn (K:AH)(mg:AI)(x:Str)(st:Stmt)(ps:AM)(f:Addr)(fd:Ac):Prop where
 F:Fun K x x st f fd
 b:zad K fd ps []
 m:mg x=some (.ref f)
section
variable {X:Cx}
def zr7{x:Str}{st:Stmt}{ps:AM}{f:Addr}{fd:Ac}{sp:Sp}{es:AO}{p pos:Pos}(BH:Dfn X.K X.mg x st ps f fd)(BG:FnOk X.prog X.w X.K X.mg X.base CX0 j f fd ps sp)(J:Room k X.A)(O:PA X (e::es) t)(q:j<=k:=by ext)(U:Gl X x:=by rfl)(B:Ah x:=by ext)(Y:starEach (e::es) X.env=(false,eval e X.env)::starEach es X.env:=by rfl)(I:(backTo pos (starEach es X.env)).any (·.1)=false:=by rfl) :
  PE X (.Call (.Name x p) (e::es) [] pos) (zdd sp [] E0 t):=
 zgd BG (J.mono q) U BH.m BH.F.kp BH.b .nil zjY O B Y I
def zki {bs:List Bool}:((List.range bs.length).all λi=>bs.getD i true)=bs.all id:=by
 rw[cb,bT,bT];constructor;intro h b B;obtain⟨i,hi,e⟩:=ck.mp B;right;intro h i hi;have q:=aK.mp hi;have:=h bs[i] (bz q);right
def zk5 (hc:X.calm=true):zdJ X (.builtin "all") (λxs H Q=>∃ (p:Addr) (bs:List Bool),xs=[.ref p]/\H p=some (.lst (bs.map V.bl))/\Q (.bl (bs.all id)) H):=by
 intro BC s G H xs us Q I r h;obtain⟨p,bs,rfl,hp,q⟩:=h;obtain⟨u,rfl,ru⟩:=za7 r;cases ru;obtain⟨B,Y,pl,hz⟩:=I.list (.of hp);have F:=Y.length;rw[ab] at F;have W:Walks X.prog X.w X.A.in1 s.heap.objs.size [s.heap.objs.size,p] [s.heap.objs.size] B.toArray.size (λi v=>B.toArray[i]?=some v) (λi h=>h.IsListIter s.heap.objs.size p i/\h.IsList p B.toArray):=by show Walks.list (A:=X.A.in1) (I.ok.hd hc) s.heap.objs.size p ?_ B.toArray;obtain⟨o,_,ho,_⟩:=pl;show aN (aw ho)
 show call_all_walk (gb pl.isList #[s.heap.objs.size,_,_,_,_,_,λi=>bs.getD i true,BB,W,#[?_,?_],?_,?_]);show#[_,av _ BB,BB,BB];show pl.isList.at λo e=>ae _ e;intro i v s' Q' E' hP O;have U:B[i]?=some v:=by simpa using hP
 have hi:i<bs.length:=by grind
 have hb:(bs.map V.bl)[i]?=some (V.bl bs[i]):=by simp[hi]
 obtain⟨u',J,rb⟩:=Y.get hb;rw[U] at J;cases J;cases rb;have:bs.getD i true=bs[i]:=by simp[hi]
 dsimp only at O;rw[this] at O;show cK O;intro h' tk hk;have e:(List.range B.toArray.size).all (λi=>bs.getD i true)=bs.all id:=by rw[aP,<- F];show zki
 rw[e];show#[.bl _,H,I.kept (t':=tk) λb o Z=>hk b o (by simp;show aN (aw Z)) (ae _ Z),BB,q]
end
structure QE (X:Cx)(e:Expr)(t:TE):Prop where
 run:PE X e t
structure QT (X:Cx)(e:Expr)(t:TT):Prop where
 run:PT X e t
structure QW (X:Cx)(e:Expr)(t:TT):Prop where
 run:PW X e t
structure QC (X:Cx)(op:CmpOp)(a b:Expr)(t:TE):Prop where
 run:PC X op a b t
structure QA (X:Cx)(es:AO)(t:TA):Prop where
 run:PA X es t
structure QS (X:Cx)(s:Stmt)(t:TS):Prop where
 run:PS X s t
structure QSs (X:Cx)(s:List Stmt)(t:TS):Prop where
 run:PSs X s t
structure QG (X:Cx)(e:Expr)(t:TG):Prop where
 run:PG X e t
structure QGs (X:Cx)(es:AO)(t:TGs):Prop where
 run:PGs X es t
structure QI (X:Cx)(tg e:Expr)(t:TI):Prop where
 run:PI X tg e t
structure QO (X:Cx)(e:Option Expr)(t:TO):Prop where
 run:PO X e t
structure QP (X:Cx)(pos:Pos)(ks:List (Option Expr))(vs:AO)(t:List (TE×TE)):Prop where
 run:PPs X pos ks vs t
structure QTs (X:Cx)(es:AO)(t:TT):Prop where
 run:PTs X es t
structure OpQ (X:Cx)(f:Value->Value->Sem Value)(r:R2):Prop where
 run:OpR X f r
structure UnQ (X:Cx)(f:Value->Sem Value)(r:V->Hp->VK->Prop):Prop where
 run:UnR X f r
structure CallQ (X:Cx)(f:Value)(r:AT->Hp->VK->Prop):Prop where
 run:zdJ X f r
structure IxQ (X:Cx)(r:R2):Prop where
 run:IxR X r
structure SlQ (X:Cx)(r:V->AQ->AQ->Hp->VK->Prop):Prop where
 run:SlR X r
section
variable {X:Cx}{e a b c:Expr}{es:AO}{te ta tb tc:TE}{t u:TT}{pos p:Pos}
def qv(i:Nat)(B:X.N[i]?=some x:=by rfl)(F:Vis X.env.scope x:=by fail"v")(I:Ah x:=by ext)(q:(x==("__classdict__" : Str))=false:=by ext):QE X (.Name x pos) (za4 i):=#[zns B F I q]
def yC{i:Int}:QE X (.Constant (.int i) j pos) (tC (.int i)):=#[znr]
def zpN:QE X (.Constant (.bool k) j pos) (tC (.bl k)):=#[zvl]
def zsx:QE X (.Constant .none j pos) (tC .non):=#[zr8]
def xp:QE X (.Constant (.str x) j pos) (tC (.str x)):=#[zsb]
def zpO(q:Gl X x)(B:X.mg x=none)(F:bootBuiltins x=some w)(r:yo v w)(hn:x ≠ "__name__" := by ext)(I:Ah x:=by ext):QE X (.Name x pos) (tC v):=#[zpl q B F r hn I]
def z7:OpQ X (binaryOp .Add) (rI0 λi j=>.int (i+j)):=#[zrQ]
def zg8:OpQ X (binaryOp .Sub) (rI0 λi j=>.int (i - j)):=#[zrX]
def uS:OpQ X (binaryOp .Mult) (rI zmX λi j=>.int (i * j)):=#[zrU]
def zcC:OpQ X (binaryOp .FloorDiv) (rI zqQ λi j=>.int (i / j)):=#[zph]
def uz:OpQ X (binaryOp .Mod) (rI (λ_ j=>0<j) λi j=>.int (i % j)):=#[zrT]
def zr1:OpQ X (binaryOp .Pow) (rI CPow λi j=>.int (i ^ j.toNat)):=#[zrW]
def xP:OpQ X (binaryOp .Add) (zmn X.K):=#[zpf]
def zrY:OpQ X (binaryOp .Add) rCat:=#[zrR]
def zhO:OpQ X (compareOp .Lt) (rI0 λi j=>.bl (decide (i<j))):=#[zvj]
def zpj:OpQ X (compareOp .LtE) (rI0 λi j=>.bl (decide (i<=j))):=#[zvi]
def zjU:OpQ X (compareOp .Gt) (rI0 λi j=>.bl (decide (j<i))):=#[zvh]
def zrZ:OpQ X (compareOp .GtE) (rI0 λi j=>.bl (decide (j<=i))):=#[zvg]
def yY:OpQ X (compareOp .Eq) rEq:=#[zvf]
def zdb:OpQ X (compareOp .NotEq) rNe:=#[zvk]
def zfg:OpQ X (compareOp .In) (rIn X.K false):=#[zjS]
def zbx:OpQ X (compareOp .NotIn) (rIn X.K true):=#[zff]
def zfy:UnQ X (unaryOp .USub) (rU λi=>.int (-i)):=#[znT]
def yL(B:OpQ X (binaryOp q) r)(F:QE X a ta)(I:QE X b tb):QE X (.BinOp a q b pos) (tOp r ta tb):=#[zvn B.run F.run I.run]
def zvr(B:UnQ X (unaryOp q) r)(F:QE X a ta):QE X (.UnaryOp q a pos) (tUn r ta):=#[zsc B.run F.run]
def zpP(B:OpQ X (compareOp q) r)(F:QE X a ta)(I:QE X b tb)(J:behindInMarks q b=false):QE X (.Compare a [q] [b] pos) (tOp r ta tb):=#[zpm B.run F.run I.run J]
def uV(B:OpQ X (compareOp q) r)(F:QE X a ta)(I:QE X b tb)(J:behindInMarks q b=false):QT X (.Compare a [q] [b] pos) (zqx (tOp r ta tb)):=#[zpH B.run F.run I.run J]
def zmf(J:OpQ X (compareOp B) r)(F:OpQ X (compareOp q) I)(O:QE X a ta)(U:QE X b tb)(Y:QE X c tc)(Z:lastMarks [B,q] [b,c]=false:=by with_unfolding_all rfl) :
  QE X (.Compare a [B,q] [b,c] pos) (zkx r I ta tb tc):=#[zl6 J.run F.run O.run U.run Y.run Z]
def znw(q:QE X a ta):QC X .Is a (.Constant .none j pos') (zvJ ta):=#[zr4 q.run]
def znB(h:QC X q a b te)(h1:behindInMarks q b=false:=by first | show zg5 _ (by ext) (by ext) | rfl):QT X (.Compare a [q] [b] pos) (tB te):=#[znv h.run h1]
def znC (h:QE X e te)(he:∀whole,isTrue e X.env whole=(do let v <- whole;standAt e.pos;holding [v] (truthy v)):=by intro _;rfl):QT X e (tB te):=#[zsr h.run he]
def zsB (h:QT X a t):QT X (.UnaryOp .Not a pos) (tNot t):=#[zsq h.run]
def zgk (h:QT X a t):QW X (.BoolOp .And [a] pos) t:=#[zpM h.run]
def zsC (h:QT X a t):QW X (.BoolOp .Or [a] pos) t:=#[zst h.run]
def zhf {zx:AO}(h:QT X a t)(h':QW X (.BoolOp .And (b::zx) pos) u):QW X (.BoolOp .And (a::b::zx) pos) (zvF t u):=#[zss h.run h'.run]
def zvt {zx:AO}(h:QT X a t)(h':QW X (.BoolOp .Or (b::zx) pos) u):QW X (.BoolOp .Or (a::b::zx) pos) (tOr t u):=#[zvq h.run h'.run]
def QW.pt (h:QW X e t):QT X e t:=#[h.run.pt]
def zsz(h:QE X a ta):QE X (.BoolOp q [a] pos) ta:=#[zsa h.run]
def zsu {zx:AO}(q:QE X a ta)(B:QE X (.BoolOp .And (b::zx) pos) tb):QE X (.BoolOp .And (a::b::zx) pos) (zs2 ta tb):=#[zr5 q.run B.run]
def zsy (q:QE X a ta):QE X (.UnaryOp .Not a pos) (zs9 ta):=#[zr9 q.run]
def zmk (q:QT X c t)(B:QE X a ta)(F:QE X b tb):QE X (.IfExp c a b pos) (tIf t ta tb):=#[zl8 q.run B.run F.run]
def yR:QA X [] zqv:=#[znq]
def zZ(q:QE X e te)(B:QA X es ts)(hs:starEach (e::es) X.env=(false,eval e X.env)::starEach es X.env:=by rfl):QA X (e::es) (zbQ te ts):=#[zbk q.run B.run hs]
def zmh:QE X (.Dict [] [] pos) znM:=#[zl7]
def zpZ:QP X pos [] [] []:=#[zpF]
def zeo(B:QE X k tk)(F:QE X v tv)(I:QP X pos ks vs q):QP X pos (some k::ks) (v::vs) ((tk,tv)::q):=#[zmc B.run F.run I.run]
def zpR(h:QP X pos q B F)(I:q.all (·.isSome)=true)(O:q.length=B.length)(U:q≠[])(J:q.length<=15):QE X (.Dict q B pos) (zs3 F):=#[zpn h.run I O U J]
def zgh:QO X none zkA:=#[zpD]
def zgi (h:QE X e te):QO X (some e) (zta te):=#[zpE h.run]
def zgw:SlQ X rSlA:=#[zql]
def zqn:SlQ X (rSlL X.K):=#[zqk]
def zb1{r:V->AQ->AQ->Hp->VK->Prop}{lo hi:Option Expr}{tl th:TO}(q:SlQ X r)(B:QE X e te)(F:QO X lo tl)(I:QO X hi th):QE X (.Subscript e (.Slice lo hi none p2) pos) (tSl r te tl th):=#[zl9 q.run B.run F.run I.run]
def zH:IxQ X (ztT X.K):=#[zoF]
def yD:IxQ X (zsD X.K):=#[zrw]
def zml(q:IxQ X r)(B:QE X a ta)(F:QE X b tb)(hs:zfG b):QE X (.Subscript a b pos) (tOp r ta tb):=#[zvm q.run B.run F.run hs]
def uT (q:X.A.units+1<cLine)(B:QE X a ta)(F:QE X b tb)(hs:zt0 b):QE X (.Subscript a b pos) (zqq ta tb):=#[zj1 q B.run F.run hs]
def zS:CallQ X (.builtin "len") (λxs H Q=>∃x n,xs=[x]/\ztz X.K x H n/\Q (.int n) H):=#[zk6]
def ziq:CallQ X (.builtin "abs") (λxs H Q=>∃i,xs=[.int i]/\Q (.int (if i<0 then -i else i)) H):=#[zk4]
def zir:CallQ X (.builtin "isinstance") (λxs H Q=>∃x T t b,xs=[x,.ty T]/\TyOf X.K H x t/\PySem.W.kitOne X.K t (.type T)=some b/\Q (.bl b) H):=#[zfM]
def zq3 (q:X.calm=true):CallQ X (.builtin "all") (λxs H Q=>∃ (p:Addr) (bs:List Bool),xs=[.ref p]/\H p=some (.lst (bs.map V.bl))/\Q (.bl (bs.all id)) H):=#[zk5 q]
def zhx:CallQ X (.type "list") (λxs H Q=>∃p ys,xs=[.ref p]/\(SqL X.K H p ys\/SqT X.K H p ys)/\∀l,H l=none->Q (.ref l) (upd H l (.lst ys))):=#[zeN]
def zfP:CallQ X (.type "tuple") (λxs H Q=>∃p ys,xs=[.ref p]/\((SqL X.K H p ys/\∀l,H l=none->Q (.ref l) (upd H l (.tup ys)))\/(SqT X.K H p ys/\Q (.ref p) H))):=#[zdM]
def xh {id:String}{r:AT->Hp->VK->Prop}{x:Str}{ts:TA}(F:CallQ X (.builtin id) r)(I:Gl X x)(J:X.mg x=none)(O:bootBuiltins x=some (.builtin id))(U:QA X (e::es) ts)(hn:x ≠ "__name__" := by ext)(q:Ah x:=by ext)
  (Y:starEach (e::es) X.env=(false,eval e X.env)::starEach es X.env:=by rfl) (B:(backTo pos (starEach es X.env)).any (·.1)=false:=by rfl):QE X (.Call (.Name x p) (e::es) [] pos) (tCB r ts):=#[zl5 F.run I J O U.run hn q Y B]
def zcG(F:CallQ X (.type T) r)(I:Gl X x)(J:X.mg x=none)(O:bootBuiltins x=some (.type T))(U:QA X (e::es) ts)(hn:x ≠ "__name__" := by ext)(q:Ah x:=by ext)(Y:starEach (e::es) X.env=(false,eval e X.env)::starEach es X.env:=by rfl)(B:(backTo pos (starEach es X.env)).any (·.1)=false:=by rfl):QE X (.Call (.Name x p) (e::es) [] pos) (tCB r ts):=#[zj0 F.run I J O U.run hn q Y B]
def zmj{x:Str}{st:Stmt}{ps:AM}{f:Addr}{fd:Ac}{sp:Sp}(BH:Dfn X.K X.mg x st ps f fd)(BG:FnOk X.prog X.w X.K X.mg X.base CX0 j f fd ps sp)(I:Room k X.A)(J:QA X (e::es) ts)(q:j<=k:=by ext)(O:Gl X x:=by rfl)(B:Ah x:=by ext)(U:starEach (e::es) X.env=(false,eval e X.env)::starEach es X.env:=by rfl)(F:(backTo pos (starEach es X.env)).any (·.1)=false:=by rfl) :
  QE X (.Call (.Name x p) (e::es) [] pos) (zdd sp [] E0 ts):=#[zr7 BH BG I J.run q O B U F]
def zaA(q:X.N.Nodup)(hi:X.N[i]?=some x)(B:Loc X.env.scope x)(F:X.fn x=true\/X.env.scope.names.lookup x=some .local:=by fail"l"):QG X (.Name x pos) (zbM i):=#[zpx q hi B F]
def zgg:QGs X [] gNil:=#[zpy]
def uq(h1:QG X e g)(h2:QGs X es gs)(hs:(assignEach (e::es) X.env).map (·.2)=assign e X.env::(assignEach es X.env).map (·.2):=by rfl):QGs X (e::es) (zrp g gs):=#[zma h1.run h2.run hs]
def znz {k:Nat}{gs:TGs}{n:Nat}(B:X.calm=true)(h:QGs X es gs)(hn:(assignEach es X.env).length=n:=by rfl)(q:(assignEach es X.env).findIdx? (·.1)=none:=by rfl):QG X (.Tuple es k pos) (zuB X.K n gs):=#[zsj B h.run hn q]
def zpW(q:QE X e te):QI X tg e (zoz X.K te):=#[zpA q.run]
def zkb(q:QE X e te):QI X tg e (zuD X.K te):=#[zsk q.run]
def zka(q:Gl X "range")(B:X.mg "range" = none)(F:QA X [a] ts)(hs:starEach [a] X.env=[(false,eval a X.env)]:=by rfl):QI X tg (.Call (.Name "range" p) [a] [] pos) (zrr ts):=#[zj3 q B F.run hs]
def zp1:QTs X [] zkB:=#[zpI]
def zke (h:QT X c t):QTs X [c] t:=#[zpJ h.run]
def zpQ(B:X.calm=true)(c:CompOk X scope N BE)(hi:QI X tg iter wi)(F:∀C s H ex,QG (z5 X scope N C s H ex) tg g)(J:∀C s H ex,QTs (z5 X scope N C s H ex) ifs ti)(O:∀C s H ex,QE (z5 X scope N C s H ex) elt te)(hs:∀x,foldedSetIterable iter X.env x=pure x:=by intro _;rfl):QE X (.ListComp elt [#[tg,iter,ifs,0]] scope pos) (zvG wi g ti te BE):=#[λBC s G H Q I h=>by
 rw[eval_ListComp];show ze3 (Fin:=λacc H=>Q (.ref acc) H) (zcB c) B hi.run (zlp λC s H ex=>(F C s H ex).run) (zlp λC s H ex=>(J C s H ex).run) (zlp λC s H ex=>(O C s H ex).run) hs I h λ_ _ _ _ _ U Y q=>zgM U Y q]
end
section
variable {X:Cx}{st:Stmt}{BF body a b:List Stmt}{t u:TS}{e o i:Expr}{te td ty tv:TE}{pos:Pos}
def zcH:QSs X [] zqu:=#[zj8]
def yi (h1:QS X st t)(h2:QSs X BF u):QSs X (st::BF) (zqw t u):=#[zaV h1.run h2.run]
def xq (h1:QS X st t):QSs X [st] t:=#[zen h1.run]
def zgj (q:QE X e te)(hs:swapsWith e none pos.line X.env=pure false:=by rfl):QS X (.Expr e pos) (zqs te):=#[zpG q.run hs]
def zar (q:QE X e te):QS X (.Return (some e) pos) (ztb te):=#[znu q.run]
def zkd(q:QT X c tc)(B:QSs X a t)(F:QSs X b u):QS X (.If c a b pos) (zvI tc t u):=#[zsn q.run B.run F.run]
def uU {i:Nat}{x:Str}{pos':Pos}(q:X.N.Nodup)(hi:X.N[i]?=some x)(B:Loc X.env.scope x)(F:QE X e te)(hs:swapsWith e (some (.Name x pos')) pos.line X.env=pure false:=by rfl)(I:X.fn x=true\/X.env.scope.names.lookup x=some .local:=by fail"l") :
  QS X (.Assign [.Name x pos'] e pos) (zic te (zbM i)):=#[zsp q hi B F.run hs I]
def zsA(q:QE X e te)(B:QG X tg g)(hs:swapsWithSole [tg] e pos.line X.env=pure false:=by rfl)(F:swappedStores [tg] e X.env=pure none:=by rfl)(h1:(assignEach [tg] X.env).map (·.2)=[assign tg X.env]:=by rfl):QS X (.Assign [tg] e pos) (zic te g):=#[zsl q.run B.run hs F h1]
def zep(q:X.A.units+1<cLine)(B:QE X o td)(hi:QE X i ty)(F:QE X e tv)(hs:swapsWith e (some (.Subscript o i pos')) pos.line X.env=pure false):QS X (.Assign [.Subscript o i pos'] e pos) (zqf td ty tv):=#[zj7 q B.run hi.run F.run hs]
def znA(q:PassesOwn (model X.prog X.w) X.A X.env X.xe)(B:X.calm=true)(hi:QI X tg iter wi)(F:QG X tg g)(I:QSs X body t)(hs:∀x,foldedSetIterable iter X.env x=pure x:=by intro _;rfl):QS X (.For tg iter body [] pos) (zvH wi g t):=#[zsm q B hi.run F.run I.run hs]
end
def Fun.okQ{P:Aa}{w:Ab}{K:AH}{mg:AI}{base:Heap}{x B:Str}{st:Stmt}{f:Addr}{fd:Ac}{N ps:AM}{sp:Sp}(F:Fun K x B st f fd)(S:FnScope N ps (zd st))(O:∀vs H Q E,sp vs H Q E->vs.length=ps.length)(J:∀ (I:Value) (A:Ae) (q:List Env) (s:AZ) (H:Hp) (vs:AT) (Q:VK) (E:XK),Room k (A.deeper (envOfC B (zd st) s.heap.objs.size f I))->sp vs H Q E->
   ∃t,QSs (zeG CX0 P w K mg base N B (zd st) f I A q s H E).nox (zC st) t/\t { nx:=λ_ H'=>Q .non H',rt:=Q } (xx N vs) H):FnOk P w K mg base CX0 (k+1) f fd ps sp:=
 F.ok S O λI A q s H vs Q E U h=>by obtain⟨t,h1,h2⟩:=J I A q s H vs Q E U h;show#[t,h1.run,h2]
def s_ca:¬ (("script" : Str) = "at"):=by decide +kernel
def s_cl:¬ (("script" : Str) = "left"):=by decide +kernel
def s_al:¬ (("at" : Str) = "left"):=by decide +kernel
def zuM:¬ (Sum.inr "script" : Key)=(Sum.inr "at" : Key):=λz=>s_ca (Sum.inr.inj z)
def zuN:¬ (Sum.inr "script" : Key)=(Sum.inr "left" : Key):=λz=>s_cl (Sum.inr.inj z)
def ztH:¬ (Sum.inr "at" : Key)=(Sum.inr "left" : Key):=λz=>s_al (Sum.inr.inj z)
def zaU (c:Addr)(a l:Int):List (Key×V):=[(Sum.inr "script",.ref c),(Sum.inr "at",.int a),(Sum.inr "left",.int l)]
def zvo (c:Addr)(a l:Int):uE (zaU c a l) (Sum.inr "script" : Key)=some (.ref c):=yd BB
def zpw (c:Addr)(a l:Int):uE (zaU c a l) (Sum.inr "at" : Key)=some (.int a):=by unfold zaU;rw[yc zuM,yd rfl]
def zvp (c:Addr)(a l:Int):uE (zaU c a l) (Sum.inr "left" : Key)=some (.int l):=by unfold zaU;rw[yc zuN,yc ztH,yd rfl]
def zsf (c:Addr)(a l b:Int):zah (zaU c a l) (Sum.inr "at" : Key) (.int b)=zaU c b l:=by unfold zah zaU;have q:=zuM;have B:¬ (Sum.inr "left" : Key)=(Sum.inr "at" : Key):=λz=>ztH z.symm;simp[q,B]
def zsg (c:Addr)(a l b:Int):zah (zaU c a l) (Sum.inr "left" : Key) (.int b)=zaU c a b:=by unfold zah zaU;have q:=zuN;have B:=ztH;simp[q,B]
def zse (c:Addr)(a l:Int):zcv [] (zaU c a l)=zaU c a l:=by unfold zcv zaU;have q:=zuM;have B:=zuN;have F:=ztH;simp[zah,q,B,F]
def PLs (H:Hp)(c:Addr)(ns:AG):Prop:=(∃r,ns=0::r/\∃ob,H c=some (.frz ob (.lst (r.map V.int))))\/∃r,ns=1::r
def PLs.but{ns:AG}(P:PLs H c ns)(h:∀r ob,ns=0::r->H c=some (.frz ob (.lst (r.map V.int)))->H' c=some (.frz ob (.lst (r.map V.int)))):PLs H' c ns:=by
 rcases P with ⟨r,e,o,z⟩ | P;show .inl #[r,e,o,h r o e z];show .inr P
def PLs.same{ns:AG}(P:PLs H c ns)(h:yT H H'):PLs H' c ns:=P.but λ_ _ _ e=>h _ _ e
def PLs.upd{ns:AG}(P:PLs H c ns)(h:∀r,ns=0::r->c≠b):PLs (upd H b u) c ns:=P.but λr _ e z=>by rw[zf (h r e)];show z
def KL (K:AH)(c:Addr)(ns:AG):Prop:=∃r,ns=0::r\/(ns=1::r/\∃ (o:Obj) (q:AK) (n:Nat),K.lookup c=some o/\o.cls = .type "list" /\ o.dict=none/\o.data = .seq q n/\q.size<=sizeLine/\zR (r.map V.int) q.toList)
def KL.seq {K:AH}{H:Hp}{c:Addr}{ns:AG}(k:KL K c ns)(P:PLs H c ns):∃r:AG,SqL K H c (r.map V.int):=by
 obtain⟨r,e | ⟨e,k⟩⟩:=k;rcases P with ⟨r',e',z⟩ | ⟨r',e'⟩;rw[e] at e';cases e';show#[r,.inl (.inr z)];rw[e] at e';cases e';show#[r,.inr k]
structure Pen (H:Hp)(p c:Addr)(ns:AG)(n:Nat):Prop where
 ob:∃a l:Int,H p=some (.dK (zaU c a l))/\0<=a/\a<=n/\0<=l
 ls:PLs H c ns
 len:ns.length<=64
def Pen.same{ns:AG}(P:Pen H p c ns n)(h:yT H H'):Pen H' p c ns n:=by obtain⟨⟨a,l,h1,h2,q,B⟩,F,I⟩:=P;show#[#[a,l,h _ _ h1,h2,q,B],F.same h,I]
def zez{a l:Int}(h:H p=some (.dK (zaU c a l))):zy H (upd H p o):=λb u e n=>by
 by_cases q:b=p;subst q;rw[h] at e;cases e;have:=n _ BB;rw[zpw] at this;cases this;rw[zf q];show e
section
variable {H:Hp}{p c:Addr}{a l:Int}
def zhb (h:H p=some (.dK (zaU c a l))):zc0 H p (.str "script") (some (.ref c)):=by have:=zc0.k (k:=(Sum.inr "script" : Key)) h;rw[zvo] at this;show this
def zsd (h:H p=some (.dK (zaU c a l))):zc0 H p (.str "at") (some (.int a)):=by have:=zc0.k (k:=(Sum.inr "at" : Key)) h;rw[zpw] at this;show this
def zj2 (h:H p=some (.dK (zaU c a l))):zc0 H p (.str "left") (some (.int l)):=by have:=zc0.k (k:=(Sum.inr "left" : Key)) h;rw[zvp] at this;show this
def zsh (h:H p=some (.dK (zaU c a l)))(b:Int):zfE H p (.str "at") (.int b) (upd H p (.dK (zaU c b l))):=by have:=zfE.k (k:=(Sum.inr "at" : Key)) (v:=.int b) h (by change 3<sizeLine;decide);rw[zsf] at this;show this
def znt (h:H p=some (.dK (zaU c a l)))(b:Int):zfE H p (.str "left") (.int b) (upd H p (.dK (zaU c a b))):=by have:=zfE.k (k:=(Sum.inr "left" : Key)) (v:=.int b) h (by change 3<sizeLine;decide);rw[zsg] at this;show this
end
def zqZ (ns:AG)(a:Int)(h:0<((ns.map V.int).length:Int)):∃z,atI (ns.map V.int) (a % ((ns.map V.int).length:Int))=some (.int z):=by
 have q:=cO a (show ((ns.map V.int).length:Int)≠0 by lia);have h1:=cg a h;generalize F:a % ((ns.map V.int).length:Int)=m at q h1;obtain⟨j,rfl⟩:∃j:Nat,m=j:=#[m.toNat,by lia];have B:j<ns.length:=by rw[ab] at h1;lia
 show#[ns[j],zii (by simp[B])]
def meet {α:Type}{BG:Prop}(P:α->Prop)(h:(∀a,P a)->BG)(r:∀a,P a):BG:=h r
def zu7 {BG:Prop}(P:Prop)(h:P->BG)(r:P):BG:=h r
def znL (K:AH):Sp:=λvs H Q _=>∃ (p c:Addr) (ns:AG) (n:Nat) (zN:Int),vs=[.ref p,.int zN]/\KL K c ns/\Pen H p c ns n/\n<=1000000/\1<=zN/\zN<1073741824/\
 ∀ (r:Int) (H':Hp),0<=r->r<zN->Pen H' p c ns (n+1)->zy H H'->Q (.int r) H'
def zmF (K:AH):Sp:=λvs H Q _=>∃ (a:Addr) (ns:AG),vs=[.ref a]/\KL K a ns/\PLs H a ns/\ns.length<=64/\∀ (p:Addr) (H':Hp),Pen H' p a ns 0->yT H H'->Q (.ref p) H'
def yz (ns:AG):Int:=ns.foldl (· * ·) 1
def xl (ns:AG)(n:Int):yz (ns++[n])=yz ns * n:=by unfold yz;rw[List.foldl_append];rfl
def zw{α:Type}{l:List α}{x:α}(h:l[i]?=some x):l.take (i+1)=l.take i++[x]:=by rw[List.take_succ,h];rfl
def Dt.inBox:Dt->Bool
 | .int i=>decide (2<=i)&&decide (i<=4)
 | _=>false
def Dt.val:Dt->Int
 | .int i=>i
 | _=>0
theorem uu:∀ (ns:AG),(ns.map Dt.int).map Dt.val=ns
 | []=>rfl
 | n::ns=>by simp only[aD,uu ns];rfl
def zhX (K:AH):Sp:=λvs H Q _=>∃ (a:Addr) (ns:AG),vs=[.ref a]/\KL K a ns/\PLs H a ns/\ns.length<=64/\∀H',Q (.bl true) H'
def zmE{K:AH}{H:Hp}{a:Addr}{ns:AG}{Q:VK}(I:ztA H)(B:SqL K H a (ns.map V.int))(F:ns.length<=63)(q:∀H',Q (.bl true) H'):zhX K [.ref a] H Q E:=by
 rcases B with B | B
 ·show#[a,0::ns,BB,#[ns,.inl BB],.inl #[ns,BB,?_],dR F,q];rcases B with z | z
  ·rcases I a with y | ⟨_,_,y⟩ <;> (rw[z] at y;cases y)
  show z
 show#[a,1::ns,BB,#[ns,.inr #[BB,B]],.inr #[ns,BB],dR F,q]
section
variable {prog:Aa}{w:Ab}{A:Ae}{E:AA}{s:AZ}
def yS{items}(q:s.heap.IsTupleIter B t i)(U:s.heap.IsTuple t items)(Y:items[i]?=some x)(Z:∀h',h'.IsTupleIter B t (i+1)->Heap.SameBut B s.heap h'->Q x { s with heap:=h' }):Ag prog w A (Builtin.SmallTypes.nextOf (.ref B)) Q E s:=by
 obtain⟨o,I,hc,F⟩:=id q;obtain⟨ol,J,_,nl,O⟩:=U;unfold Builtin.SmallTypes.nextOf
 show aa (wpAny_callSpecial?_slot (name:=Str.ofString "__next__") q.typeIs cS
  (aW cS q.typeIs fJ ?_ (fq _)))
 change wpAny _ _ (field (.ref B) 0 >>= _) _ _ s;show aa (bW I F (x:=.ref t) BB ?_);change wpAny _ _ (if (Value.ref t==Value.none)=true then _ else _) _ _ s;rw[if_neg (by grind)];change wpAny _ _ (field (.ref B) 1 >>= _) _ _ s;show aa (bW I F (x:=.int i 0) BB ?_);change wpAny _ _ (seqItems? (.ref t) >>= _) _ _ s;show aa (cJ J O ?_);simp only[aQ,Y];show aa (bJ I F (by simp) (af #[x,BB,af (Z _ ?_ (bq ..))]))
 show#[_,bu _ I (dC (ci F _)),(eE ..).trans hc,by
  rw[ci F];simp[rawInt]]
def y9{items}(U:A.handled=none)(q:s.heap.IsTupleIter B t i)(Y:s.heap.IsTuple t items)(Z:items[i]?=none)(hE:∀h' e,Heap.ExtBut B s.heap h'->(∃o,h'.get? e=some o/\o.cls = .type "StopIteration")->E (.ref e) { s with heap:=h' }):Ag prog w A (Builtin.SmallTypes.nextOf (.ref B)) Q E s:=by
 obtain⟨o,F,hc,I⟩:=id q;obtain⟨ol,J,_,nl,O⟩:=Y;unfold Builtin.SmallTypes.nextOf
 show aa (wpAny_callSpecial?_slot (name:=Str.ofString "__next__") q.typeIs cS
  (aW cS q.typeIs fJ ?_ (fq _)))
 change wpAny _ _ (field (.ref B) 0 >>= _) _ _ s;show aa (bW F I (x:=.ref t) BB ?_);change wpAny _ _ (if (Value.ref t==Value.none)=true then _ else _) _ _ s;rw[if_neg (by grind)];change wpAny _ _ (field (.ref B) 1 >>= _) _ _ s;show aa (bW F I (x:=.int i 0) BB ?_);change wpAny _ _ (seqItems? (.ref t) >>= _) _ _ s;show aa (cJ J O ?_);simp only[aQ,Z];show aa (cZ (aa (bJ F I (by simp) ?_)));change wpAny _ _ (newExc (.type "StopIteration") [] >>= _) _ _ _;show aa ?_;simp only[newExc,newTuple];show aa (bn ?_ (by size_fits));show aa (m:=firstArgMember _ _) (wpAny_of_eq (a:=Value.none) (by first | rfl | (simp only[firstArgMember];rfl)) ?_);show bn ?_ (by size_fits);simp only[raiseNew];show aa (gr ?_)
 first | rw[show A.in1.handled=none from U] | rw[U]
 show aa (af (wpAny_throw ?_));show hE _ _ (((bq ..).extBut.push _).push _) #[_,av _ BB,BB]
def zfT (O:A.handled=none)(q l:Addr)(I:l≠q)(items:AK) :
  Draws prog w A q [q,l] items.size (λi v=>items[i]?=some v) (λi h=>h.IsTupleIter q l i/\h.IsTuple l items) where
 live:=λ_ _ st=>let ⟨o,ho,_⟩:=st.1;#[o,ho]
 frame:=λ_ _ _ st J=>#[let ⟨o,ho,r⟩:=st.1;#[o,J q (by simp) o ho,r],let ⟨o,ho,r⟩:=st.2;#[o,J l (by simp) o ho,r]]
 item:=λi s Q E hi st U=>by show yS st.1 st.2 (x:=items[i]) (by simp[hi]) λh' B F=>?_;show U _ h' s.toks (by simp[hi]) #[B,st.2.extBut F.extBut I] F
 done:=λs Q E st Y=>y9 O st.1 st.2 (by simp) Y
def zaf (l:Addr)(items:AK)(n:Nat)(B:Option Addr)(J:Array AJ) :
  Meets (Builtin.«enumerate.__new__» #[[.type "enumerate",.ref l],[]]) (λ_ R s=>s.heap.get? l=some { cls:=.type "tuple",dict:=B,data:=.seq items n,slots:=J }/\
   R (.ok (.ret (.ref (s.heap.push { cls:=.type "tuple_iterator",data:=.fields #v[.ref l,.int 0 0] }).objs.size)))
    { s with heap:=(s.heap.push { cls:=.type "tuple_iterator",data:=.fields #v[.ref l,.int 0 0] }).push { cls:=.type "enumerate",data:=.fields #v[.none,.bool false,.ref s.heap.objs.size,rawInt 0,.none,.none] } }):=
 .of_wp λprog w A R s h=>by
  obtain⟨O,g,d,tk,U⟩:=s;obtain⟨q,h⟩:=h;have I:=sub_enumerate;have F:Heap.IsTuple (Shared.heap #[O,g,d,tk,U]) l items:=#[_,q,BB,n,BB]
  wp_walk using bY q
  show wpAny_stack_any λst=>af ?_;split
  ·rename_i c _ _ _ _ _;cases (c==Value.type "enumerate")
   wp_walk using bY q,cW F
   show#[_,BB,h]
   wp_walk using bY q,cW F
   show#[_,BB,h]
  wp_walk using bY q,cW F
  show#[_,BB,h]
def zae(Y:s.heap.IsTuple l items)(h:∀h',IsEnum h' (s.heap.objs.size+1) s.heap.objs.size 0 .none->h'.IsTupleIter s.heap.objs.size l 0->h'.objs.size=s.heap.objs.size+2->
   (∀b o,s.heap.get? b=some o->h'.get? b=some o)->Q (.ref (s.heap.objs.size+1)) { s with heap:=h' }) :
  Ag prog w A (call (.type "enumerate") [.ref l]) Q E s:=by
 obtain⟨⟨c,q,Z,sl⟩,hl,B,n,I⟩:=Y
 replace B:c = .type "tuple" := B
 replace I:Z = .seq items n:=I
 subst B I
 show callType_new F.called_enumerate (by ext) (F.typeCall_enumerate_1 _) (F.newCall_enumerate_1 _) (λJ=>F.args_object_init_2 J _) F.entry_enumerate_new
  (zaf l items n q sl) #[hl,?_]
 have O:(s.heap.push { cls:=.type "tuple_iterator",data:=.fields #v[.ref l,.int 0 0] }).objs.size=s.heap.objs.size+1:=cI ..;change _/\_;rw[O]
 have U:IsEnum ((s.heap.push { cls:=.type "tuple_iterator",data:=.fields #v[.ref l,.int 0 0] }).push
   { cls:=.type "enumerate",data:=.fields #v[.none,.bool false,.ref s.heap.objs.size,rawInt 0,.none,.none] }) (s.heap.objs.size+1) s.heap.objs.size 0 .none:=by
  have:=av (s.heap.push { cls:=.type "tuple_iterator",data:=.fields #v[.ref l,.int 0 0] })
   (o:={ cls:=.type "enumerate",data:=.fields #v[.none,.bool false,.ref s.heap.objs.size,rawInt 0,.none,.none] }) BB
  rw[O] at this;show this
 show#[#[_,U,BB],h _ U #[_,ae _ (av _ BB),BB,BB] (by simp) λb o x=>ae _ (ae _ x)]
end
def Ite (K:AH)(a:Addr):It:=
 #[λi H=>∃xs x,SqT K H a xs/\xs[i]?=some x,λi H v H'=>∃T x,v = .ref T/\H T=none/\H'=upd H T (.tup [.int i,x])/\∀xs,SqT K H a xs->xs[i]?=some x,λi H=>∃xs,SqT K H a xs/\xs.length<=i]
def zkH{P:Aa}{w:Ab}{K:AH}{ap:AO}{x1}(a O e:Addr)(ad:e≠O) :
  Turn P w K (.Tuple ap x1 tpos) (Ite K a) [e,O] e (λi h=>(∃Y,IsEnum h e O i Y)/\h.IsTupleIter O a i) where
 mem:=by simp
 obj:=λi h st b J=>by
  rcases ay.mp J with rfl | J;grind;rw[ao.mp J];obtain⟨_,o,e,c,d⟩:=st;right
 keep:=λi h h' st k=>by obtain⟨⟨Y,he⟩,o,ho,r⟩:=st;show#[#[Y,k e (by simp) _ he],o,k O (by simp) _ ho,r]
 item:=by
  intro X hP hw hK hc i BC s G H E I hf st hg;subst hP hw hK;obtain⟨xs,x,hq,hx⟩:=hg;obtain⟨al,rv,p,hz⟩:=I.tuple hq;obtain⟨u,hu,ru⟩:=rv.get hx;obtain⟨f0,f1,f2,f3,f4,f5⟩:=hf e (by simp);obtain⟨g0,g1,g2,g3,g4,g5⟩:=hf O (by simp);obtain⟨⟨Y,he⟩,Z⟩:=st;have hsz:i<al.toArray.size:=by have:=(ah.mp hu).1;simpa using this
  have a5:a≠O:=by
   intro z;obtain⟨o,ho,a7,_⟩:=p;obtain⟨o',b1,bs,_⟩:=Z;grind
  have ba:e≠a:=by
   intro z;obtain⟨o,ho,a7,_⟩:=p;grind
  show wpAny_pyNext_enum_itemD (zfT (A:=X.A.in1) (I.ok.hd hc) O a a5 al.toArray) he #[Z,p] hsz ad (by simp[ad,ba]) λy h' tk hy ho as hT bx hk=>?_;have bb:y=u:=by right
  subst bb;show#[_,BB,?_];show wpAny_letOwnedTupleGo_enum ho λac ag U=>?_;have a0:s.heap.objs.size≠e:=dy (aw he);have bc:s.heap.objs.size≠O:=by obtain⟨o,a1,_⟩:=Z;show dy (aw a1)
  have B:=I.hok.fresh (ai s.heap.objs.size);have kp:∀b o,b≠e->b≠O->s.heap.get? b=some o->ac.get? b=some o:=λb o h1 h2 J=>(U.2 b h1).trans (hk b o h1 h2 J);have a2:ac.get? s.heap.objs.size=some { cls:=.type "tuple",data:=.seq #v[.int i tk,y] }:=(U.2 _ a0).trans hT;obtain⟨oe,b2⟩:∃o,ac.get? e=some o:=#[_,ag];obtain⟨oi,a1⟩:∃o,ac.get? O=some o:=by obtain⟨⟨o,an,_⟩,_⟩:=as;show#[o,(U.2 O (Ne.symm ad)).trans an]
  have b0:∀b u',H b=some u'->b≠e/\b≠O:=λb u' J=>#[zc J f0,zc J g0]
  have a3:HOk X.prog X.w (upd H s.heap.objs.size (.tup [.int i,x])) ac:=by
   intro b u' J;by_cases a4:b=s.heap.objs.size;subst a4;rw[zi] at J;cases J;show#[by change 2<=sizeLine;decide,[.int i tk,y],.cons #[tk,BB] (.cons ru .nil),_,a2,BB,#[0,BB],BB]
   ·rw[zf a4] at J;show (I.hok b u' J).stay (λc v b3 q=>?_) (λc q=>?_) (λc ys q=>?_)
    ·show kp c v ?_ ?_ q
     all_goals grind
    rw[zf (zc q B)];show q;rw[zf (zc q B)];show q
  have I1:Inv X BC G (upd H s.heap.objs.size (.tup [.int i,x])) { s with heap:=ac,toks:=tk+1 }:=by
   show Inv.step (ch:=[e,O]) (g':=s.gens) (d':=s.drawn) (t':=tk+1) I (λb J=>?_) (λb o h1 h2 h3 h4 h5=>?_) (λb o h1 h2 h3 h4 h5=>?_) (λb o h3 h4 h5=>?_) (λb o h3 h4=>?_) (λb ys q=>?_) (λb o u' q=>?_) (λb ps q=>?_) (λm hm=>?_) a3 I.bare;rcases ay.mp J with rfl | J;show#[f3,f1,f4,f5];rw[ao.mp J];show#[g3,g1,g4,g5];right;show#[o.slots,kp b o (λz=>h3 (by simp[z])) (λz=>h3 (by simp[z])) h4];rw[zf (aN (aw h4))];show h5;right;rw[zf (zc q B)];show q;rw[zf (zc q B)];show q;show#[#v[],by rw[zf (zc q B),em];show q];obtain⟨o,es,ep,bd,r1⟩:=hm;show#[o,es,ep,kp _ o (Ne.symm f1) (Ne.symm g1) bd,r1]
  show#[.ref s.heap.objs.size,_,I1,BB,#[s.heap.objs.size,x,BB,B,BB,λys be=>by rw[I.tuple_inj be hq];show hx],#[#[y,by have:=ag;push_cast;show this],?_],λb J=>?_];obtain⟨⟨o,an,r2⟩,_⟩:=as;show#[o,(U.2 O (Ne.symm ad)).trans an,r2];rcases ay.mp J with rfl | J;rw[zf (Ne.symm a0)];show f0;rw[ao.mp J,zf (Ne.symm bc)];show g0
 done:=by
  intro X hP hw hK hc i BC s G H E I hf st hg;subst hP hw hK;obtain⟨xs,hq,hx⟩:=hg;obtain⟨al,rv,p,hz⟩:=I.tuple hq;obtain⟨f0,f1,f2,f3,f4,f5⟩:=hf O (by simp);obtain⟨⟨Y,he⟩,Z⟩:=st;have hl:=rv.length;have hT:s.TypeIs (.ref e) "enumerate" := #[_,he,BB];unfold pyNext
  show aa (cG (wpAny_callSpecial?_slot (name:=Str.ofString "__next__") hT F.slot_enumerate_next
   (aW F.slot_enumerate_next hT F.entry_enumerate_next ?_ (F.args_enumerate_next_1 _))))
  change wpAny _ _ (field (.ref e) 2 >>= _) _ _ _;show aa (bW he BB (x:=.ref O) BB ?_);show aa (y9 (A:=X.A.in1) (I.ok.hd hc) Z p (by simp;lia) λh' x bk bl=>?_);obtain⟨o,ho,bo⟩:=bl;show aa (cU (T := "StopIteration") (b:=true) #[o,ho,bo] dP ?_);show af #[BB,I.turned (t':=s.toks) (λb o J e=>bk b o J e) f0 f1 f3 f4 f5]
 self:=λA i s Q E st h=>by obtain⟨⟨Y,he⟩,Z⟩:=st;show wpAny_pyIter_enum he h
def zrq (K:AH)(ta:TA):TI:=λG H R=>ta G H λvs H1=>∃a,vs=[.ref a]/\(∃xs,SqT K H1 a xs)/\R (Ite K a) H1
def zpz{x1}(Z:Gl X "enumerate")(hm:X.mg "enumerate" = none)(ha:PA X [a] ta)(hs:starEach [a] X.env=[(false,eval a X.env)]:=by rfl) :
  PI X (.Tuple F x1 tpos) (.Call (.Name "enumerate" p) [a] [] pos) (zrq X.K ta):=by
 intro BC s G H R I h;show Call_ (zco I Z hm boot_enumerate (b9 (thn (ha pos BC s G H _ I h) λus B ⟨vs,H1,I1,r1,q1⟩=>?_) hs BB));obtain⟨b,rfl,⟨xs,hq⟩,q⟩:=q1;obtain⟨u,rfl,ru⟩:=za7 r1;cases ru;obtain⟨J,rv,pt,hz⟩:=I1.tuple hq;show zae (show B.heap.IsTuple b J.toArray from pt) λh' Y O hsz hk=>?_;have I2:Inv X BC G H1 { B with heap:=h',toks:=B.toks }:=I1.kept (t':=B.toks) hk;show wpAny_pyIter_enum Y ?_;show#[B.heap.objs.size+1,[B.heap.objs.size+1,B.heap.objs.size],_,_,H1,BB,I2,zkH b B.heap.objs.size (B.heap.objs.size+1) (Nat.succ_ne_self _),#[#[_,Y],O],λc U=>?_,q];rcases ay.mp U with rfl | U;show I1.fpOk (gn _) (I1.hok.fresh (gn _));rw[ao.mp U];show I1.fpOk (ai _) (I1.hok.fresh (ai _))
def zpV{x1}(B:Gl X "enumerate")(F:X.mg "enumerate" = none)(I:QA X [a] ta)(hs:starEach [a] X.env=[(false,eval a X.env)]:=by rfl) :
  QI X (.Tuple q x1 tpos) (.Call (.Name "enumerate" p) [a] [] pos) (zrq X.K ta):=#[zpz B F I.run hs]
mutual
def Dt.toW:Dt->PySem.W.Dat
 | .non=>.none
 | .bl b=>.bool b
 | .int i=>.int i
 | .str x=>.str x
 | .tup l=>.tuple (Dt.toWs l)
 | .lst l=>.list (Dt.toWs l)
 | .dct=>.bytes #v[]
def Dt.toWs:AS->List PySem.W.Dat
 | []=>[]
 | d::ds=>d.toW::Dt.toWs ds
end
mutual
theorem zgx:∀ {d e:Dt},d.toW=e.toW->d=e
 | .non,e,h=>by cases e <;> simp[Dt.toW] at h ⊢
 | .bl b,e,h=>by cases e <;> simp[Dt.toW] at h ⊢;show h
 | .int b,e,h=>by cases e <;> simp[Dt.toW] at h ⊢;show h
 | .str b,e,h=>by cases e <;> simp[Dt.toW] at h ⊢;show h
 | .tup l,e,h=>by
  cases e with
  | tup m=>simp only[Dt.toW,PySem.W.Dat.tuple.injEq] at h;rw[zeB h]
  | _=>simp[Dt.toW] at h
 | .lst l,e,h=>by
  cases e with
  | lst m=>simp only[Dt.toW,PySem.W.Dat.list.injEq] at h;rw[zeB h]
  | _=>simp[Dt.toW] at h
 | .dct,e,h=>by cases e <;> simp[Dt.toW] at h ⊢
theorem zeB:∀ {l m:AS},Dt.toWs l=Dt.toWs m->l=m
 | [],m,h=>by cases m <;> simp[Dt.toWs] at h ⊢
 | d::l,m,h=>by
  cases m with
  | nil=>simp[Dt.toWs] at h
  | cons e m=>
   simp only[Dt.toWs,List.cons.injEq] at h;rw[zgx h.1,zeB h.2]
end
def Dt.eqOk (d:Dt):Prop:=PySem.W.kqdOk 8 d.toW=true
section
variable {P:Aa}{w:Ab}{H:Hp}{h:Heap}
mutual
theorem xg (ok:HOk P w H h):∀ (n:Nat) {d:Dt} {v:V} {u:Value},Is H d v->yo v u->PySem.W.kqdOk n d.toW=true->∃as,Reads h u (PySem.W.kqdP d.toW) as
 | _,.non,_,_,h1,r,_=>by cases h1;cases r;show#[_,Reads.none]
 | n,.bl b,_,_,_,_,k=>by cases n <;> simp[Dt.toW,PySem.W.kqdOk] at k
 | _,.int i,_,_,h1,r,_=>by cases h1;obtain⟨t,rfl⟩:=r;show#[_,Reads.int i t]
 | _,.str x,_,_,h1,r,_=>by cases h1;obtain⟨t,rfl⟩:=r;show#[_,Reads.str x t]
 | 0,.tup l,_,_,_,_,k=>by simp[Dt.toW,PySem.W.kqdOk] at k
 | n+1,.tup l,_,_,h1,r,k=>by obtain⟨a,xs,rfl,ha,hl⟩:=h1;cases r;obtain⟨_,its,rv,o,ho,hc,⟨m,hd⟩,_⟩:=ok a _ ha;obtain⟨as,q⟩:=ug ok n hl rv (by simpa [Dt.toW,PySem.W.kqdOk] using k);show#[as,reads_tuple_at ho hc hd (by simpa using q)]
 | 0,.lst l,_,_,_,_,k=>by simp[Dt.toW,PySem.W.kqdOk] at k
 | n+1,.lst l,_,_,h1,r,k=>by obtain⟨a,xs,rfl,ha,hl⟩:=h1;cases r;obtain⟨_,its,m,rv,e⟩:=ok a _ ha;obtain⟨as,q⟩:=ug ok n hl rv (by simpa [Dt.toW,PySem.W.kqdOk] using k);show#[_,reads_list_at e BB BB (by simpa using q)]
 | n,.dct,_,_,_,_,k=>by cases n <;> simp[Dt.toW,PySem.W.kqdOk] at k
theorem ug (ok:HOk P w H h):∀ (n:Nat) {ds:AS} {xs:AT} {us:AN},IsL H ds xs->zR xs us->(∀d∈Dt.toWs ds,PySem.W.kqdOk n d=true)->∃as,ReadsAll h us (PySem.W.kqdPs (Dt.toWs ds)) as
 | _,[],_,_,h1,r,_=>by cases h1;cases r;show#[_,ReadsAll.nil]
 | n,d::ds,_,_,h1,r,k=>by
  obtain⟨x,xr,rfl,hd,hr⟩:=h1
  cases r with
  | cons rx rr=>
   obtain⟨as,q⟩:=xg ok n hd rx (k _ (by simp[Dt.toWs]));obtain⟨bs,q2⟩:=ug ok n hr rr λe he=>k e (by simp[Dt.toWs,he]);show#[_,ReadsAll.cons q q2]
end
end
def uf {d:Dt}(h:d.eqOk):SeqAt.shaped (PySem.W.kqdP d.toW)=true:=by
 have l:=PySem.W.kqd_lay 8 _ h;unfold SeqAt.shaped;grind
def ztS:R2:=λx y H Q=>∃d e,Is H d x/\Is H e y/\d.eqOk/\e.eqOk/\∀b:Bool,(b=true↔d=e)->Q (.bl b) H
def ztU:R2:=λx y H Q=>∃d e,Is H d x/\Is H e y/\d.eqOk/\e.eqOk/\∀b:Bool,(b=true↔d=e)->Q (.bl (!b)) H
section
variable {X:Cx}
def ziJ {d e:Dt}(h1:d.eqOk)(h2:e.eqOk):PyData.eqv (PySem.W.kqdP d.toW) (PySem.W.kqdP e.toW)=true↔d=e:=
 (PySem.W.kqd_eqv 8 d.toW e.toW 8 h1 h2).trans #[zgx,λz=>by rw[z]]
def zrS (F:X.A.units+64<cLine):OpR X (compareOp .Eq) ztS:=by intro BC s G H x y v u Q I J O h;obtain⟨d,e,U,Y,B,ke,q⟩:=h;obtain⟨as,ra⟩:=xg I.hok 8 U J B;obtain⟨bs,rb⟩:=xg I.hok 8 Y O ke;show eq_dataH ra rb (uf B) (uf ke) F #[.bl _,H,I,BB,q _ (ziJ B ke)]
def zrV (F:X.A.units+64<cLine):OpR X (compareOp .NotEq) ztU:=by intro BC s G H x y v u Q I J O h;obtain⟨d,e,U,Y,B,ke,q⟩:=h;obtain⟨as,ra⟩:=xg I.hok 8 U J B;obtain⟨bs,rb⟩:=xg I.hok 8 Y O ke;show ne_dataH ra rb (uf B) (uf ke) F #[.bl _,H,I,BB,q _ (ziJ B ke)]
def zjT (q:X.A.units+64<cLine):OpQ X (compareOp .Eq) ztS:=#[zrS q]
def zjV (q:X.A.units+64<cLine):OpQ X (compareOp .NotEq) ztU:=#[zrV q]
def zsv{to:TE}{t:TA}{apos cpos:Pos}(O:QE X o to)(U:QA X [e] t)(B:attributeBase o "append" X.env (eval o X.env)=eval o X.env:=by rfl)(J:((backTo cpos (starEach [e] X.env)).all (λx=>!x.1)&&(backToKw cpos (keywordEach [] X.env)).all (λx=>x.1.isSome)&&decide (([e]:AO).length+([]:List Keyword).length+(if ([]:List Keyword).isEmpty then 0 else 1)<30))=true:=by rfl)(I:(apos.endLine==cpos.line)=true:=by rfl)(hs:starEach [e] X.env=(false,eval e X.env)::starEach [] X.env:=by rfl)(q:(backTo cpos (starEach [] X.env)).any (·.1)=false:=by rfl) :
  QE X (.Call (.Attribute o "append" apos) [e] [] cpos) (tBM X.K "list" zgl to t):=#[zr6 en PySem.F.slot_list_append PySem.F.type_list_append ze4 O.run U.run B J I hs q]
end
def yq {ns:AG}:(Dt.tup (ns.map .int)).eqOk:=by
 have e:∀ns:AG,(Dt.toWs (ns.map .int)).all (PySem.W.kqdOk 7)=true:=by
  intro ns
  induction ns with
  | nil=>rfl
  | cons n ns q=>simp only[aD,Dt.toWs,dF,q,fw];rfl
 show e ns
structure RoomAt (H:Hp)(ra:Addr)(rm:AG):Prop where
 at':H ra=some (.tup (rm.map V.int))
 ne:rm≠[]
 few:rm.length<=8
 box:∀r∈rm,2<=r/\r<=4
def RoomAt.stay{rm:AG}(h:RoomAt H ra rm)(s:zy H H'):RoomAt H' ra rm:=#[s.tup h.at',h.ne,h.few,h.box]
def zN (rm:AG)(i:Int):Int:=rm.getD i.toNat 0
abbrev xQ (q:Int×Int):Dt:=.tup [.int q.1,.int q.2]
structure Giv (rm:AG)(g:List (Int×Int)):Prop where
 ok:∀q∈g,0<=q.1/\q.1<rm.length/\0<=q.2/\q.2<zN rm q.1
 up:g.Pairwise λa b=>a.1<b.1
def zfH (H H':Hp):Prop:=∀b xs,H b=some (.tup xs)->H' b=some (.tup xs)
mutual
def Dt.noL:Dt->Bool
 | .tup l=>Dt.noLs l
 | .lst _=>false
 | .dct=>false
 | _=>true
def Dt.noLs:AS->Bool
 | []=>true
 | d::ds=>d.noL&&Dt.noLs ds
end
mutual
theorem Is.stayT {H H1:Hp}(a:zfH H H1):∀ {d:Dt} {v:V},d.noL=true->Is H d v->Is H1 d v
 | .non,_,_,h=>h
 | .bl _,_,_,h=>h
 | .int _,_,_,h=>h
 | .str _,_,_,h=>h
 | .tup l,_,n,h=>by obtain⟨p,xs,e,hp,hl⟩:=h;show#[p,xs,e,a _ _ hp,IsL.stayT a (by simpa [Dt.noL] using n) hl]
 | .lst l,_,n,_=>by simp[Dt.noL] at n
 | .dct,_,n,_=>by simp[Dt.noL] at n
theorem IsL.stayT {H H1:Hp}(a:zfH H H1):∀ {ds:AS} {xs:AT},Dt.noLs ds=true->IsL H ds xs->IsL H1 ds xs
 | [],_,_,h=>h
 | d::ds,_,n,h=>by
  obtain⟨x,r,e,hd,hr⟩:=h;have n':d.noL=true/\Dt.noLs ds=true:=by simpa [Dt.noLs] using n
  show#[x,r,e,Is.stayT a n'.1 hd,IsL.stayT a n'.2 hr]
end
theorem ze5:∀g:List (Int×Int),Dt.noLs (g.map xQ)=true
 | []=>rfl
 | q::g=>by change (Dt.noL (xQ q)&&Dt.noLs (g.map xQ))=true;rw[ze5 g];rfl
def Giv.snoc {rm:AG}{g:List (Int×Int)}{i w:Int}(h:Giv rm g)(B:∀q∈g,q.1<i)(O:0<=i)(h1:i<rm.length)(h2:0<=w)(U:w<zN rm i):Giv rm (g++[(i,w)]):=by
 show#[λq F=>?_,bi.mpr #[h.up,et _ _,λa I b J=>?_]];rcases ax.mp F with z | z;show h.ok q z;right;rw[ao.mp J];show B a I
def New (H:Hp)(o:HO)(R:V->Hp->Prop):Prop:=∀ (p:Addr) (H':Hp),H p=none->H' p=some o->yT H H'->R (.ref p) H'
def New.at(h:New H o R)(q:H p=none):R (.ref p) (upd H p o):=h p _ q zi (yT.upd q)
def ztf (t:TA):TE:=λG H Q=>t G H λxs H1=>xs.length<=sizeLine/\New H1 (.tup xs) Q
def zs6 (t:TA):TE:=λG H Q=>t G H λxs H1=>xs.length<=sizeLine/\New H1 (.lst xs) Q
section
variable {X:Cx}{es:AO}{t:TA}{pos:Pos}
def zpv {x1}(h:PA X es t):PE X (.Tuple es x1 pos) (ztf t):=by intro BC s G H Q I F;show wpAny_Tuple_spliced (thn (h pos BC s G H _ I F) λus B ⟨xs,H1,I1,r,z,q⟩=>#[by rw[<- r.length];show z,?_]);have J:H1 B.heap.objs.size=none:=I1.hok.fresh (ai _);show#[.ref B.heap.objs.size,upd H1 B.heap.objs.size (.tup xs),I1.laid (t':=B.toks) (λb u e=>ae _ e) (ai _) ?_,BB,q.at J];show#[z,us,r,#[_,av _ BB,BB,#[_,BB],BB]]
def zpq (h:PA X es t):PE X (.List es pos) (zs6 t):=by intro BC s G H Q I F;show wpAny_List_spliced (thn (h pos BC s G H _ I F) λus B ⟨xs,H1,I1,r,z,q⟩=>#[by rw[<- r.length];show z,?_]);have J:H1 B.heap.objs.size=none:=I1.hok.fresh (ai _);show#[.ref B.heap.objs.size,upd H1 B.heap.objs.size (.lst xs),I1.laid (t':=B.toks) (λb u e=>ae _ e) (ai _) ?_,BB,q.at J];show#[z,us,0,r,av _ BB]
def zgf {x1}(h:QA X es t):QE X (.Tuple es x1 pos) (ztf t):=#[zpv h.run]
def zpS (h:QA X es t):QE X (.List es pos) (zs6 t):=#[zpq h.run]
def CallQ.weak(h:CallQ X f r)(k:∀xs H Q,q xs H Q->r xs H Q):CallQ X f q:=#[λBC s G H xs us Q I B z=>h.run BC s G H xs us Q I B (k _ _ _ z)]
def OpQ.weak(h:OpQ X f r)(k:∀x y H Q,q x y H Q->r x y H Q):OpQ X f q:=#[λBC s G H x y v u Q I B F z=>h.run BC s G H x y v u Q I B F (k _ _ _ _ z)]
def zkg (K:AH):AT->Hp->VK->Prop:=λxs H Q=>∃p ys,xs=[.ref p]/\(SqL K H p ys\/SqT K H p ys)/\New H (.lst ys) Q
def zgm (K:AH):AT->Hp->VK->Prop:=λxs H Q=>∃p ys,xs=[.ref p]/\((SqL K H p ys/\New H (.tup ys) Q)\/(SqT K H p ys/\Q (.ref p) H))
def zb9:CallQ X (.type "list") (zkg X.K):=zhx.weak <| by rintro xs H Q ⟨p,ys,e,h,n⟩;show#[p,ys,e,h,λl q=>n.at q]
def zO:CallQ X (.type "tuple") (zgm X.K):=zfP.weak <| by rintro xs H Q ⟨p,ys,e,h⟩;show#[p,ys,e,h.elim (by rintro⟨a,n⟩;show .inl #[a,λl q=>n.at q]) .inr]
def zp2:R2:=λx y H Q=>∃l b xs zs,x = .ref l/\y = .ref b/\H l=some (.lst xs)/\H b=some (.lst zs)/\xs.length+zs.length<=sizeLine/\New H (.lst (xs++zs)) Q
def xa:OpQ X (binaryOp .Add) zp2:=zrY.weak <| by rintro x y H Q ⟨l,b,xs,zs,q,B,h1,h2,z,n⟩;show#[l,b,xs,zs,q,B,h1,h2,z,λp F=>n.at F]
end
def zt9 (J:It)(g:TG)(ti:TT)(te:TE)(acc:Addr)(Q:VK)(G:St)(H:Hp):Prop:=∃W:Nat->Nat->St->Hp->Prop,(∃m,W 0 m G H)/\
 ∀i m q H',W i m q H'->(J.stop i H'/\Q (.ref acc) H')\/(J.go i H'/\∃N:St->Hp->Prop,(∀ B H2,N B H2->∃F,F<m/\W (i+1) F B H2)/\∀x H2,J.yld i H' x H2->zq2 g ti te acc N x q H2)
def zky (wi:TI)(g:TG)(ti:TT)(te:TE)(BE:List (Option Nat)):TE:=λG H Q=>wi G H λJ H1=>∀acc,H1 acc=none->zt9 J g ti te acc Q (zeO G BE) (upd H1 acc (.lst []))
def zmg(q:X.calm=true)(c:CompOk X scope N BE)(hi:QI X tg iter wi)(B:∀C s H ex,QG (z5 X scope N C s H ex) tg g)(F:∀C s H ex,QTs (z5 X scope N C s H ex) ifs ti)(I:∀C s H ex,QE (z5 X scope N C s H ex) elt te)(hs:∀x,foldedSetIterable iter X.env x=pure x:=by intro _;rfl):QE X (.ListComp elt [#[tg,iter,ifs,0]] scope pos) (zky wi g ti te BE):=zpQ q c hi B F I hs
section
variable {K:AH}{a acc:Addr}{xs:AT}{g:TG}{ti:TT}{te:TE}{G:St}{H:Hp}{Q:VK}
end
def zmx(h:H acc=none)(s:yT H H1):yT H (upd H1 acc o):=λb u e=>by rw[zf (zc e h)];show s b u e
section
variable {X:Cx}(K:AH)(h:X.K=K)
include h
def zqP:IxQ X (zsD K):=h ▸ yD
def zej:OpQ X (compareOp .NotIn) (rIn K true):=h ▸ zbx
end
def zj9 {X:Cx}(K:AH)(B:X.K=K){es:AO}{pos:Pos}{k:Nat}{gs:TGs}{n:Nat}(F:X.calm=true)(h:QGs X es gs)(hn:(assignEach es X.env).length=n:=by rfl)(q:(assignEach es X.env).findIdx? (·.1)=none:=by rfl):QG X (.Tuple es k pos) (zuB K n gs):=B ▸ znz F h hn q
def zpX(K:AH)(q:X.K=K)(B:QE X e te):QI X tg e (zuD K te):=q ▸ zkb B
def zmm(K:AH)(q:X.K=K)(B:QE X e te):QI X tg e (zoz K te):=q ▸ zpW B
structure Wi where
 g:List (Int×Int)
 b:Int
 r:Int
 w:Int
abbrev AW:=List Wi
abbrev uv (x:Wi):Dt:=.tup [.tup (x.g.map xQ),.int x.b,.int x.r,.int x.w]
structure WishOk (rm:AG)(x:Wi):Prop where
 giv:Giv rm x.g
 b0:0<=x.b
 b1:x.b<rm.length
 apart:∀q∈x.g,q.1≠x.b
 r0:0<=x.r
 r1:x.r<zN rm x.b
 w0:0<=x.w
 w1:x.w<zN rm x.b
 ne:x.r≠x.w
def zid (H:Hp)(R:Dt->Prop)(xs:AT):Prop:=∀x∈xs,∃d,Is H d x/\R d
section
variable {H H':Hp}{R:Dt->Prop}{xs ys:AT}
def zid.stay (h:zid H R xs)(s:zy H H'):zid H' R xs:=λx q=>by obtain⟨d,B,F⟩:=h x q;show#[d,B.stay s,F]
end
def zg4 (x:Wi):(uv x).noL=true:=by change Dt.noLs [.tup (x.g.map xQ),.int x.b,.int x.r,.int x.w]=true;change (Dt.noLs (x.g.map xQ)&&_)=true;rw[ze5];rfl
def zdR (b:Int)(ns:AG):inV (.int b) (ns.map V.int)=ns.contains b:=by
 unfold inV
 induction ns with
 | nil=>rfl
 | cons n ns q=>
  rw[aD,cY,q,List.contains_cons];show ((n==b) || _)=((b==n) || _);rw[show (n==b)=(b==n) from BEq.comm]
def zca (ns:AG):(ns.map V.int).all zc3=true:=by rw[bT];intro x q;obtain⟨n,_,rfl⟩:=aF.mp q;rfl
theorem zfY {m:Int}:∀ {g:List (Int×Int)} {lo:Int},(∀q∈g,lo<=q.1/\q.1<m)->(g.Pairwise λa b=>a.1<b.1)->lo<=m->(g.length:Int)<=m - lo
 | [],lo,_,_,h=>by simp;lia
 | q::g,lo,h,I,J=>by
  have h1:=h q am;have B:=a8.mp I;have O:=zfY (g:=g) (lo:=q.1+1) (λx F=>#[by have:=B.1 x F;lia,(h x (ar _ F)).2]) B.2 (by lia);grind
def zov {rm:AG}{g:List (Int×Int)}(h:Giv rm g)(F:rm.length<=8):g.length<=100:=by have:=zfY (g:=g) (lo:=0) (m:=rm.length) (λq B=>#[(h.ok q B).1,(h.ok q B).2.1]) h.up (by lia);lia
def ziu (xs:AT)(k:Nat):zdk xs none (some (k:Int))=xs.take k:=by
 have e:HT.sIx xs.length xs.length (some (k:Int))=min k xs.length:=by simp[HT.sIx];try lia
 unfold zdk;rw[e,show HT.sIx xs.length 0 none=0 from rfl,eK,Nat.sub_zero];grind
def zit (xs:AT)(k:Nat):zdk xs (some (k:Int)) none=xs.drop k:=by
 have e:HT.sIx xs.length 0 (some (k:Int))=min k xs.length:=by simp[HT.sIx];try lia
 unfold zdk;rw[e,show HT.sIx xs.length xs.length none=xs.length from rfl];by_cases h:k<=xs.length;rw[eu h,br (by simp)];rw[Nat.min_eq_right (by lia),List.drop_eq_nil_of_le (as:=xs) (i:=xs.length) (by lia),List.drop_eq_nil_of_le (as:=xs) (i:=k) (by lia),List.take_nil]
def zh8(h:Is H (uv x) v):∃ (a q:Addr) (gs:AT),v = .ref a/\H a=some (.tup [.ref q,.int x.b,.int x.r,.int x.w])/\H q=some (.tup gs)/\IsL H (x.g.map xQ) gs:=by obtain⟨a,xs,rfl,J,U,Y,rfl,B,O⟩:=h;obtain⟨q,gs,rfl,F,I⟩:=B;obtain rfl:=IsL.of_ints (ns:=[x.b,x.r,x.w]) O;show#[a,q,gs,BB,J,F,I]
def zu8 {α q:Type}{BG:Prop}(P C:α->q->Prop)(h:(∀a b,C a b->P a b)->BG)(r:∀a b,C a b->P a b):BG:=h r
section
variable {rm:AG}{g b r w:Dt}
end
end L2
namespace HT
open PyProof.Rows
section
variable {prog:Aa}{w:Ab}{A:Ae}{E:AA}{s:AZ}
theorem fm_congr {α q:Type}{f g:α->Option q}:∀ {l:List α},(∀m∈l,f m=g m)->l.filterMap f=l.filterMap g
 | [],_=>rfl
 | a::l,h=>by rw[List.filterMap_cons,List.filterMap_cons,h a List.mem_cons_self,fm_congr λm B=>h m (List.mem_cons_of_mem _ B)]
def pick_rev (xs:AK):((List.range xs.size).filterMap λ(m:Nat)=>xs[((xs.size:Int) - 1+(m:Int) * (-1)).toNat]?).toArray=xs.toList.reverse.toArray:=by
 congr 1
 have e:∀m∈List.range xs.size,xs[((xs.size:Int) - 1+(m:Int) * (-1)).toNat]?=some (xs.toList.reverse.getD m .none):=by
  intro m q;have B:=List.mem_range.mp q;have F:((xs.size:Int) - 1+(m:Int) * (-1)).toNat=xs.size - 1 - m:=by lia
  right
 rw[fm_congr e];rw[List.filterMap_eq_map' (f:=λm=>xs.toList.reverse.getD m .none)];show List.ext_getElem? λi=>?_;rw[List.getElem?_map];by_cases hi:i<xs.size
 all_goals right
end
end HT
namespace L2
open PyProof.Rows
section
variable {X:Cx}{e:Expr}{te:TE}{pos p2 p3 p4:Pos}{j:Nat}
def zfC(r:zR xs us):zR xs.reverse us.reverse:=by
 induction r with
 | nil=>show .nil
 | cons h _ q=>rw[dH,dH];show q.append (.cons h .nil)
def zev (xs:AK):slicePick xs none none (some (-1))=xs.toList.reverse.toArray:=by
 rw[<- HT.pick_rev];unfold slicePick;congr 1;have q:sliceBounds none none (some (-1)) xs.size=((xs.size:Int) - 1,-1,-1):=by simp[sliceBounds]
 rw[q];unfold sliceRange;have B:(if (-1:Int) > 0 then (if (xs.size:Int) - 1 < -1 then (-1 - ((xs.size:Int) - 1)+-1 - 1) / -1 else 0) else if (xs.size:Int) - 1 > -1 then ((xs.size:Int) - 1 - -1 - -1 - 1) / - -1 else 0).toNat=xs.size:=by grind
 change List.filterMap (λx=>xs[x]?) (List.map _ (List.range (if (-1:Int) > 0 then (if (xs.size:Int) - 1 < -1 then (-1 - ((xs.size:Int) - 1)+-1 - 1) / -1 else 0) else if (xs.size:Int) - 1 > -1 then ((xs.size:Int) - 1 - -1 - -1 - 1) / - -1 else 0).toNat))=_;rw[B,fR];show HT.fm_congr λm F=>?_;grind
def ztc (te:TE):TE:=λG H Q=>te G H λx H1=>∃a xs,x = .ref a/\H1 a=some (.lst xs)/\New H1 (.lst xs.reverse) Q
def zpt (U:PE X e te):PE X (.Subscript e (.Slice none none (some (.UnaryOp .USub (.Constant (.int 1) j p4) p3)) p2) pos) (ztc te):=by intro BC s G H Q I h;show Subscript_ (thn (U BC s G H _ I h)  ?_);rintro v Y ⟨x,H1,I1,Z,q1⟩;obtain⟨a,xs,rfl,ha,q⟩:=q1;cases Z;show wpAny_Slice ?_;rw[evalPart_none];show af (af ?_);rw[evalPart_some];show thn (zsc (znT (X:=X)) (znr (X:=X)) BC Y G H1 (λz H2=>z = .int (-1)/\H2=H1) I1 #[1,BB,BB,BB])  ?_;rintro u B ⟨z,H2,I2,r2,e1,e2⟩;subst e1 e2;obtain⟨tk,rfl⟩:=r2;have I3:Inv X BC G H2 { B with heap:=B.heap.push { cls:=.type "slice",data:=.fields #v[.none,.none,.int (-1) tk] } }:=I2.kept (t':=B.toks) λb ob q=>ae _ q;obtain⟨F,r,J,hz⟩:=I3.list (.of ha);have O:=r.length;change Af X (subscriptTail e _ (.ref a) (.ref B.heap.objs.size)) (EP X BC G Q) X.xe { B with heap:=B.heap.push { cls:=.type "slice",data:=.fields #v[.none,.none,.int (-1) tk] } };show tail_any (ops:=[.ref a,.ref B.heap.objs.size]) J.isList.typeIs slot_list_getitem.lookup ?_ (by with_unfolding_all rfl);show wpAny_getItem_list_slice J.isList (Heap.IsSliceOf.new ..) .none .none (.int (-1) tk) (by simp) ?_ (by grind);rw[zev];show#[.ref _,_,I3.laid (t':=B.toks) (o:=.lst xs.reverse) (λb ob q=>ae _ q) (ai _) ?_,BB,q.at (I3.hok.fresh (ai _))];show#[by right,F.reverse,0,zfC r,av _ BB]
def zpT (q:QE X e te):QE X (.Subscript e (.Slice none none (some (.UnaryOp .USub (.Constant (.int 1) j p4) p3)) p2) pos) (ztc te):=#[zpt q.run]
def zvy:V->V->V->Hp->(Hp->Prop)->Prop:=λo i v H Q=>∃p xs k,o = .ref p/\i = .int k/\H p=some (.lst xs)/\0<=k/\k<xs.length/\Q (upd H p (.lst (xs.set k.toNat v)))
def zpU(ho:QE X o to)(hi:QE X i ti)(ha:∀v,assign (.Subscript o i pos) X.env v=(do
   let ov <- holding [v] (eval o X.env)
   let iv <- holding [v,ov] (eval i X.env)
   standAt pos
   holding [v,ov,iv] (setItem ov iv v)
   release [v,ov,iv] []):=by intro _;rfl):QG X (.Subscript o i pos) (gSub to ti zvy):=
 #[zsi ho.run hi.run (by rintro BC s G H o i v ov iv u Q I ro ri rv ⟨p,xs,k,e1,e2,hp,h0,h1,q⟩;show zmB BC s G H o i v ov iv u Q I ro ri rv #[p,xs,k,k.toNat,e1,e2,hp,by unfold ixN;rw[if_pos h0,if_pos h1],q]) ha]
end
def zgy (l:Addr)(items:AK)(n:Nat)(F:Option Addr)(I:Array AJ)(x:Int)(u:Tok)(Y:1<=x)(J:x<2 ^ 63)(q:items.isEmpty=true) :
  Meets (Builtin.«tuple.__mul__» #[[.ref l,.int x u],[]]) (λ_ R s=>s.heap.get? l=some { cls:=.type "tuple",dict:=F,data:=.seq items n,slots:=I }/\R (.ok (.ret (Value.ref l))) s):=
 .of_wp λprog w A R s h=>by
  obtain⟨Z,g,d,tk,os⟩:=s;obtain⟨B,h⟩:=h;have f1:=gA
  wp_walk
  have O:¬ ((decide (x < -2 ^ 63) || decide (x ≥ 2 ^ 63))=true):=by simp;lia
  have U:(items.isEmpty || x==1)=true:=by rw[q];rfl
  rw[if_neg O];show aa (gq #[_,B,BB,n,BB] ?_);rw[if_pos U]
  wp_walk using bY B
  show#[_,BB,h]
section
variable {X:Cx}
def zp5:R2:=λx y H Q=>∃l k xs,x = .ref l/\y = .int k/\H l=some (.tup xs)/\1<=k/\k<2 ^ 63/\xs.length * k.toNat<=sizeLine/\
 ∀p H',H' p=some (.tup (List.replicate k.toNat xs).flatten)->yT H H'->Q (.ref p) H'
def zjX:OpQ X (binaryOp .Mult) zp5:=#[by
 intro BC s G H x y v u Q I J O h;obtain⟨l,k,xs,rfl,rfl,Y,h1,h2,hz,q⟩:=h;by_cases Z:xs=[];subst Z;cases J;obtain⟨t,rfl⟩:=O;obtain⟨B,r,pt,zz⟩:=I.tuple (.of Y);obtain⟨⟨cls,dd,data,sl⟩,e,hc,n,hd⟩:=id pt;simp only at hc hd;subst hc hd;have hi:B=[]:=r.nil_iff.mpr BB
 show wpAny_binaryOp_repeat_ref (T := "tuple") (U := "int") (by ext) #[_,e,BB] (λs'=>fD s' k t) uy F.fills_int_mul fG zbA F.slot_int_index.lookup
  (eD fG (fD s k t) F.entry_int_rmul (F.args_int_rmul_2 _ _) (zak k t l B.toArray n dd sl) #[e,BB,#[_,e,BB],?_])
 show eD gB #[_,e,BB] gc (fS _ _) (zgy l B.toArray n dd sl k t h1 h2 (by simp[hi])) #[e,#[.ref l,H,I,BB,q l H (by right) λ_ _ e=>e]];show zpi BC s G H _ _ v u Q I J O #[l,k,xs,BB,BB,Y,h1,h2,Z,hz,q]]
end
def zg2 {st:AG}{b:Int}(B:0<=b)(h1:b<st.length):atI (st.map V.int) b=some (.int (zN st b)):=by
 obtain⟨j,rfl⟩:∃j:Nat,b=j:=#[b.toNat,by lia];have q:j<st.length:=by lia
 have e:zN st (j:Int)=st[j]:=by unfold zN;simp[q]
 rw[e];show zii (by simp[q])
def chg (st:AG)(b w:Int):AG:=st.take b.toNat++[w]++st.drop (b.toNat+1)
def zil (st:AG){b w:Int}(q:0<=b):zdk (st.map V.int) none (some b)++[.int w]++zdk (st.map V.int) (some (b+1)) none=(chg st b w).map V.int:=by
 obtain⟨j,rfl⟩:∃j:Nat,b=j:=#[b.toNat,by lia];rw[ziu,show ((j:Int)+1)=((j+1:Nat):Int) by lia,zit];unfold chg;right
def zim {st:AG}{b w:Int}(q:0<=b)(h1:b<st.length):(chg st b w).length=st.length:=by
 unfold chg;grind
def zn8 {st:AG}{b w c:Int}(B:0<=b)(h1:b<st.length)(F:0<=c):zN (chg st b w) c=if c=b then w else zN st c:=by
 obtain⟨j,rfl⟩:∃j:Nat,b=j:=#[b.toNat,by lia];obtain⟨k,rfl⟩:∃k:Nat,c=k:=#[c.toNat,by lia];have I:j<st.length:=by lia
 unfold zN chg;simp only[aQ,au];have q:(st.take j).length=j:=by rw[bp];lia
 rcases cL k j with h | h | h;rw[if_neg (by lia),aE,bQ (by rw[q];show h),bX h];right;rw[if_neg (by lia),aE,bt (by rw[q];lia),q];obtain⟨m,rfl⟩:∃m,k=j+1+m:=#[k - (j+1),by lia];rw[show j+1+m - j=m+1 by lia];right
def x6 (st:AG)(g:List (Int×Int)):Bool:=g.all λq=>decide (zN st q.1=q.2)
def zbd (st:AG)(x:Wi):Bool:=decide (zN st x.b=x.w)&&x6 st x.g
structure BookAt (H:Hp)(rm:AG)(ba:Addr)(xs:AT)(bk:AW):Prop where
 at':H ba=some (.tup xs)
 is:IsL H (bk.map uv) xs
 ok:∀x∈bk,WishOk rm x
def BookAt.stay{rm:AG}(h:BookAt H rm q xs bk)(s:zy H H'):BookAt H' rm q xs bk:=#[s.tup h.at',h.is.stay s,h.ok]
def BookAt.len{rm:AG}(h:BookAt H rm q xs bk):xs.length=bk.length:=by
 have:=h.is.length;right
def BookAt.get {H:Hp}{rm:AG}{I:Addr}{xs:AT}{bk:AW}(h:BookAt H rm I xs bk){i:Nat}{v:V}(J:xs[i]?=some v):∃x,bk[i]?=some x/\Is H (uv x) v/\WishOk rm x:=by obtain⟨d,B,q⟩:=h.is.get J;rw[aC] at B;obtain⟨x,F,rfl⟩:=aH.mp B;show#[x,F,q,h.ok x (aM F)]
theorem zaa:∀bk:AW,Dt.noLs (bk.map uv)=true
 | []=>rfl
 | x::bk=>by change ((uv x).noL&&Dt.noLs (bk.map uv))=true;rw[zg4,zaa bk];rfl
def zE (st:AG)(j:Nat):zN st (j:Int)=st.getD j 0:=by unfold zN;simp
def zbv {st:AG}{r b:Int}(B:0<=b)(h1:b<st.length):zN (st++[r]) b=zN st b:=by
 obtain⟨j,rfl⟩:∃j:Nat,b=j:=#[b.toNat,by lia];have q:j<st.length:=by lia
 rw[zE,zE,au,au,bQ q]
def zbu {st:AG}{r:Int}:zN (st++[r]) (st.length:Int)=r:=by rw[zE,au,bt (ai _),Nat.sub_self];rfl
def zf9 {st:AG}{i:Nat}{m:Int}(h:st[i]?=some m):zN st (i:Int)=m:=by rw[zE,au,h];rfl
def xt {rm:AG}(B:∀r∈rm,2<=r/\r<=4){b:Int}(F:0<=b)(h1:b<rm.length):2<=zN rm b/\zN rm b<=4:=by
 obtain⟨j,rfl⟩:∃j:Nat,b=j:=#[b.toNat,by lia];have q:j<rm.length:=by lia
 rw[zf9 (ak q)];right
def zft:Sp:=λvs H Q _=>∃ (a:Addr) (st:AG) (b w:Int),vs=[.ref a,.int b,.int w]/\H a=some (.tup (st.map V.int))/\st.length<=400/\0<=b/\∀ (p:Addr) (H':Hp),H' p=some (.tup ((chg st b w).map V.int))->yT H H'->Q (.ref p) H'
def zkw:Sp:=λvs H Q _=>∃ (a B:Addr) (st:AG) (gs:AT) (g:List (Int×Int)),vs=[.ref a,.ref B]/\H a=some (.tup (st.map V.int))/\H B=some (.tup gs)/\IsL H (g.map xQ) gs/\(∀q∈g,0<=q.1/\q.1<st.length)/\Q (.bl (x6 st g)) H
theorem zaP:∀st:AG,Dt.noLs (st.map .int)=true
 | []=>rfl
 | _::st=>by change (true&&Dt.noLs (st.map .int))=true;rw[zaP st];rfl
def zlL (st:AG):PySem.W.kqdOk 7 (Dt.tup (st.map .int)).toW=true:=by
 have e:∀ns:AG,(Dt.toWs (ns.map .int)).all (PySem.W.kqdOk 6)=true:=by
  intro ns
  induction ns with
  | nil=>rfl
  | cons n ns q=>simp only[aD,Dt.toWs,dF,q,fw];rfl
 show e st
def zp0{X:Cx}{ifs:AO}{scope:Scope}{pos spos:Pos}{wi:TI}{g:TG}{ti:TT}{te:TE}{N:AM}{nx:Str}(q:X.N.Nodup)(B:X.N[ix]?=some nx)(F:X.env.scope.names.lookup nx=some .local)(Y:X.calm=true)(c:CompOk X scope N BE)(hi:QI X tg iter wi)(Z:∀C s H ex,QG (z5 X scope N C s H ex) tg g)(ht:∀C s H ex,QTs (z5 X scope N C s H ex) ifs ti)(he:∀C s H ex,QE (z5 X scope N C s H ex) elt te)(J:swapsWithSole [.Name nx px] (.ListComp elt [#[tg,iter,ifs,0]] scope pos) spos.line X.env=pure true:=by rfl)(hs:∀x,foldedSetIterable iter X.env x=pure x:=by intro _;rfl)(O:(assignEach [.Name nx px] X.env).map (·.2)=[assign (.Name nx px) X.env]:=by rfl):QS X (.Assign [.Name nx px] (.ListComp elt [#[tg,iter,ifs,0]] scope pos) spos) (zic (zky wi g ti te BE) (zbM ix)):=#[λBC s G H BH I h=>zk1 q B F J O (λ_=>rfl) λU Qp hf=>ze3 (Fin:=λacc H=>BH.nx (G.set ix (some (.ref acc))) H) (zcB c) Y hi.run (zlp λC s H ex=>(Z C s H ex).run) (zlp λC s H ex=>(ht C s H ex).run) (zlp λC s H ex=>(he C s H ex).run) hs I h hf]
section
variable {prog:Aa}{w:Ab}{A:Ae}{E:AA}{s:AZ}
variable {X:Cx}
variable {R:Result->AZ->Prop}
variable {Fam:Cx->Prop}{scope:Scope}{N:AM}{BE:List (Option Nat)}{z:Str}{use:Option (Value->Sem Unit)}{Qp:AA}{elt ke ve tg iter tg2 iter2:Expr}{ifs ifs2:AO}{pos ipos spos px:Pos}{wi wi2:TI}{g g2:TG}{ti ti2:TT}{te tk tv:TE}{BC:AB}{G:St}{H:Hp}{Q:VK}{o0:HO}
variable {K:AH}{a acc:Addr}{xs:AT}{N:St->Hp->Prop}
end
section
variable {X:Cx}
def zlc:CallQ X (.type "range") (λxs H Q=>∃n,xs=[.int n]/\New H (.rng 0 n) Q):=#[by
 intro BC s G H xs us Q I r h;obtain⟨n,rfl,q⟩:=h;obtain⟨u,rfl,B⟩:=za7 r;obtain⟨t,rfl⟩:=B;show call_range_1 ?_;show#[.ref s.heap.objs.size,_,I.laid (t':=s.toks+1+1) (o:=.rng 0 n) (λb ob q=>ae _ q) (ai _) ?_,BB,q.at (I.hok.fresh (ai _))];show#[_,_,_,av _ BB]]
def zhi (n:Nat):Builtin.Range.rangeSize 0 (n:Int) 1=n:=by
 unfold Builtin.Range.rangeSize;grind
theorem zkQ:∀ {xs:AT} {us:AN},xs.length=us.length->(∀ (i:Nat) x u,xs[i]?=some x->us[i]?=some u->yo x u)->zR xs us
 | [],[],_,_=>.nil
 | [],_::_,h,_=>by simp at h
 | _::_,[],h,_=>by simp at h
 | x::xs,u::us,h,k=>.cons (k 0 x u BB BB) (zkQ (by simpa using h) λi y v q B=>k (i+1) y v q B)
def zfO (U:X.calm=true):CallQ X (.type "list") (λxs H Q=>∃ (p:Addr) (n:Nat),xs=[.ref p]/\H p=some (.rng 0 n)/\n<=1000/\New H (.lst ((List.range n).map λi:Nat=>V.int i)) Q):=#[by
 intro BC s G H xs us Q I r h;obtain⟨p,n,rfl,Y,hn,q⟩:=h;obtain⟨u,rfl,Z⟩:=za7 r;cases Z;obtain⟨t,u,v,ho⟩:=I.hok p _ Y;have J:n<sizeLine:=zcW hn;show call_list_range (a:=0) (b:=n) (c:=1) (n:=n) (I.ok.hd U) ho ?_ ?_ (aq hn (by ext)) λh' tk B c' kp hg F=>?_;have e:=zhi n;unfold Builtin.Range.small;rw[e];simp[Builtin.Range.rangeFitsLong];lia;show zhi n
 have hv:zR ((List.range n).map λi:Nat=>V.int i) B.toList:=by
  show zkQ (by rw[ab,aA,aG,F.1]) λj x u O hu=>?_;rw[aC] at O;obtain⟨k,hk,rfl⟩:=aH.mp O;obtain⟨ac,e⟩:=ah.mp hk;have:k=j:=by simpa using e.symm
  subst this;obtain⟨t',rfl⟩:=F.2 k u (by simpa using hu);show#[t',by lia]
 show#[.ref s.heap.objs.size,_,I.laid (t':=tk) (o:=.lst ((List.range n).map λi:Nat=>V.int i)) kp (ai _) ?_,BB,q.at (I.hok.fresh (ai _))];show#[by rw[ab,aA];show cH J,B.toList,c',hv,by simpa using hg]]
end
def z8 (m:Int):AG:=(List.range m.toNat).map λi:Nat=>(i:Int)
def uJ (rows:AF)(q:AG):AF:=rows.flatMap λr=>q.map λw=>r++[w]
def zaD (cs:AF):AF:=cs.foldl uJ [[]]
def xU (cs:AF)(c:AG):zaD (cs++[c])=uJ (zaD cs) c:=by
 unfold zaD;right
abbrev stD (st:AG):Dt:=.tup (st.map .int)
theorem xC:∀BF:AF,Dt.noLs (BF.map stD)=true
 | []=>rfl
 | st::BF=>by show ((stD st).noL&&Dt.noLs (BF.map stD))=true;rw[xC BF,show (stD st).noL=true from zaP st];rfl
def zd3 (BF:AF):(Dt.lst (BF.map stD)).eqOk:=by
 have e:∀BF:AF,(Dt.toWs (BF.map stD)).all (PySem.W.kqdOk 7)=true:=by
  intro BF
  induction BF with
  | nil=>rfl
  | cons m B q=>simp only[aD,Dt.toWs,dF,q,show PySem.W.kqdOk 7 (stD m).toW=true from zlL m,fw]
 show e BF
def zdj (rows:AF)(q:AG):(uJ rows q).length=rows.length * q.length:=by
 unfold uJ;rw[List.length_flatMap]
 induction rows with
 | nil=>simp
 | cons r rows B=>rw[aD,List.sum_cons,B,ab,aJ,Nat.succ_mul,Nat.add_comm]
def zkY:∀ (cs:AF) (q:AG),q∈zaD cs->q.length=cs.length:=by
 intro cs
 have:∀ (n:Nat) (cs:AF),cs.length=n->∀q,q∈zaD cs->q.length=cs.length:=by
  intro n
  induction n with
  | zero=>
   intro cs h q B;have:cs=[]:=aU h;subst this;have:q=[]:=by simpa [zaD] using B
   right
  | succ n I=>
   intro cs h q B;have F:cs≠[]:=by intro z;rw[z] at h;simp at h
   rw[<- bm F,xU] at B;unfold uJ at B;grind
 show this cs.length cs BB
def znW:∀ (n:Nat) (cs:AF),cs.length=n->(∀c∈cs,c.length<=4)->(zaD cs).length<=4 ^ n:=by
 intro n
 induction n with
 | zero=>
  intro cs h _;have:cs=[]:=aU h;subst this;show ai _
 | succ n F=>
  intro cs h B;have q:cs≠[]:=by intro z;rw[z] at h;simp at h
  rw[<- bm q,xU,zdj,Nat.pow_succ];show Nat.mul_le_mul (F cs.dropLast (by grind) λc I=>B c ((List.dropLast_sublist cs).subset I)) (B _ (List.getLast_mem q))
def zkX {cs:AF}(F:cs.length<=8)(q:∀c∈cs,c.length<=4)(k:Nat):(zaD (cs.take k)).length<=65536:=by
 show aq (znW _ (cs.take k) BB λc B=>q c (bw B)) ?_;have:(cs.take k).length<=8:=by rw[bp];lia
 show aq (dN (by ext) this) (by ext)
def zbl (m:Int):(z8 m).length=m.toNat:=by unfold z8;rw[ab,aA]
section
variable {X:Cx}{o:Expr}{to:TE}{apos cpos:Pos}
open PySem.W
variable {n:Nat}{f:Nat->Int}
def key (f:Nat->Int)(p:Array Nat)(k:Nat):Int:=f (p.getD k 0)
structure Up (n:Nat)(f:Nat->Int)(p:Array Nat)(m:Nat):Prop where
 perm:p.Perm (List.range n).toArray
 le:m<=n
 up:∀k,k+1<m->key f p k<key f p (k+1)
def zfi {p:Array Nat}(h:p.Perm (List.range n).toArray):p.size=n:=by have:=h.size_eq;simpa using this
def Up.lt_of(h:Up n f p m):∀ {i j:Nat},i<j->j<m->key f p i<key f p j:=by
 intro i j
 induction j with
 | zero=>intro F;lia
 | succ j I=>
  intro q B;have h1:=h.up j B;grind
def zif (n:Nat)(f:Nat->Int):Prop:=∀i j,i<n->j<n->f i=f j->i=j
end
def ziV:Bool->Keyed->Array Keyed->Nat->Nat->Nat->StateT SortSt Sem (Option Nat):=sortPriv% PySem.Builtin.gallop
def zlX:Array Keyed->Array Keyed->StateT SortSt Sem (Array Keyed):=sortPriv% PySem.Builtin.mergeLo
def zlW:Array Keyed->Array Keyed->StateT SortSt Sem (Array Keyed):=sortPriv% PySem.Builtin.mergeHi
def zbK (M:Model)(A:Ae)(s:AZ)(κ:SortKind)(L0:List Keyed)(f:Keyed->Int):Prop:=
 ∀x y,x∈L0->y∈L0->∀ (Q:Bool->AZ->Prop) (E:AA),Q (decide (f x<f y)) s->wpAny M A (keyLt' κ x.1 y.1) Q E s
section
variable {M:Model}{A:Ae}{E:AA}{s:AZ}{κ:SortKind}{L0:List Keyed}{f:Keyed->Int}
def ztg (R:zbK M A s κ L0 f){x y:Keyed}(q:x∈L0)(B:y∈L0){st:SortSt}(F:kindOf st=κ){Q:Option Bool->SortSt->Prop}(h:Q (some (decide (f x<f y))) st):wpS M A E s (lt' x y) Q st:=by rw[lt'_eq];show wpS_bind (wpS_get ?_);rw[F];show wpS_bind (wpS_lift (cG (R x y q B _ _ #[BB,wpS_pure h])))
def yw {a:Array Keyed}{i:Nat}{x:Keyed}(e:a[i]?=some x){st:SortSt}{Q:Keyed->SortSt->Prop}(h:Q x st):wpS M A E s (elem' a i) Q st:=by rw[elem'_eq,e];show wpS_pure h
def xL (f:Keyed->Int)(left:Bool)(key x:Keyed):Bool:=if left=true then decide (f x<f key) else !decide (f key<f x)
def zqy (R:zbK M A s κ L0 f){key x:Keyed}(q:x∈L0)(B:key∈L0){left:Bool}{st:SortSt}(F:kindOf st=κ){Q:Option Bool->SortSt->Prop}(h:Q (some (xL f left key x)) st) :
  wpS M A E s (if left=true then lt' x key else lt' key x >>= λr=>pure (Option.map (λb=>!b) r)) Q st:=by
 unfold xL at h
 cases left with
 | true=>rw[if_pos rfl] at h ⊢;show ztg R q B F h
 | false=>rw[if_neg az] at h ⊢;show wpS_bind (ztg R B q F (wpS_pure h))
def zmI (R:zbK M A s κ L0 f){left:Bool}{key:Keyed}{a:Array Keyed}{base n hint:Nat}(hy:key∈L0)(ha:∀x∈a,x∈L0)(hn:base+n<=a.size)(hh:hint<n){B:Nat->Bool}(hB:∀i x,i<n->a[base+i]?=some x->xL f left key x=B i)(Z:∀i j,i<=j->j<n->B j=true->B i=true)
  {st:SortSt} (hk:kindOf st=κ) {Q:Option Nat->SortSt->Prop} (h:∀k,k<=n->(∀i,i<k->B i=true)->(∀i,k<=i->i<n->B i=false)->Q (some k) st):wpS M A E s (ziV left key a base n hint) Q st:=by
 have O:∀i,i<n->∀ {Q:Option Bool->SortSt->Prop},Q (some (B i)) st->wpS M A E s (elem' a (base+i) >>= λx=>if left=true then lt' x key else lt' key x >>= λr=>pure (Option.map (λb=>!b) r)) Q st:=λi hi {Q} hq=>by have e:a[base+i]?=some a[base+i]:=aR (by lia);show wpS_bind (yw e (zqy R (ha _ (dJ _)) hy hk ?_));rw[hB i _ hi e];show hq
 have up:∀i j,i<=j->j<n->B i=false->B j=false:=λi j h1 h2 F=>by
  cases e:B j with
  | false=>rfl
  | true=>rw[Z i j h1 h2 e] at F;cases F
 have fin:∀lo hi,lo<=hi->hi<=n->(∀i,i<lo->B i=true)->(∀i,hi<=i->i<n->B i=false)->∀ {BG:Option (Option Nat)×Nat×Nat->SortSt->Prop},(∀l k,k<=n->(∀i,i<k->B i=true)->(∀i,k<=i->i<n->B i=false)->BG (none,l,k) st)->∀ {body:Nat->Option (Option Nat)×Nat×Nat->StateT SortSt Sem (ForInStep (Option (Option Nat)×Nat×Nat))},
   (∀x lo hi (G':ForInStep (Option (Option Nat)×Nat×Nat)->SortSt->Prop),lo ≥ hi->G' (.done (none,lo,hi)) st->wpS M A E s (body x (none,lo,hi)) G' st)->
   (∀x lo hi (G':ForInStep (Option (Option Nat)×Nat×Nat)->SortSt->Prop),lo<hi->hi<=n->(B (lo+(hi - lo) / 2)=true->G' (.yield (none,lo+(hi - lo) / 2+1,hi)) st)->(B (lo+(hi - lo) / 2)=false->G' (.yield (none,lo,lo+(hi - lo) / 2)) st)->wpS M A E s (body x (none,lo,hi)) G' st)->
   wpS M A E s (forIn [0:n] (none,lo,hi) body) BG st:=by
  intro lo hi h1 h2 F J BG hG body b1 b2;show bH (I:=λx c q=>q=st/\∃lo hi,c=(none,lo,hi)/\lo<=hi/\hi<=n/\(∀i,i<lo->B i=true)/\(∀i,hi<=i->i<n->B i=false)/\hi - lo+x<=n) ?_ ?_ #[BB,lo,hi,BB,h1,h2,F,J,by lia];rintro x c q _ hx ⟨rfl,lo,hi,rfl,h1,h2,F,J,h5⟩;by_cases e:lo ≥ hi;show b1 x lo hi _ e ?_;obtain rfl:lo=hi:=by lia
  show hG _ _ h2 F J;show b2 x lo hi _ (by lia) h2 (λhb=>?_) (λhb=>?_);show#[BB,_,_,BB,by lia,h2,λi ac=>Z i _ (by lia) (by lia) hb,J,by lia];show#[BB,_,_,BB,by lia,by lia,F,λi h1 h2=>up _ i h1 h2 hb,by lia];rintro c q ⟨rfl,lo,hi,rfl,h1,h2,F,J,h5⟩;obtain rfl:lo=hi:=by lia
  show hG _ _ h2 F J
 show wpS_bind (O hint hh ?_);dsimp only
 cases eB:B hint with
 | true=>
  rw[if_pos rfl];show wpS_bind (wpS_mono (bH (I:=λx c q=>q=st/\∃l o,c=(none,l,o)/\l<o/\hint+l<n/\B (hint+l)=true/\x+1<=o) (Q:=λc q=>q=st/\∃l o,c=(none,l,o)/\l<o/\hint+l<n/\B (hint+l)=true/\(o ≥ n - hint\/(hint+o<n/\B (hint+o)=false))) ?_ ?_ #[BB,0,1,BB,by lia,by lia,eB,by lia]) ?_);rintro x c q _ hx ⟨rfl,l,o,rfl,h1,h2,F,J⟩;dsimp only;by_cases e:o ≥ n - hint;rw[if_pos e];show wpS_pure #[BB,l,o,BB,h1,h2,F,.inl e];rw[if_neg e];show wpS_bind (O (hint+o) (by lia) ?_)
  cases eo:B (hint+o) with
  | true=>show wpS_pure #[BB,o,2 * o+1,BB,by lia,by lia,eo,by lia]
  | false=>show wpS_pure #[BB,l,o,BB,h1,h2,F,.inr #[by lia,eo]]
  rintro c q ⟨rfl,l,o,rfl,h1,h2,F,J⟩;show#[BB,l,o,BB,h1,h2,F,.inl (by lia)];rintro c q ⟨rfl,l,o,rfl,h1,h2,F,J⟩;dsimp only;show wpS_bind (fin (hint+l+1) (hint+min o (n - hint)) (by lia) (by lia) (λi hi=>Z i _ (by lia) h2 F) (λi h5 h6=>?_) (λl' k k1 k2 k3=>?_) (λx lo hi G' e hg=>?_) (λx lo hi G' e e2 U Y=>?_));rcases J with J | ⟨J,h7⟩;lia;show up _ i (by lia) h6 h7;show wpS_pure (h k k1 k2 k3);dsimp only;rw[if_pos e];show wpS_pure hg;dsimp only;rw[if_neg (by lia)];show wpS_bind (O _ (by lia) ?_)
  cases eb:B (lo+(hi - lo) / 2) with
  | true=>show wpS_pure (U eb)
  | false=>show wpS_pure (Y eb)
 | false=>
  rw[if_neg az];show wpS_bind (wpS_mono (bH (I:=λx c q=>q=st/\∃l o,c=(none,l,o)/\l<o/\l<=hint/\B (hint - l)=false/\x+1<=o) (Q:=λc q=>q=st/\∃l o,c=(none,l,o)/\l<o/\l<=hint/\B (hint - l)=false/\(o ≥ hint+1\/(o<=hint/\B (hint - o)=true))) ?_ ?_ #[BB,0,1,BB,by lia,by lia,eB,by lia]) ?_);rintro x c q _ hx ⟨rfl,l,o,rfl,h1,h2,F,J⟩;dsimp only;by_cases e:o ≥ hint+1;rw[if_pos e];show wpS_pure #[BB,l,o,BB,h1,h2,F,.inl e];rw[if_neg e];show wpS_bind (O (hint - o) (by lia) ?_)
  cases eo:B (hint - o) with
  | true=>show wpS_pure #[BB,l,o,BB,h1,h2,F,.inr #[by lia,eo]]
  | false=>show wpS_pure #[BB,o,2 * o+1,BB,by lia,by lia,eo,by lia]
  rintro c q ⟨rfl,l,o,rfl,h1,h2,F,J⟩;show#[BB,l,o,BB,h1,h2,F,.inl (by lia)];rintro c q ⟨rfl,l,o,rfl,h1,h2,F,J⟩;dsimp only;show wpS_bind (fin (hint+1 - min o (hint+1)) (hint - l) (by lia) (by lia) (λi hi=>?_) (λi h5 h6=>up _ i h5 h6 F) (λl' k k1 k2 k3=>?_) (λx lo hi G' e hg=>?_) (λx lo hi G' e e2 U Y=>?_));rcases J with J | ⟨J,h7⟩;lia;show Z i _ (by lia) (by lia) h7;show wpS_pure (h k k1 k2 k3);dsimp only;rw[if_pos e];show wpS_pure hg;dsimp only;rw[if_neg (by lia)];show wpS_bind (O _ (by lia) ?_)
  cases eb:B (lo+(hi - lo) / 2) with
  | true=>show wpS_pure (U eb)
  | false=>show wpS_pure (Y eb)
def zhu{key x y:Keyed}(h:f x<=f y)(e:xL f left key y=true):xL f left key x=true:=by
 unfold xL at e ⊢
 cases left with
 | true=>rw[if_pos rfl] at e ⊢;have:=bK e;show aY (by lia)
 | false=>
  rw[if_neg az] at e ⊢;simp only[eF,bL] at e ⊢;lia
abbrev leF (f:Keyed->Int)(x y:Keyed):Prop:=f x<=f y
def zhZ (R:zbK M A s κ L0 f){left:Bool}{key:Keyed}{a:Array Keyed}{base n hint:Nat}(hy:key∈L0)(ha:∀x∈a,x∈L0)(hn:base+n<=a.size)(hh:hint<n)(hs:((a.toList.drop base).take n).Pairwise (leF f))
  {st:SortSt} (hk:kindOf st=κ) {Q:Option Nat->SortSt->Prop} (h:∀k,k<=n->(∀x∈(a.toList.drop base).take k,xL f left key x=true)->(∀x∈((a.toList.drop base).take n).drop k,xL f left key x=false)->Q (some k) st):wpS M A E s (ziV left key a base n hint) Q st:=by
 have J:((a.toList.drop base).take n).length=n:=by simp;lia
 have q:∀i,i<n->∃x,a[base+i]?=some x/\((a.toList.drop base).take n)[i]?=some x:=λi hi=>by show#[a[base+i],aR (by lia),?_];rw[bX hi,ez,bZ,aR (by lia)]
 show zmI R hy ha hn hh (B:=λi=>match a[base+i]? with | some x=>xL f left key x | none=>false) (λi x hi e=>by rw[e]) (λi j al hj U=>?_) hk λk Y h1 h2=>h k Y (λx Z=>?_) (λx Z=>?_);obtain⟨x,F,I⟩:=q i (by lia);obtain⟨y,e3,O⟩:=q j hj;rw[F];rw[e3] at U;by_cases e:i=j;subst e;rw[F] at e3;cases e3;show U;show zhu ?_ U;obtain⟨ac,q1⟩:=ah.mp I;obtain⟨ad,q2⟩:=ah.mp O;have:=bv.mp hs i j ac ad (by lia);rw[q1,q2] at this;show this;obtain⟨i,hi,e⟩:=ck.mp Z;have ag:i<k:=by simp at hi;lia
 have:=h1 i ag;obtain⟨y,F,I⟩:=q i (by lia);rw[F] at this;rw[bX (by lia)] at I;rw[List.getElem_take] at e;obtain⟨_,O⟩:=ah.mp I;rw[<- e,O];show this;obtain⟨i,hi,e⟩:=ck.mp Z;rw[eX,J] at hi;have:=h2 (k+i) (by lia) (by lia);obtain⟨y,F,I⟩:=q (k+i) (by lia);rw[F] at this;rw[List.getElem_drop] at e;obtain⟨_,O⟩:=ah.mp I;rw[<- e,O];show this
end
structure Mg (R:Keyed->Keyed->Prop)(T out ra rb:List Keyed):Prop where
 perm:(out++(ra++rb)).Perm T
 up:out.Pairwise R
 le:∀x∈out,∀y∈ra++rb,R x y
 ua:ra.Pairwise R
 ub:rb.Pairwise R
section
variable {R:Keyed->Keyed->Prop}{T out ra rb c:List Keyed}
def Mg.a (h:Mg R T out (c++ra) rb)(k:∀x∈c,∀y∈rb,R x y):Mg R T (out++c) ra rb:=by
 have F:=bi.mp h.ua;show#[?_,bi.mpr #[h.up,F.1,λx B y q=>h.le x B y (by simp[q])],λx B y q=>?_,F.2.1,h.ub];have:=h.perm;simpa only[aE] using this
 ·rcases ax.mp B with B | B
  ·show h.le x B y (by rcases ax.mp q with q | q <;> simp[q])
  rcases ax.mp q with q | q;show F.2.2 x B y q;show k x B y q
def Mg.b (h:Mg R T out ra (c++rb))(k:∀x∈c,∀y∈ra,R x y):Mg R T (out++c) ra rb:=by
 have F:=bi.mp h.ub;show#[?_,bi.mpr #[h.up,F.1,λx B y q=>h.le x B y (by simp[q])],λx B y q=>?_,h.ua,F.2.1];show List.Perm.trans ?_ h.perm;rw[aE];show eQ _ ?_;rw[<- aE,<- aE];show List.Perm.append_right _ List.perm_append_comm
 ·rcases ax.mp B with B | B
  ·show h.le x B y (by rcases ax.mp q with q | q <;> simp[q])
  rcases ax.mp q with q | q;show k x B y q;show F.2.2 x B y q
def zdg (R:Keyed->Keyed->Prop)(T out:List Keyed):Prop:=out.Perm T/\out.Pairwise R
def Mg.told (h:Mg R T out [] []):zdg R T out:=#[by have:=h.perm;simpa using this,h.up]
def Mg.doneA (h:Mg R T out ra []):zdg R T (out++ra):=(Mg.a (c:=ra) (ra:=[]) (by simpa using h) (λ_ _ _ q=>by simp at q)).told
def Mg.doneB (h:Mg R T out [] rb):zdg R T (out++rb):=(Mg.b (c:=rb) (rb:=[]) (by simpa using h) (λ_ _ _ q=>by simp at q)).told
def Mg.last(h:Mg R T out [z] rb)(k:∀y∈rb,R y z):zdg R T (out++rb++[z]):=(Mg.b (c:=rb) (rb:=[]) (by simpa using h) (λx q y B=>by rw[ao.mp B];show k x q)).doneA
def Mg.lastB(h:Mg R T out ra [z])(k:∀y∈ra,R y z):zdg R T (out++ra++[z]):=(Mg.a (c:=ra) (ra:=[]) (by simpa using h) (λx q y B=>by rw[ao.mp B];show k x q)).doneB
end
def zhz{a:Array Keyed}(h:i<a.size):∃x,a[i]?=some x/\x∈a/\a.toList.drop i=x::a.toList.drop (i+1):=
 #[a[i],aR h,dJ h,by rw[cA (by simpa using h)];rfl]
def zdP (a:Array Keyed)(i:Nat):(a.extract i a.size).toList=a.toList.drop i:=by simp[br]
def ziv (l:List Keyed)(i k:Nat):(l.drop i).take k++l.drop (i+k)=l.drop i:=by rw[<- eL,aX]
def zgL (a:Array Keyed)(i k:Nat):(a.extract i (i+k)).toList=(a.toList.drop i).take k:=by simp
structure Like (st st':SortSt):Prop where
 kind:kindOf st'=kindOf st
 arr:arrOf st'=arrOf st
 pend:pendingOf st'=pendingOf st
 fail:failedOf st'=failedOf st
section
variable {M:Model}{A:Ae}{E:AA}{s:AZ}{κ:SortKind}{L0:List Keyed}{f:Keyed->Int}
structure LoI (f:Keyed->Int)(T:List Keyed)(a b:Array Keyed)(out:Array Keyed)(ia ib:Nat):Prop where
 mg:Mg (leF f) T out.toList (a.toList.drop ia) (b.toList.drop ib)
 la:ia+1<a.size
 lb:ib<b.size
def zgX {T:List Keyed}{a b out:Array Keyed}{q B:Nat}(mg:Mg (leF f) T out.toList (a.toList.drop q) (b.toList.drop B))(e:(q+1==a.size)=true)(F:∀x∈b,∀y,a[a.size - 1]?=some y->f x<=f y):zdg (leF f) T (out++b.extract B b.size++a.extract q a.size).toList:=by
 have e:=cq e;obtain⟨z,I,Y,J⟩:=zhz (a:=a) (i:=q) (by lia);have O:a.toList.drop (q+1)=[]:=by rw[fm];simp;lia
 rw[bh,bh,zdP,zdP];rw[J,O] at mg ⊢;show mg.last λy U=>F y ?_ z ?_;have:=cF U;simpa using this;rw[<- I];congr 1;lia
def zeS {T:List Keyed}{a b out:Array Keyed}{q B:Nat}(mg:Mg (leF f) T out.toList (a.toList.drop q) (b.toList.drop B))(e:B=b.size\/q=a.size):zdg (leF f) T (out++a.extract q a.size++b.extract B b.size).toList:=by
 rw[bh,bh,zdP,zdP];rcases e with e | e;have F:b.toList.drop B=[]:=by rw[fm];simp;lia
 rw[F] at mg ⊢;rw[cN];show mg.doneA;have F:a.toList.drop q=[]:=by rw[fm];simp;lia
 rw[F] at mg ⊢;rw[cN];show mg.doneB
def zh3 {α q:Type}{BG:Prop}(C:α->q->Prop)(P:α->q->Prop)(h:(∀a b,C a b->P a b)->BG)(r:∀a b,C a b->P a b):BG:=h r
def zqO {α:Type}{c:Prop}[Decidable c]{x y:StateT SortSt Sem α}{Q:α->SortSt->Prop}{st:SortSt}(q:c)(h:wpS M A E s x Q st):wpS M A E s (if c then x else y) Q st:=by rw[if_pos q];show h
def zqN {α:Type}{c:Prop}[Decidable c]{x y:StateT SortSt Sem α}{Q:α->SortSt->Prop}{st:SortSt}(q:¬c)(h:wpS M A E s y Q st):wpS M A E s (if c then x else y) Q st:=by rw[if_neg q];show h
def z9 {α:Type}{c:Prop}[Decidable c]{x y:StateT SortSt Sem α}{Q:α->SortSt->Prop}{st:SortSt}(h:c->wpS M A E s x Q st)(h':¬c->wpS M A E s y Q st):wpS M A E s (if c then x else y) Q st:=if hc:c then zqO hc (h hc) else zqN hc (h' hc)
def ex4 {T0 T1 T2 T3:Type}{m p q:T0->T1->T2->T3->Prop}{X BG:Prop}(H:X/\∃B F I J,m B F I J/\p B F I J/\q B F I J)(k:X->∀B F I J,m B F I J->p B F I J->q B F I J->BG):BG:=by obtain⟨x,B,F,I,J,e,h,h'⟩:=H;show k x B F I J e h h'
def ex5 {T0 T1 T2 T3 T4:Type}{m p q:T0->T1->T2->T3->T4->Prop}{X BG:Prop}(H:X/\∃B F I J O,m B F I J O/\p B F I J O/\q B F I J O)(k:X->∀B F I J O,m B F I J O->p B F I J O->q B F I J O->BG):BG:=by obtain⟨x,B,F,I,J,O,e,h,h'⟩:=H;show k x B F I J O e h h'
def exO5 {T0 T1 T2 T3 T4 S:Type}{m p q:T0->T1->T2->T3->T4->Prop}{U t:S->T0->T1->T2->T3->T4->Prop}{X BG:Prop}(H:X/\((∃r B F I J O,U r B F I J O/\t r B F I J O)\/∃B F I J O,m B F I J O/\p B F I J O/\q B F I J O))(Y:X->∀r B F I J O,U r B F I J O->t r B F I J O->BG)(k:X->∀B F I J O,m B F I J O->p B F I J O->q B F I J O->BG):BG:=by
 rcases H with ⟨x,⟨r,B,F,I,J,O,e,h⟩ | ⟨B,F,I,J,O,e,h,h'⟩⟩;show Y x r B F I J O e h;show k x B F I J O e h h'
def ex6 {T0 T1 T2 T3 T4 T5:Type}{m p q:T0->T1->T2->T3->T4->T5->Prop}{X BG:Prop}(H:X/\∃B F I J O U,m B F I J O U/\p B F I J O U/\q B F I J O U)(k:X->∀B F I J O U,m B F I J O U->p B F I J O U->q B F I J O U->BG):BG:=by obtain⟨x,B,F,I,J,O,U,e,h,h'⟩:=H;show k x B F I J O U e h h'
def exO6 {T0 T1 T2 T3 T4 T5 S:Type}{m p q:T0->T1->T2->T3->T4->T5->Prop}{Y t:S->T0->T1->T2->T3->T4->T5->Prop}{X BG:Prop}(H:X/\((∃r B F I J O U,Y r B F I J O U/\t r B F I J O U)\/∃B F I J O U,m B F I J O U/\p B F I J O U/\q B F I J O U))(Z:X->∀r B F I J O U,Y r B F I J O U->t r B F I J O U->BG)(k:X->∀B F I J O U,m B F I J O U->p B F I J O U->q B F I J O U->BG):BG:=by
 rcases H with ⟨x,⟨r,B,F,I,J,O,U,e,h⟩ | ⟨B,F,I,J,O,U,e,h,h'⟩⟩;show Z x r B F I J O U e h;show k x B F I J O U e h h'
def ziK {T:Type}{p q r:T->Prop}{BG:Prop}(H:∃y,p y/\q y/\r y)(k:∀y,p y->q y->r y->BG):BG:=by obtain⟨y,a,b,c⟩:=H;show k y a b c
def zkF (R:zbK M A s κ L0 f){a b:Array Keyed}(ha:∀x∈a,x∈L0)(hb:∀x∈b,x∈L0)(sa:a.toList.Pairwise (leF f))(sb:b.toList.Pairwise (leF f))(na:1<=a.size)(nb:1<=b.size)
  (hf:∀x∈a,∀y,b[0]?=some y->f y<=f x) (hl:∀x∈b,∀y,a[a.size - 1]?=some y->f x<=f y) {st:SortSt} (hk:kindOf st=κ) {Q:Array Keyed->SortSt->Prop}
  (h:∀out Y,Like st Y->zdg (leF f) (a.toList++b.toList) out.toList->Q out Y):wpS M A E s (zlX a b) Q st:=by
 show wpS_bind (wpS_lift (cZ #[BB,?_]));show ziK (zhz (a:=b) (i:=0) (by lia)) λy y1 y2 y3=>?_;show wpS_bind (yw y1 ?_)
 have m0:Mg (leF f) (a.toList++b.toList) (#v[y]:Array Keyed).toList (a.toList.drop 0) (b.toList.drop 1):=by
  have h0:Mg (leF f) (a.toList++b.toList) [] a.toList ([y]++b.toList.drop 1):=by have e:b.toList=[y]++b.toList.drop 1:=y3;rw[<- e];show#[by simp,.nil,λ_ hx=>by simp at hx,sa,sb]
  show h0.b λx hx z hz=>by rw[ao.mp hx];show hf z (by simpa using hz) y y1
 dsimp only;show z9 (λe1=>?_) (λe1=>?_);show wpS_pure (h _ _ #[BB,BB,BB,BB] (zeS m0 (.inl (cq e1))));show z9 (λe2=>?_) (λe2=>?_);show wpS_pure (h _ _ #[BB,BB,BB,BB] (zgX m0 e2 hl));have ba:1≠b.size:=λz=>e1 (by rw[<- z];rfl);have bb:1≠a.size:=λz=>e2 (by rw[<- z];rfl);show wpS_bind (wpS_get ?_);show wpS_bind (wpS_mono (bH (I:=λx c Y=>Like st Y/\∃out ia ib g,c=(none,out,ia,ib,g)/\LoI f (a.toList++b.toList) a b out ia ib/\x+1<=ia+ib) (Q:=λc Y=>Like st Y/\∃r out ia ib g,c=(some r,out,ia,ib,g)/\zdg (leF f) (a.toList++b.toList) r.toList) ?_ ?_ #[#[BB,BB,BB,BB],_,0,1,_,BB,#[m0,by lia,by lia],by lia]) ?_)
 ·intro x c a2 _ hx H;show ex4 H λl1 out ia ib g e I hp=>?_;clear H;subst e;dsimp only
  show wpS_bind (wpS_mono (bH (I:=λx c Y=>Like st Y/\∃B J O ac bc,c=(none,B,J,O,ac,bc)/\LoI f (a.toList++b.toList) a b B J O/\x+(ia+ib)<=J+O)
   (Q:=λc Y=>Like st Y/\((∃r B J O ac bc,c=(some r,B,J,O,ac,bc)/\zdg (leF f) (a.toList++b.toList) r.toList)\/∃B J O ac bc,c=(none,B,J,O,ac,bc)/\LoI f (a.toList++b.toList) a b B J O/\ia+ib+1<=J+O)) ?_ ?_ #[l1,_,_,_,_,_,BB,I,by lia]) ?_)
  intro x2 c a3 _ bd H;show ex5 H λl2 o2 ag al ac bc e I2 a4=>?_;clear H;subst e;dsimp only;have la:=I2.la;have lb:=I2.lb;show ziK (zhz lb) λy y1 y2 y3=>?_;show ziK (zhz (a:=a) (i:=ag) (by lia)) λz z1 z2 z3=>?_;show wpS_bind (yw y1 (wpS_bind (yw z1 (wpS_bind (ztg R (hb _ y2) (ha _ z2) (l2.kind.trans hk) ?_)))));have mg:=I2.mg;by_cases a5:f y<f z;rw[aY a5];dsimp only;show zqO BB ?_;show wpS_bind (yw y1 ?_);have ua:=mg.ua;rw[z3] at ua;have ua:=a8.mp ua
  have m2:Mg (leF f) (a.toList++b.toList) (o2.push y).toList (a.toList.drop ag) (b.toList.drop (al+1)):=by
   rw[y3] at mg;rw[bM];show Mg.b (c:=[y]) mg λx hx w Z=>?_;rw[ao.mp hx];rw[z3] at Z;change f y<=f w;rcases ay.mp Z with rfl | Z;lia;have h9:f z<=f w:=ua.1 w Z;lia
  show z9 (λe3=>?_) (λe3=>?_);show wpS_pure #[l2,.inl #[_,_,_,_,_,_,BB,zeS m2 (.inl (cq e3))]];have a7:al+1≠b.size:=λq=>e3 (by rw[q];show cC _);split;show wpS_pure #[l2,.inr #[_,_,_,_,_,BB,#[m2,la,by lia],by lia]];show wpS_pure #[l2,_,_,_,_,_,BB,#[m2,la,by lia],by lia];rw[a6 a5];dsimp only;show zqN az ?_;show wpS_bind (yw z1 ?_);have ub:=mg.ub;rw[y3] at ub;have ub:=a8.mp ub
  have m2:Mg (leF f) (a.toList++b.toList) (o2.push z).toList (a.toList.drop (ag+1)) (b.toList.drop al):=by
   rw[z3] at mg;rw[bM];show Mg.a (c:=[z]) mg λx hx w Z=>?_;rw[ao.mp hx];rw[y3] at Z;change f z<=f w;rcases ay.mp Z with rfl | Z;lia;have h9:f y<=f w:=ub.1 w Z;lia
  show z9 (λe3=>?_) (λe3=>?_);show wpS_pure #[l2,.inl #[_,_,_,_,_,_,BB,zgX m2 e3 hl]];have a7:ag+1+1≠a.size:=λq=>e3 (by rw[q];show cC _);split;show wpS_pure #[l2,.inr #[_,_,_,_,_,BB,#[m2,by lia,lb],by lia]];show wpS_pure #[l2,_,_,_,_,_,BB,#[m2,by lia,lb],by lia];rintro c a3 ⟨l2,o2,ag,al,ac,bc,rfl,I2,a4⟩;have la:=I2.la;have lb:=I2.lb;lia
  ·intro c a3 H;show exO5 H (λl2 r o2 ag al ac bc e ht=>?_) (λl2 o2 ag al ac bc e I2 a4=>?_)
   all_goals clear H
   all_goals subst e
   show wpS_pure #[l2,_,_,_,_,_,BB,ht];dsimp only;show wpS_bind (wpS_lift (cZ #[BB,?_]))
   show wpS_bind (wpS_mono (bH (I:=λx c Y=>Like st Y/\∃B J O g ac bc,c=(none,B,J,O,g,ac,bc)/\LoI f (a.toList++b.toList) a b B J O/\ag+al<=J+O)
    (Q:=λc Y=>Like st Y/\((∃r B J O g ac bc,c=(some r,B,J,O,g,ac,bc)/\zdg (leF f) (a.toList++b.toList) r.toList)\/∃B J O g ac bc,c=(none,B,J,O,g,ac,bc)/\LoI f (a.toList++b.toList) a b B J O/\ag+al<=J+O)) ?_ ?_ #[l2,_,_,_,_,_,_,BB,I2,ai _]) ?_)
   ·intro x3 c ap _ be H;show ex6 H λl3 o3 U F g3 as a0 e I3 a1=>?_;clear H;subst e;dsimp only;have la:=I3.la;have lb:=I3.lb;have mg:=I3.mg;show ziK (zhz lb) λy y1 y2 y3=>?_;have ub:=mg.ub;rw[y3] at ub;have ub:=a8.mp ub;refine' zh3 (λ(_:Nat) (_:Unit)=>True) _ (λzx=>?_) ?_;rotate_left;by_cases g0:g3 > 1;rw[if_pos g0];generalize g3 - 1=g4;generalize hu:()=u;show zx g4 u trivial;rw[if_neg g0];show zx g3 () trivial;rintro g4 u -
    all_goals
     show wpS_bind (dL ?_);have lk:∀g,Like st (SortSt.mk' (kindOf ap) (arrOf ap) (pendingOf ap) g (failedOf ap)):=λg=>#[l3.kind,l3.arr,l3.pend,l3.fail];show wpS_bind (yw y1 ?_);show wpS_bind (zhZ (n:=a.size - U) (left:=false) (hint:=0) R (hb _ y2) ha (by lia) (by lia) (mg.ua.sublist (cw _ _)) ((lk _).kind.trans hk) λk k1 k2 k3=>?_);dsimp only;have h4:∀w∈a.toList.drop (U+k),f y<=f w:=λw Z=>by have:=k3 w (by rw[br (by simp),eL];show Z);unfold xL at this;rw[if_neg az,fT,cz] at this;lia
     have m4:Mg (leF f) (a.toList++b.toList) (o3++a.extract U (U+k)).toList (a.toList.drop (U+k)) (b.toList.drop F):=by
      rw[bh,zgL];show Mg.a (by rw[ziv];show mg) λx hx w Z=>?_;have h5:=k2 x hx;unfold xL at h5;rw[if_neg az,eF,bL] at h5;rw[y3] at Z;change f x<=f w;rcases ay.mp Z with rfl | Z;lia;have h9:f y<=f w:=ub.1 w Z;lia
     refine' zh3 (λ(o4:Array Keyed) (ad:Nat)=>Mg (leF f) (a.toList++b.toList) o4.toList (a.toList.drop ad) (b.toList.drop F)/\(∀w∈a.toList.drop ad,f y<=f w)/\ad+1<a.size/\U<=ad) _ (λzx=>?_) ?_;rotate_left;show z9 (λk0=>?pos) (λk0=>?neg)
     case pos=>
      show z9 (λe4=>?_) (λe4=>?_);show wpS_pure #[lk _,.inl #[_,_,_,_,_,_,_,BB,zgX m4 e4 hl]];show z9 (λe5=>?_) (λe5=>?_);show wpS_pure #[lk _,.inl #[_,_,_,_,_,_,_,BB,zeS m4 (.inr (cq e5))]];have bk:U+k+1≠a.size:=λq=>e4 (by rw[q];show cC _);have bl:U+k≠a.size:=λq=>e5 (by rw[q];show cC _);have q1:U+k+1<a.size:=by lia
      have q2:U<=U+k:=by lia
      generalize ho:o3++a.extract U (U+k)=o4;generalize hi:U+k=ad;show zx o4 ad (by rw[<- ho,<- hi];show#[m4,h4,q1,q2])
     case neg=>
      have kz:k=0:=by lia
      rw[kz,gF] at h4;show zx o3 U #[mg,h4,la,ai _]
     clear h4 m4 k1 k2 k3;intro o4 ad H;have m4:=H.1;have h4:=H.2.1;have q1:=H.2.2.1;have q2:=H.2.2.2;clear H
     all_goals
      show wpS_bind (yw y1 ?_);have m5:Mg (leF f) (a.toList++b.toList) (o4.push y).toList (a.toList.drop ad) (b.toList.drop (F+1)):=by rw[y3] at m4;rw[bM];show Mg.b (c:=[y]) m4 λx hx w Z=>by rw[ao.mp hx];show h4 w Z
      show z9 (λe6=>?_) (λe6=>?_);show wpS_pure #[lk _,.inl #[_,_,_,_,_,_,_,BB,zeS m5 (.inl (cq e6))]];have bo:F+1≠b.size:=λq=>e6 (by rw[q];show cC _);show ziK (zhz (a:=a) (i:=ad) (by lia)) λz z1 z2 z3=>?_;show wpS_bind (yw z1 ?_);have ua:=m5.ua;rw[z3] at ua;have ua:=a8.mp ua;show wpS_bind (zhZ (n:=b.size - (F+1)) (left:=true) (hint:=0) R (ha _ z2) hb (by lia) (by lia) (m5.ub.sublist (cw _ _)) ((lk _).kind.trans hk) λj j1 j2 j3=>?_);dsimp only;have h6:∀w∈b.toList.drop (F+1+j),f z<=f w:=λw Z=>by have:=j3 w (by rw[br (by simp),eL];show Z);unfold xL at this;rw[if_pos rfl,bL] at this;lia
      have m6:Mg (leF f) (a.toList++b.toList) (o4.push y++b.extract (F+1) (F+1+j)).toList (a.toList.drop ad) (b.toList.drop (F+1+j)):=by
       rw[bh,zgL];show Mg.b (by rw[ziv];show m5) λx hx w Z=>?_;have h5:=j2 x hx;unfold xL at h5;rw[if_pos rfl,cz] at h5;rw[z3] at Z;change f x<=f w;rcases ay.mp Z with rfl | Z;lia;have h9:f z<=f w:=ua.1 w Z;lia
      refine' zh3 (λ(o5:Array Keyed) (an:Nat)=>Mg (leF f) (a.toList++b.toList) o5.toList (a.toList.drop ad) (b.toList.drop an)/\(∀w∈b.toList.drop an,f z<=f w)/\an<b.size/\F<=an) _ (λzx=>?_) ?_;rotate_left;show z9 (λj0=>?pos) (λj0=>?neg)
      case pos=>
       show z9 (λe7=>?_) (λe7=>?_);show wpS_pure #[lk _,.inl #[_,_,_,_,_,_,_,BB,zeS m6 (.inl (cq e7))]];have bs:F+1+j≠b.size:=λq=>e7 (by rw[q];show cC _);have q3:F+1+j<b.size:=by lia
       have q4:F<=F+1+j:=by lia
       generalize ho:o4.push y++b.extract (F+1) (F+1+j)=o5;generalize hi:F+1+j=an;show zx o5 an (by rw[<- ho,<- hi];show#[m6,h6,q3,q4])
      case neg=>
       have jz:j=0:=by lia
       rw[jz,gF] at h6;show zx (o4.push y) (F+1) #[m5,h6,by lia,by lia]
      clear h6 m6 j1 j2 j3;intro o5 an H;have m6:=H.1;have h6:=H.2.1;have q3:=H.2.2.1;have q4:=H.2.2.2;clear H
      all_goals
       show wpS_bind (yw z1 ?_);have m7:Mg (leF f) (a.toList++b.toList) (o5.push z).toList (a.toList.drop (ad+1)) (b.toList.drop an):=by rw[z3] at m6;rw[bM];show Mg.a (c:=[z]) m6 λx hx w Z=>by rw[ao.mp hx];show h6 w Z
       show z9 (λe8=>?_) (λe8=>?_);show wpS_pure #[lk _,.inl #[_,_,_,_,_,_,_,BB,zgX m7 e8 hl]];have bx:ad+1+1≠a.size:=λq=>e8 (by rw[q];show cC _);split;show wpS_pure #[lk _,.inr #[_,_,_,_,_,_,BB,#[m7,by lia,q3],by lia]];show wpS_pure #[lk _,_,_,_,_,_,_,BB,#[m7,by lia,q3],by lia]
   rintro c ap ⟨l3,o3,U,F,g3,as,a0,rfl,I3,a1⟩;show#[l3,.inr #[_,_,_,_,_,_,BB,I3,a1]]
   ·intro c ap H;show exO6 H (λl3 r o3 U F g3 as a0 e ht=>?_) (λl3 o3 U F g3 as a0 e I3 a1=>?_)
    all_goals clear H
    all_goals subst e
    show wpS_pure #[l3,_,_,_,_,_,BB,ht];dsimp only;show wpS_bind (dL (wpS_pure #[#[l3.kind,l3.arr,l3.pend,l3.fail],_,_,_,_,BB,I3,by lia]))
 rintro c a2 ⟨l1,out,ia,ib,g,rfl,I,hp⟩;have:=I.la;have:=I.lb;lia;rintro c a2 ⟨l1,r,out,ia,ib,g,rfl,ht⟩;show wpS_pure (h _ _ l1 ht)
abbrev geF (f:Keyed->Int)(x y:Keyed):Prop:=f y<=f x
def zeC(h:zdg (geF f) T l):zdg (leF f) T l.reverse:=#[(dM l).trans h.1,eR.mpr h.2]
def zh1{a:Array Keyed}(h1:1<=n)(h:n<=a.size):∃x,a[n - 1]?=some x/\x∈a/\(a.toList.take n).reverse=x::(a.toList.take (n - 1)).reverse:=by obtain⟨i,rfl⟩:∃i,n=i+1:=#[n - 1,by lia];show#[a[i],aR (by lia),dJ _,?_];rw[List.take_succ_eq_append_getElem (by rw[aG];show h),List.reverse_append];rfl
def zbU (a:Array Keyed)(n:Nat):(a.extract 0 n).toList=a.toList.take n:=by simp
def ziM (a:Array Keyed)(i n:Nat):(a.extract i n).reverse.toList=((a.toList.take n).drop i).reverse:=by simp[List.drop_take]
def zix(l:List Keyed)(h:i<=n):((l.take n).drop i).reverse++(l.take i).reverse=(l.take n).reverse:=by
 rw[<- List.reverse_append];congr 1;have:l.take i=(l.take n).take i:=by rw[List.take_take,eu h]
 rw[this,aX]
structure HiI (f:Keyed->Int)(T:List Keyed)(a b:Array Keyed)(out:Array Keyed)(na nb:Nat):Prop where
 mg:Mg (geF f) T out.toList (a.toList.take na).reverse (b.toList.take nb).reverse
 la:1<=na
 ma:na<=a.size
 lb:2<=nb
 mb:nb<=b.size
def zdQ{T:List Keyed}{a b out:Array Keyed}(mg:Mg (geF f) T out.toList (a.toList.take q).reverse (b.toList.take B).reverse)(e:(B==1)=true)(hn:1<=b.size)(I:∀x∈a,∀y,b[0]?=some y->f y<=f x):zdg (leF f) T (b.extract 0 B++a.extract 0 q++out.reverse).toList:=by
 have e:=cq e;subst e;show ziK (zh1 (a:=b) (n:=1) (ai _) hn) λz J Y F=>?_;rw[bh,bh,zbU,zbU,Array.toList_reverse];rw[F] at mg;have mg:Mg (geF f) T out.toList (a.toList.take q).reverse [z]:=mg;have t:=zeC (mg.lastB λy O=>I y (by have:=bw (cm.mp O);simpa using this) z J);have U:b.toList.take 1=[z]:=by rw[<- List.reverse_reverse (b.toList.take 1),F];rfl
 rw[U];simpa using t
def zeR{T:List Keyed}{a b out:Array Keyed}(mg:Mg (geF f) T out.toList (a.toList.take q).reverse (b.toList.take B).reverse)(e:q=0\/B=0):zdg (leF f) T (a.extract 0 q++b.extract 0 B++out.reverse).toList:=by
 rw[bh,bh,zbU,zbU,Array.toList_reverse];rcases e with rfl | rfl;have t:=zeC (Mg.doneB (by simpa using mg));simpa using t;have t:=zeC (Mg.doneA (by simpa using mg));simpa using t
def zkE (R:zbK M A s κ L0 f){a b:Array Keyed}(ha:∀x∈a,x∈L0)(hb:∀x∈b,x∈L0)(sa:a.toList.Pairwise (leF f))(sb:b.toList.Pairwise (leF f))(na:1<=a.size)(nb:1<=b.size)
  (hf:∀x∈a,∀y,b[0]?=some y->f y<=f x) (hl:∀x∈b,∀y,a[a.size - 1]?=some y->f x<=f y) {st:SortSt} (hk:kindOf st=κ) {Q:Array Keyed->SortSt->Prop}
  (h:∀out U,Like st U->zdg (leF f) (a.toList++b.toList) out.toList->Q out U):wpS M A E s (zlW a b) Q st:=by
 show wpS_bind (wpS_lift (cZ #[BB,?_]));show ziK (zh1 na (ai _)) λy y1 y2 y3=>?_;show wpS_bind (yw y1 ?_)
 have m0:Mg (geF f) (a.toList++b.toList) (#v[y]:Array Keyed).toList (a.toList.take (a.size - 1)).reverse (b.toList.take b.size).reverse:=by
  have ea:a.toList.take a.size=a.toList:=br (by simp);have eb:b.toList.take b.size=b.toList:=br (by simp)
  have h0:Mg (geF f) (a.toList++b.toList) [] ([y]++(a.toList.take (a.size - 1)).reverse) (b.toList.take b.size).reverse:=by
   have e:a.toList.reverse=[y]++(a.toList.take (a.size - 1)).reverse:=by rw[ea] at y3;show y3
   rw[<- e,eb];show#[(dM _).append (dM _),.nil,λ_ hx=>by simp at hx,eR.mpr sa,eR.mpr sb]
  show h0.a λx hx z hz=>by rw[ao.mp hx];show hl z (by have:=bw (cm.mp hz);simpa using this) y y1
 dsimp only;show z9 (λe1=>?_) (λe1=>?_);show wpS_pure (h _ _ #[BB,BB,BB,BB] (zeR m0 (.inl (cq e1))));show z9 (λe2=>?_) (λe2=>?_);show wpS_pure (h _ _ #[BB,BB,BB,BB] (zdQ m0 e2 nb hf));have a7:a.size - 1≠0:=λz=>e1 (by rw[z];rfl);have ba:b.size≠1:=λz=>e2 (by rw[z];rfl);show wpS_bind (wpS_get ?_);show wpS_bind (wpS_mono (bH (I:=λx c U=>Like st U/\∃ia ib out g,c=(none,ia,ib,out,g)/\HiI f (a.toList++b.toList) a b out ia ib/\x+(ia+ib)+1<=a.size+b.size) (Q:=λc U=>Like st U/\∃r ia ib out g,c=(some r,ia,ib,out,g)/\zdg (leF f) (a.toList++b.toList) r.toList) ?_ ?_ #[#[BB,BB,BB,BB],_,_,_,_,BB,#[m0,by lia,by lia,by lia,by lia],by lia]) ?_)
 ·intro x c a0 _ hx H;show ex4 H λl1 ia ib out g e I hp=>?_;clear H;subst e;dsimp only
  show wpS_bind (wpS_mono (bH (I:=λx c U=>Like st U/\∃F J B ac bc,c=(none,F,J,B,ac,bc)/\HiI f (a.toList++b.toList) a b B F J/\x+(F+J)<=ia+ib)
   (Q:=λc U=>Like st U/\((∃r F J B ac bc,c=(some r,F,J,B,ac,bc)/\zdg (leF f) (a.toList++b.toList) r.toList)\/∃F J B ac bc,c=(none,F,J,B,ac,bc)/\HiI f (a.toList++b.toList) a b B F J/\F+J+1<=ia+ib)) ?_ ?_ #[l1,_,_,_,_,_,BB,I,by lia]) ?_)
  intro x2 c a1 _ bb H;show ex5 H λl2 ad Z o2 ac bc e I2 a2=>?_;clear H;subst e;dsimp only;have la:=I2.la;have lb:=I2.lb;have ma:=I2.ma;have mb:=I2.mb;show ziK (zh1 (a:=b) (n:=Z) (by lia) mb) λy y1 y2 y3=>?_;show ziK (zh1 la ma) λz z1 z2 z3=>?_;show wpS_bind (yw y1 (wpS_bind (yw z1 (wpS_bind (ztg R (hb _ y2) (ha _ z2) (l2.kind.trans hk) ?_)))));have mg:=I2.mg;by_cases a3:f y<f z;rw[aY a3];dsimp only;show zqO BB ?_;show wpS_bind (yw z1 ?_);have ub:=mg.ub;rw[y3] at ub;have ub:=a8.mp ub
  have m2:Mg (geF f) (a.toList++b.toList) (o2.push z).toList (a.toList.take (ad - 1)).reverse (b.toList.take Z).reverse:=by
   rw[z3] at mg;rw[bM];show Mg.a (c:=[z]) mg λx hx w Y=>?_;rw[ao.mp hx];rw[y3] at Y;change f w<=f z;rcases ay.mp Y with rfl | Y;lia;have h9:f w<=f y:=ub.1 w Y;lia
  show z9 (λe3=>?_) (λe3=>?_);show wpS_pure #[l2,.inl #[_,_,_,_,_,_,BB,zeR m2 (.inl (cq e3))]];have a4:ad - 1≠0:=λq=>e3 (by rw[q];rfl);split;show wpS_pure #[l2,.inr #[_,_,_,_,_,BB,#[m2,by lia,by lia,lb,mb],by lia]];show wpS_pure #[l2,_,_,_,_,_,BB,#[m2,by lia,by lia,lb,mb],by lia];rw[a6 a3];dsimp only;show zqN az ?_;show wpS_bind (yw y1 ?_);have ua:=mg.ua;rw[z3] at ua;have ua:=a8.mp ua
  have m2:Mg (geF f) (a.toList++b.toList) (o2.push y).toList (a.toList.take ad).reverse (b.toList.take (Z - 1)).reverse:=by
   rw[y3] at mg;rw[bM];show Mg.b (c:=[y]) mg λx hx w Y=>?_;rw[ao.mp hx];rw[z3] at Y;change f w<=f y;rcases ay.mp Y with rfl | Y;lia;have h9:f w<=f z:=ua.1 w Y;lia
  show z9 (λe3=>?_) (λe3=>?_);show wpS_pure #[l2,.inl #[_,_,_,_,_,_,BB,zdQ m2 e3 nb hf]];have a4:Z - 1≠1:=λq=>e3 (by rw[q];rfl);split;show wpS_pure #[l2,.inr #[_,_,_,_,_,BB,#[m2,la,ma,by lia,by lia],by lia]];show wpS_pure #[l2,_,_,_,_,_,BB,#[m2,la,ma,by lia,by lia],by lia];rintro c a1 ⟨l2,ad,Z,o2,ac,bc,rfl,I2,a2⟩;have la:=I2.la;have lb:=I2.lb;lia
  ·intro c a1 H;show exO5 H (λl2 r ad Z o2 ac bc e ht=>?_) (λl2 ad Z o2 ac bc e I2 a2=>?_)
   all_goals clear H
   all_goals subst e
   show wpS_pure #[l2,_,_,_,_,_,BB,ht];dsimp only;show wpS_bind (wpS_lift (cZ #[BB,?_]))
   show wpS_bind (wpS_mono (bH (I:=λx c U=>Like st U/\∃F J B g ac bc,c=(none,F,J,B,g,ac,bc)/\HiI f (a.toList++b.toList) a b B F J/\F+J<=ad+Z)
    (Q:=λc U=>Like st U/\((∃r F J B g ac bc,c=(some r,F,J,B,g,ac,bc)/\zdg (leF f) (a.toList++b.toList) r.toList)\/∃F J B g ac bc,c=(none,F,J,B,g,ac,bc)/\HiI f (a.toList++b.toList) a b B F J/\F+J<=ad+Z)) ?_ ?_ #[l2,_,_,_,_,_,_,BB,I2,ai _]) ?_)
   ·intro x3 c al _ bd H;show ex6 H λl3 ag O o3 g3 an ap e I3 as=>?_;clear H;subst e;dsimp only;have la:=I3.la;have lb:=I3.lb;have ma:=I3.ma;have mb:=I3.mb;have mg:=I3.mg;show ziK (zh1 (a:=b) (n:=O) (by lia) mb) λy y1 y2 y3=>?_;have ub:=mg.ub;rw[y3] at ub;have ub:=a8.mp ub;refine' zh3 (λ(_:Nat) (_:Unit)=>True) _ (λzx=>?_) ?_;rotate_left;by_cases g0:g3 > 1;rw[if_pos g0];generalize g3 - 1=g4;generalize hu:()=u;show zx g4 u trivial;rw[if_neg g0];show zx g3 () trivial;rintro g4 u -
    all_goals
     show wpS_bind (dL ?_);have lk:∀g,Like st (SortSt.mk' (kindOf al) (arrOf al) (pendingOf al) g (failedOf al)):=λg=>#[l3.kind,l3.arr,l3.pend,l3.fail];show wpS_bind (yw y1 ?_);show wpS_bind (zhZ (left:=false) (base:=0) (n:=ag) (hint:=ag - 1) R (hb _ y2) ha (by lia) (by lia) (sa.sublist ((cw _ _).trans (eG _ _))) ((lk _).kind.trans hk) λk k1 k2 k3=>?_);dsimp only;rw[eK] at k2 k3;have h4:∀w∈(a.toList.take k).reverse,f w<=f y:=λw Y=>by have h5:=k2 w (cm.mp Y);unfold xL at h5;rw[if_neg az,eF,bL] at h5;lia
     have m4:Mg (geF f) (a.toList++b.toList) (o3++(a.extract k ag).reverse).toList (a.toList.take k).reverse (b.toList.take O).reverse:=by
      rw[bh,ziM];show Mg.a (by rw[zix _ k1];show mg) λx hx w Y=>?_;have h5:=k3 x (cm.mp hx);unfold xL at h5;rw[if_neg az,fT,cz] at h5;rw[y3] at Y;change f w<=f x;rcases ay.mp Y with rfl | Y;lia;have h9:f w<=f y:=ub.1 w Y;lia
     have q2:k<=a.size:=by lia
     have q5:k+O<=ad+Z:=by lia
     refine' zh3 (λ(o4:Array Keyed) (k:Nat)=>Mg (geF f) (a.toList++b.toList) o4.toList (a.toList.take k).reverse (b.toList.take O).reverse/\(∀w∈(a.toList.take k).reverse,f w<=f y)/\1<=k/\k<=a.size/\k+O<=ad+Z) _ (λzx=>?_) ?_;rotate_left;show z9 (λk0=>?pos) (λk0=>?neg)
     case pos=>
      show z9 (λe4=>?_) (λe4=>?_);show wpS_pure #[lk _,.inl #[_,_,_,_,_,_,_,BB,zeR m4 (.inl (cq e4))]];have be:k≠0:=λq=>e4 (by rw[q];rfl);have q1:1<=k:=by lia
      generalize ho:o3++(a.extract k ag).reverse=o4;generalize hi:k=k4;show zx o4 k4 (by rw[<- ho,<- hi];show#[m4,h4,q1,q2,q5])
     case neg=>
      have a5:k=ag:=by lia
      rw[a5] at h4 q5 ⊢;show zx o3 ag #[mg,h4,la,ma,q5]
     clear h4 m4 q2 q5 k1 k2 k3;clear k;intro o4 k H;have m4:=H.1;have h4:=H.2.1;have q1:=H.2.2.1;have q2:=H.2.2.2.1;have q5:=H.2.2.2.2;clear H
     all_goals
      show wpS_bind (yw y1 ?_);have m5:Mg (geF f) (a.toList++b.toList) (o4.push y).toList (a.toList.take k).reverse (b.toList.take (O - 1)).reverse:=by rw[y3] at m4;rw[bM];show Mg.b (c:=[y]) m4 λx hx w Y=>by rw[ao.mp hx];show h4 w Y
      show z9 (λe6=>?_) (λe6=>?_);show wpS_pure #[lk _,.inl #[_,_,_,_,_,_,_,BB,zdQ m5 e6 nb hf]];have bk:O - 1≠1:=λq=>e6 (by rw[q];rfl);show ziK (zh1 q1 q2) λz z1 z2 z3=>?_;show wpS_bind (yw z1 ?_);have ua:=m5.ua;rw[z3] at ua;have ua:=a8.mp ua;show wpS_bind (zhZ (left:=true) (base:=0) (n:=O - 1) (hint:=O - 1 - 1) R (ha _ z2) hb (by lia) (by lia) (sb.sublist ((cw _ _).trans (eG _ _))) ((lk _).kind.trans hk) λj j1 j2 j3=>?_);dsimp only;rw[eK] at j2 j3;have h6:∀w∈(b.toList.take j).reverse,f w<=f z:=λw Y=>by have h5:=j2 w (cm.mp Y);unfold xL at h5;rw[if_pos rfl,cz] at h5;lia
      have m6:Mg (geF f) (a.toList++b.toList) (o4.push y++(b.extract j (O - 1)).reverse).toList (a.toList.take k).reverse (b.toList.take j).reverse:=by
       rw[bh,ziM];show Mg.b (by rw[zix _ j1];show m5) λx hx w Y=>?_;have h5:=j3 x (cm.mp hx);unfold xL at h5;rw[if_pos rfl,bL] at h5;rw[z3] at Y;change f w<=f x;rcases ay.mp Y with rfl | Y;lia;have h9:f w<=f z:=ua.1 w Y;lia
      refine' zh3 (λ(o5:Array Keyed) (j:Nat)=>Mg (geF f) (a.toList++b.toList) o5.toList (a.toList.take k).reverse (b.toList.take j).reverse/\(∀w∈(b.toList.take j).reverse,f w<=f z)/\2<=j/\j<=O - 1) _ (λzx=>?_) ?_;rotate_left;show z9 (λj0=>?pos) (λj0=>?neg)
      case pos=>
       show z9 (λe7=>?_) (λe7=>?_);show wpS_pure #[lk _,.inl #[_,_,_,_,_,_,_,BB,zdQ m6 e7 nb hf]];show z9 (λe8=>?_) (λe8=>?_);show wpS_pure #[lk _,.inl #[_,_,_,_,_,_,_,BB,zeR m6 (.inr (cq e8))]];have bl:j≠1:=λq=>e7 (by rw[q];rfl);have bo:j≠0:=λq=>e8 (by rw[q];rfl);have q3:2<=j:=by lia
       generalize ho:o4.push y++(b.extract j (O - 1)).reverse=o5;generalize hi:j=j4;show zx o5 j4 (by rw[<- ho,<- hi];show#[m6,h6,q3,j1])
      case neg=>
       have hj:j=O - 1:=by lia
       rw[hj] at h6 ⊢;show zx (o4.push y) (O - 1) #[m5,h6,by lia,ai _]
      clear h6 m6 j1 j2 j3;clear j;intro o5 j H;have m6:=H.1;have h6:=H.2.1;have q3:=H.2.2.1;have j1:=H.2.2.2;clear H
      all_goals
       show wpS_bind (yw z1 ?_);have m7:Mg (geF f) (a.toList++b.toList) (o5.push z).toList (a.toList.take (k - 1)).reverse (b.toList.take j).reverse:=by rw[z3] at m6;rw[bM];show Mg.a (c:=[z]) m6 λx hx w Y=>by rw[ao.mp hx];show h6 w Y
       show z9 (λe9=>?_) (λe9=>?_);show wpS_pure #[lk _,.inl #[_,_,_,_,_,_,_,BB,zeR m7 (.inl (cq e9))]];have bs:k - 1≠0:=λq=>e9 (by rw[q];rfl);split;show wpS_pure #[lk _,.inr #[_,_,_,_,_,_,BB,#[m7,by lia,by lia,q3,by lia],by lia]];show wpS_pure #[lk _,_,_,_,_,_,_,BB,#[m7,by lia,by lia,q3,by lia],by lia]
   rintro c al ⟨l3,ag,O,o3,g3,an,ap,rfl,I3,as⟩;show#[l3,.inr #[_,_,_,_,_,_,BB,I3,as]]
   ·intro c al H;show exO6 H (λl3 r ag O o3 g3 an ap e ht=>?_) (λl3 ag O o3 g3 an ap e I3 as=>?_)
    all_goals clear H
    all_goals subst e
    show wpS_pure #[l3,_,_,_,_,_,BB,ht];dsimp only;show wpS_bind (dL (wpS_pure #[#[l3.kind,l3.arr,l3.pend,l3.fail],_,_,_,_,BB,I3,by lia]))
 rintro c a0 ⟨l1,ia,ib,out,g,rfl,I,hp⟩;have:=I.la;have:=I.lb;lia;rintro c a0 ⟨l1,r,ia,ib,out,g,rfl,ht⟩;show wpS_pure (h _ _ l1 ht)
end
def kA (f:Keyed->Int)(a:Array Keyed)(i:Nat):Int:=match a[i]? with | some x=>f x | none=>0
def Seg (f:Keyed->Int)(a:Array Keyed)(lo hi:Nat):Prop:=∀i j,lo<=i->i<=j->j<hi->kA f a i<=kA f a j
def Gse (f:Keyed->Int)(a:Array Keyed)(lo hi:Nat):Prop:=∀i j,lo<=i->i<=j->j<hi->kA f a j<=kA f a i
structure Lk (lo:Nat)(st st':SortSt):Prop where
 kind:kindOf st'=kindOf st
 pend:pendingOf st'=pendingOf st
 fail:failedOf st'=failedOf st
 perm:(arrOf st').Perm (arrOf st)
 low:∀k,k<lo->(arrOf st')[k]?=(arrOf st)[k]?
section
variable {M:Model}{A:Ae}{E:AA}{s:AZ}{κ:SortKind}{L0:List Keyed}{f:Keyed->Int}
def zaK(h:a[i]?=b[j]?):kA f a i=kA f b j:=by unfold kA;rw[h]
def Lk.refl (lo:Nat)(st:SortSt):Lk lo st st:=#[BB,BB,BB,.refl _,λ_ _=>rfl]
def Lk.trans {lo:Nat}{st B q:SortSt}(h:Lk lo st B)(k:Lk lo B q):Lk lo st q:=#[k.kind.trans h.kind,k.pend.trans h.pend,k.fail.trans h.fail,k.perm.trans h.perm,λi hi=>(k.low i hi).trans (h.low i hi)]
def Lk.size {lo:Nat}{st q:SortSt}(h:Lk lo st q):(arrOf q).size=(arrOf st).size:=h.perm.size_eq
def Lk.mem {lo:Nat}{st q:SortSt}(h:Lk lo st q)(k:∀x∈arrOf st,x∈L0):∀x∈arrOf q,x∈L0:=λx B=>k x (h.perm.mem_iff.mp B)
def zfx (R:zbK M A s κ L0 f){st:SortSt}{i j:Nat}(I:kindOf st=κ)(q:∀x∈arrOf st,x∈L0)(hi:i<(arrOf st).size)(J:j<(arrOf st).size){Q:Option Bool->SortSt->Prop}(h:Q (some (decide (kA f (arrOf st) i<kA f (arrOf st) j))) st):wpS M A E s (ltAt' i j) Q st:=by rw[ltAt'_eq];show wpS_bind (wpS_get ?_);have B:(arrOf st)[i]?=some (arrOf st)[i]:=aR hi;have F:(arrOf st)[j]?=some (arrOf st)[j]:=aR J;show wpS_bind (yw B (wpS_bind (yw F (ztg R (q _ (dJ _)) (q _ (dJ _)) I ?_))));unfold kA at h;rw[B,F] at h;show h
def zmJ{st:SortSt}{Q:Unit->SortSt->Prop}(h:Q () (setArr st (mirror (arrOf st) i j ((j - i) / 2)))):wpS M A E s (reverseSlice' i j) Q st:=by rw[reverseSlice'_eq];show dL h
def Lk.rev {lo:Nat}(st:SortSt){i j:Nat}(h1:lo<=i)(h2:j<=(arrOf st).size):Lk lo st (setArr st (mirror (arrOf st) i j ((j - i) / 2))):=#[BB,BB,BB,mirror_perm _ _ _ _,λk q=>by change (mirror (arrOf st) i j ((j - i) / 2))[k]?=_;rw[getElem?_mirror_all h2,if_neg (by lia)]]
def zcm(h2:j<=a.size)(k:Nat):kA f (mirror a i j ((j - i) / 2)) k=if i<=k/\k<j then kA f a (i+j - 1 - k) else kA f a k:=by
 have e:=getElem?_mirror_all (i:=i) h2 k;by_cases h:i<=k/\k<j;rw[if_pos h] at e ⊢;show zaK e;rw[if_neg h] at e ⊢;show zaK e
def uM {a:Array Keyed}{i j:Nat}(h2:j<=a.size)(h:∀k,i<=k->k<j->kA f a k=kA f a (j - 1))(k:Nat):kA f (mirror a i j ((j - i) / 2)) k=kA f a k:=by
 rw[zcm h2];split;rw[h _ (by lia) (by lia),h k (by lia) (by lia)];rfl
def Gse.turn {a:Array Keyed}{i j:Nat}(h2:j<=a.size)(h:Gse f a i j):Seg f (mirror a i j ((j - i) / 2)) i j:=λp q B I F=>by rw[zcm h2,zcm h2,if_pos #[B,by lia],if_pos #[by lia,F]];show h _ _ (by lia) (by lia) (by lia)
def zhY (R:zbK M A s κ L0 f){st:SortSt}{lo nrem:Nat}(hk:kindOf st=κ)(ha:∀x∈arrOf st,x∈L0)(h1:1<=nrem)(hz:lo+nrem<=(arrOf st).size){Q:Option Nat->SortSt->Prop}
  (h:∀m st',Lk lo st st'->1<=m->m<=nrem->Seg f (arrOf st') lo (lo+m)->Q (some m) st'):wpS M A E s (countRun' lo nrem) Q st:=by
 rw[countRun'_eq]
 have asc:∀ (n:Nat) (st1:SortSt),Lk lo st st1->1<=n->n<=nrem->Seg f (arrOf st1) lo (lo+n)->∀ {BG:Option (Option Nat)×Nat->SortSt->Prop} {body:Nat->Option (Option Nat)×Nat->StateT SortSt Sem (ForInStep (Option (Option Nat)×Nat))},
   (∀m,n<=m->m<=nrem->Seg f (arrOf st1) lo (lo+m)->(m<nrem->kA f (arrOf st1) (lo+m)<kA f (arrOf st1) (lo+m - 1))->BG (none,m) st1)->
   (∀x m (G':ForInStep (Option (Option Nat)×Nat)->SortSt->Prop),n<=m->m<nrem->(kA f (arrOf st1) (lo+m)<kA f (arrOf st1) (lo+m - 1)->G' (.done (none,m)) st1)->(¬ kA f (arrOf st1) (lo+m)<kA f (arrOf st1) (lo+m - 1)->G' (.yield (none,m+1)) st1)->wpS M A E s (body x (none,m)) G' st1)->
   wpS M A E s (forIn [n:nrem] (none,n) body) BG st1:=by
  intro n st1 l1 hn1 hn2 hs BG body hG hb;have hz1:=l1.size;show bH (I:=λx c st2=>st2=st1/\c=(none,x)/\n<=x/\Seg f (arrOf st1) lo (lo+x)) ?_ ?_ #[BB,BB,ai _,hs];rintro x c st2 hx1 hx2 ⟨rfl,rfl,_,hs2⟩;show hb x x _ hx1 hx2 (λe=>hG x hx1 (by lia) hs2 λ_=>e) (λe=>?_);show#[BB,BB,by lia,λi j p q r=>?_];by_cases e1:j<lo+x;show hs2 i j p q e1;obtain rfl:j=lo+x:=by lia
  by_cases e2:i=lo+x;subst e2;show dn _;have:=hs2 i (lo+x - 1) p (by lia) (by lia);lia;rintro c st2 ⟨rfl,rfl,_,hs2⟩;have e:max n nrem=nrem:=by lia
  rw[e] at hs2 ⊢;show hG nrem hn2 (ai _) hs2 λz=>by lia
 have step:∀ (st1:SortSt),Lk lo st st1->∀m,1<=m->m<nrem->∀ (G':ForInStep (Option (Option Nat)×Nat)->SortSt->Prop),(kA f (arrOf st1) (lo+m)<kA f (arrOf st1) (lo+m - 1)->G' (.done (none,m)) st1)->(¬ kA f (arrOf st1) (lo+m)<kA f (arrOf st1) (lo+m - 1)->G' (.yield (none,m+1)) st1)->
   ∀ {k:Option Bool->StateT SortSt Sem (ForInStep (Option (Option Nat)×Nat))},k (some true)=pure (.done (none,m))->k (some false)=pure (.yield (none,m+1))->wpS M A E s (ltAt' (lo+m) (lo+m - 1) >>= k) G' st1:=by
  intro st1 l1 m h2 h3 G' g1 g2 k k1 k2;have hz1:=l1.size;show wpS_bind (zfx R (l1.kind.trans hk) (l1.mem ha) (by lia) (by lia) ?_);by_cases e:kA f (arrOf st1) (lo+m)<kA f (arrOf st1) (lo+m - 1);rw[aY e,k1];show wpS_pure (g1 e);rw[a6 e,k2];show wpS_pure (g2 e)
 show wpS_bind (asc 1 st (Lk.refl _ _) (ai _) h1 (λi j p q r=>by rw[show i=j by lia];show dn _) (λm hm1 hm2 hs hd=>?_) (λx m G' q1 q2 g1 g2=>step st (Lk.refl _ _) m (by lia) q2 G' g1 g2 BB BB))
 have fall:∀st1,Lk lo st st1->m<nrem->Gse f (arrOf st1) lo (lo+(m+1))->∀ {BG:Option (Option Nat)×Nat×Nat->SortSt->Prop} {body:Nat->Option (Option Nat)×Nat×Nat->StateT SortSt Sem (ForInStep (Option (Option Nat)×Nat×Nat))},
   (∀n q st2,Lk lo st st2->m+1<=n->n<=nrem->q+1<=n->Gse f (arrOf st2) lo (lo+n)->(∀k,lo+n - (q+1)<=k->k<lo+n->kA f (arrOf st2) k=kA f (arrOf st2) (lo+n - 1))->BG (none,n,q) st2)->
   (∀x n q st2 (G':ForInStep (Option (Option Nat)×Nat×Nat)->SortSt->Prop),Lk lo st st2->m+1<=n->n<nrem->q+1<=n->
    (kA f (arrOf st2) (lo+n)<kA f (arrOf st2) (lo+n - 1)->q > 0->G' (.yield (none,n+1,0)) (setArr st2 (mirror (arrOf st2) (lo+n - (q+1)) (lo+n) ((lo+n - (lo+n - (q+1))) / 2))))->(kA f (arrOf st2) (lo+n)<kA f (arrOf st2) (lo+n - 1)->¬ q > 0->G' (.yield (none,n+1,0)) st2)->
    (kA f (arrOf st2) (lo+n - 1)<kA f (arrOf st2) (lo+n)->G' (.done (none,n,q)) st2)->(kA f (arrOf st2) (lo+n)=kA f (arrOf st2) (lo+n - 1)->G' (.yield (none,n+1,q+1)) st2)->wpS M A E s (body x (none,n,q)) G' st2)->
   wpS M A E s (forIn [m+1:nrem] (none,m+1,0) body) BG st1:=by
  intro st1 l1 hmn hg BG body hG hb;show bH (I:=λx c st2=>∃q,c=(none,x,q)/\Lk lo st st2/\m+1<=x/\q+1<=x/\Gse f (arrOf st2) lo (lo+x)/\∀k,lo+x - (q+1)<=k->k<lo+x->kA f (arrOf st2) k=kA f (arrOf st2) (lo+x - 1)) ?_ ?_ #[0,BB,l1,ai _,by lia,hg,λk p q=>by congr 1;lia];rintro x c st2 hx1 hx2 ⟨q,rfl,l2,p1,p2,p3,p4⟩;have hz2:=l2.size
  have more:∀st3:SortSt,(∀k,kA f (arrOf st3) k=kA f (arrOf st2) k)->kA f (arrOf st2) (lo+x)<=kA f (arrOf st2) (lo+x - 1)->Gse f (arrOf st3) lo (lo+(x+1)):=λst3 e3 hle i j a1 a2 a3=>by
   rw[e3,e3];by_cases e1:j<lo+x;show p3 i j a1 a2 e1;obtain rfl:j=lo+x:=by lia
   by_cases e2:i=lo+x;subst e2;show dn _;have:=p3 i (lo+x - 1) a1 (by lia) (by lia);lia
  show hb x x q st2 _ l2 p1 hx2 p2 (λe hq=>?_) (λe hq=>?_) (λe=>?_) (λe=>?_);have e3:∀k,kA f (mirror (arrOf st2) (lo+x - (q+1)) (lo+x) ((lo+x - (lo+x - (q+1))) / 2)) k=kA f (arrOf st2) k:=uM (by lia) p4;show#[0,BB,l2.trans (Lk.rev st2 (by lia) (by lia)),by lia,by lia,more _ e3 (by lia),λk a1 a2=>by congr 1;lia];show#[0,BB,l2,by lia,by lia,more _ (λ_=>rfl) (by lia),λk a1 a2=>by congr 1;lia];show hG x q st2 l2 p1 (by lia) p2 p3 p4;show#[q+1,BB,l2,by lia,by lia,more _ (λ_=>rfl) (by lia),λk a1 a2=>?_];rw[show lo+(x+1) - 1=lo+x by lia];by_cases e1:k=lo+x;rw[e1];rw[p4 k (by lia) (by lia),e];rintro c st2 ⟨q,rfl,l2,p1,p2,p3,p4⟩;have e:max (m+1) nrem=nrem:=by lia
  rw[e] at p1 p2 p3 p4 ⊢;show hG nrem q st2 l2 p1 (ai _) p2 p3 p4
 dsimp only;by_cases e1:(m==nrem)=true;rw[if_pos e1];show wpS_pure (h m st (Lk.refl _ _) hm1 hm2 hs);rw[if_neg e1];have e1':m<nrem:=by have:m≠nrem:=λz=>e1 (by rw[z];show cC _);lia
 have hd:=hd e1';by_cases e2:m > 1
 case' pos=>
  rw[if_pos e2];show wpS_bind (zfx R hk ha (by lia) (by lia) ?_);by_cases e3:kA f (arrOf st) lo<kA f (arrOf st) (lo+m - 1);rw[aY e3];show wpS_pure (h m st (Lk.refl _ _) hm1 hm2 hs);rw[a6 e3];dsimp only;rw[if_neg az];show wpS_bind (zmJ ?_);have l1:=Lk.rev (lo:=lo) st (i:=lo) (j:=lo+m) (ai _) (by lia);have eq0:∀k,lo<=k->k<lo+m->kA f (arrOf st) k=kA f (arrOf st) (lo+m - 1):=λk a1 a2=>by have h3:=hs lo k (ai _) a1 a2;have h4:=hs k (lo+m - 1) a1 (by lia) (by lia);lia
  have eq1:=uM (i:=lo) (by lia) eq0
  have g1:Gse f (mirror (arrOf st) lo (lo+m) ((lo+m - lo) / 2)) lo (lo+(m+1)):=λi j a1 a2 a3=>by
   rw[eq1,eq1];by_cases ej:j<lo+m;rw[eq0 j (by lia) ej,eq0 i a1 (by lia)];show dn _;obtain rfl:j=lo+m:=by lia
   by_cases ei:i=lo+m;rw[ei];show dn _;rw[eq0 i a1 (by lia)];lia
  have g1:Gse f (arrOf (setArr st (mirror (arrOf st) lo (lo+m) ((lo+m - lo) / 2)))) lo (lo+(m+1)):=g1;generalize setArr st (mirror (arrOf st) lo (lo+m) ((lo+m - lo) / 2))=st1 at l1 g1 ⊢
 case' neg=>
  rw[if_neg e2]
  obtain⟨st1,l1,g1,hst⟩:∃st1,Lk lo st st1/\Gse f (arrOf st1) lo (lo+(m+1))/\st1=st:=#[st,Lk.refl _ _,λi j a1 a2 a3=>by
   by_cases e:i=j;rw[e];show dn _;rw[show i=lo+m - 1 by lia,show j=lo+m by lia];lia,BB]
  rw[<- hst]
 all_goals
  show wpS_bind (wpS_lift (cZ #[BB,?_]));show wpS_bind (fall st1 l1 e1' g1 (λn q st2 l2 n1 n2 q1 g2 g3=>?_) (λx n q st2 G' l2 n1 n2 q1 b1 b2 b3 b4=>?_))
  ·dsimp only;have hz2:=l2.size;by_cases e4:q > 0
   case' pos=>
    rw[if_pos e4];show wpS_bind (zmJ ?_);have l3:=l2.trans (Lk.rev (lo:=lo) st2 (i:=lo+n - (q+1)) (j:=lo+n) (by lia) (by lia));have eq3:=uM (i:=lo+n - (q+1)) (by lia) g3;have g4:Gse f (arrOf (setArr st2 (mirror (arrOf st2) (lo+n - (q+1)) (lo+n) ((lo+n - (lo+n - (q+1))) / 2)))) lo (lo+n):=λi j a1 a2 a3=>by have:=g2 i j a1 a2 a3;rw[<- eq3 i,<- eq3 j] at this;show this
    generalize setArr st2 (mirror (arrOf st2) (lo+n - (q+1)) (lo+n) ((lo+n - (lo+n - (q+1))) / 2))=st3 at l3 g4 ⊢
   case' neg=>
    rw[if_neg e4];obtain⟨st3,l3,g4,hst3⟩:∃st3,Lk lo st st3/\Gse f (arrOf st3) lo (lo+n)/\st3=st2:=#[st2,l2,g2,BB];rw[<- hst3]
   all_goals
    show wpS_bind (zmJ ?_);have hz3:=l3.size;have l4:=l3.trans (Lk.rev (lo:=lo) st3 (i:=lo) (j:=lo+n) (ai lo) (by lia));have g5:=Gse.turn (by lia) g4;show wpS_bind (asc n _ l4 (by lia) n2 g5 (λm' a1 a2 a3 a4=>?_) (λx m' G' q1 q2 c1 c2=>step _ l4 m' (by lia) q2 G' c1 c2 BB BB));show wpS_pure (h m' _ l4 (by lia) a2 a3)
  dsimp only;have hz2:=l2.size;show wpS_bind (zfx R (l2.kind.trans hk) (l2.mem ha) (by lia) (by lia) ?_);by_cases e5:kA f (arrOf st2) (lo+n)<kA f (arrOf st2) (lo+n - 1);rw[aY e5];dsimp only;rw[if_pos rfl];by_cases e6:q > 0;rw[if_pos e6];show wpS_bind (zmJ (wpS_pure (b1 e5 e6)));rw[if_neg e6];show wpS_pure (b2 e5 e6);rw[a6 e5];dsimp only;rw[if_neg az];show wpS_bind (zfx R (l2.kind.trans hk) (l2.mem ha) (by lia) (by lia) ?_);by_cases e6:kA f (arrOf st2) (lo+n - 1)<kA f (arrOf st2) (lo+n);rw[aY e6];show wpS_pure (b3 e6);rw[a6 e6];show wpS_pure (b4 (by lia))
def zth{st:SortSt}{Q:Unit->SortSt->Prop}(h:Q () (setArr st (bubble (arrOf st) i (i - j)))):wpS M A E s (moveDown' i j) Q st:=by rw[moveDown'_eq];show dL h
def Lk.move {lo:Nat}(st:SortSt){i j:Nat}(h1:lo<=j)(h2:i<(arrOf st).size)(q:j<=i):Lk lo st (setArr st (bubble (arrOf st) i (i - j))):=#[BB,BB,BB,bubble_perm _ _ _,λk B=>by change (bubble (arrOf st) i (i - j))[k]?=_;rw[getElem?_bubble h2 _ (by lia),if_neg (by lia),if_neg (by lia)]]
def zeZ(h2:i<a.size)(F:j<=i)(k:Nat):kA f (bubble a i (i - j)) k=if k=j then kA f a i else if j<k/\k<=i then kA f a (k - 1) else kA f a k:=by
 have e:=getElem?_bubble h2 (i - j) (by lia) k;rw[show i - (i - j)=j by lia] at e;by_cases q:k=j;rw[if_pos q] at e ⊢;show zaK e;rw[if_neg q] at e ⊢;by_cases B:j<k/\k<=i;rw[if_pos B] at e ⊢;show zaK e;rw[if_neg B] at e ⊢;show zaK e
def zfw (R:zbK M A s κ L0 f){st:SortSt}{lo n U:Nat}(hk:kindOf st=κ)(ha:∀x∈arrOf st,x∈L0)(h1:U<=n)(hn:1<=n)(hz:lo+n<=(arrOf st).size)(hs:Seg f (arrOf st) lo (lo+U)){Q:Bool->SortSt->Prop}
  (h:∀q,Lk lo st q->Seg f (arrOf q) lo (lo+n)->Q true q):wpS M A E s (binarySort' lo n U) Q st:=by
 rw[binarySort'_eq];show wpS_bind (wpS_mono (bH (I:=λx c q=>c=(none,())/\Lk lo st q/\Seg f (arrOf q) lo (lo+x)) (Q:=λc q=>c=(none,())/\Lk lo st q/\Seg f (arrOf q) lo (lo+n)) ?_ ?_ #[BB,Lk.refl _ _,?_]) ?_);rintro k c B ad ag ⟨rfl,O,J⟩;have al:=O.size;dsimp only
 show wpS_bind (wpS_mono (bH (I:=λx c q=>q=B/\∃l r,c=(none,l,r)/\l<=r/\r<=k/\(∀i,i<l->kA f (arrOf B) (lo+i)<=kA f (arrOf B) (lo+k))/\(∀i,r<=i->i<k->kA f (arrOf B) (lo+k)<kA f (arrOf B) (lo+i))/\r - l+x<=k)
  (Q:=λc q=>q=B/\∃l,c=(none,l,l)/\l<=k/\(∀i,i<l->kA f (arrOf B) (lo+i)<=kA f (arrOf B) (lo+k))/\(∀i,l<=i->i<k->kA f (arrOf B) (lo+k)<kA f (arrOf B) (lo+i))) ?_ ?_ #[BB,0,k,BB,by lia,by lia,λi hi=>by lia,λi a1 a2=>by lia,by lia]) ?_)
 rintro x c F _ hx ⟨rfl,l,r,rfl,p1,p2,p3,p4,p5⟩;dsimp only;by_cases e:l ≥ r;rw[if_pos e];obtain rfl:l=r:=by lia
 show wpS_pure #[BB,l,BB,p2,p3,p4];rw[if_neg e];show wpS_bind (zfx R (O.kind.trans hk) (O.mem ha) (by lia) (by lia) ?_);by_cases e2:kA f (arrOf F) (lo+k)<kA f (arrOf F) (lo+(l+r) / 2);rw[aY e2];show wpS_pure #[BB,l,(l+r) / 2,BB,by lia,by lia,p3,λi a1 a2=>?_,by lia];have:=J (lo+(l+r) / 2) (lo+i) (by lia) (by lia) (by lia);lia;rw[a6 e2];show wpS_pure #[BB,(l+r) / 2+1,r,BB,by lia,p2,λi a1=>?_,p4,by lia];have:=J (lo+i) (lo+(l+r) / 2) (by lia) (by lia) (by lia);lia;rintro c F ⟨rfl,l,r,rfl,p1,p2,p3,p4,p5⟩;obtain rfl:l=r:=by lia
 show#[BB,l,BB,p2,p3,p4];rintro c F ⟨rfl,l,rfl,p2,p3,p4⟩;dsimp only;show wpS_bind (zth (wpS_pure #[BB,O.trans (Lk.move F (by lia) (by lia) (by lia)),λi j a1 a2 a3=>?_]));change kA f (bubble (arrOf F) (lo+k) (lo+k - (lo+l))) i<=kA f (bubble (arrOf F) (lo+k) (lo+k - (lo+l))) j;rw[zeZ (by lia) (by lia),zeZ (by lia) (by lia)];have up:=λx y b1 b2 b3=>J x y b1 b2 b3;by_cases ei:i=lo+l;rw[if_pos ei];by_cases Y:j=lo+l;rw[if_pos Y];show dn _;rw[if_neg Y,if_pos #[by lia,by lia]];have:=p4 (j - 1 - lo) (by lia) (by lia);rw[show lo+(j - 1 - lo)=j - 1 by lia] at this;lia;rw[if_neg ei];by_cases Z:lo+l<i/\i<=lo+k;rw[if_pos Z,if_neg (by lia),if_pos #[by lia,by lia]];show J _ _ (by lia) (by lia) (by lia);rw[if_neg Z];by_cases Y:j=lo+l;rw[if_pos Y];have:=p3 (i - lo) (by lia);rw[show lo+(i - lo)=i by lia] at this;show this;rw[if_neg Y];by_cases ac:lo+l<j/\j<=lo+k;rw[if_pos ac];show J _ _ (by lia) (by lia) (by lia);rw[if_neg ac];show J _ _ (by lia) (by lia) (by lia);rintro c B ⟨rfl,O,J⟩;have e:max (max U 1) n=n:=by lia
 rw[e] at J;show#[BB,O,J];by_cases e:1<=U;rw[show max U 1=U by lia];show hs;intro i j a1 a2 a3;rw[show i=j by lia];show dn _;rintro c B ⟨rfl,O,J⟩;show wpS_pure (h B O J)
end
theorem zkT (base:Nat):∀ (l:List Keyed) (n:Nat) (a:Array Keyed),base+n+l.length<=a.size->((l.zipIdx n).foldl (λa (p:Keyed×Nat)=>a.setIfInBounds (base+p.2) p.1) a).toList=a.toList.take (base+n)++(l++a.toList.drop (base+n+l.length))
 | [],n,a,_=>by simp
 | p::l,n,a,h=>by
  rw[aJ] at h;rw[List.zipIdx_cons,List.foldl_cons,zkT base l (n+1) _ (by rw[Array.size_setIfInBounds];lia),Array.toList_setIfInBounds,List.set_eq_take_append_cons_drop,if_pos (by rw[aG];lia)];have e:a.toList.take (base+n)++p::a.toList.drop (base+n+1)=(a.toList.take (base+n)++[p])++a.toList.drop (base+n+1):=by simp
  have q:(a.toList.take (base+n)++[p]).length=base+n+1:=by simp;lia
  change List.take (base+(n+1)) (a.toList.take (base+n)++p::a.toList.drop (base+n+1))++(l++List.drop (base+(n+1)+l.length) (a.toList.take (base+n)++p::a.toList.drop (base+n+1)))=_;rw[e,fK (by rw[q];lia),<- eL,List.drop_left' (by rw[q];lia),eL,aJ];rw[aE,show base+n+1+l.length=base+n+(l.length+1) by lia];rfl
def zli{P A S:List Keyed}(h:P.length=n):(P++(A++S)).drop n=A++S:=List.drop_left' h
def u8{P A S:List Keyed}(h:P.length=n)(k:A.length=m):((P++(A++S)).drop n).take m=A:=by rw[zli h,fK k]
section
variable {M:Model}{A:Ae}{E:AA}{s:AZ}{κ:SortKind}{L0:List Keyed}{f:Keyed->Int}
def ziL {a:Array Keyed}{P X S:List Keyed}{i j:Nat}(e:a.toList=P++(X++S))(h:P.length=i)(k:X.length+i=j):(a.extract i j).toList=X:=by
 have:(a.extract i j).toList=(a.toList.drop i).take (j - i):=by simp
 rw[this,e,u8 h (by lia)]
def zm0{a:Array Keyed}{P S:List Keyed}(e:a.toList=P++x::S)(h:P.length=i):a[i]?=some x:=by rw[<- bZ,e,<- h,bt (ai _)];simp
def zmV {st st':SortSt}{Q:PUnit->SortSt->Prop}(h:Q #[] st'):wpS M A E s (set st':StateT SortSt Sem PUnit) Q st:=by unfold wpS;rw[StateT.run_set];show af #[BB,h]
def zkD (R:zbK M A s κ L0 f){st:SortSt}{i:Nat}{Z pv:List (Nat×Nat×Nat)}{P U V S:List Keyed}{p1 p2:Nat}(hk:kindOf st=κ)(ag:failedOf st=none)(ha:∀x∈arrOf st,x∈L0)
  (B:(arrOf st).toList=P++(U++(V++S))) (al:pendingOf st=(Z++(P.length,U.length,p1)::(P.length+U.length,V.length,p2)::pv).toArray) (hi:i=Z.length) (nu:U≠[]) (nv:V≠[]) (su:U.Pairwise (leF f)) (sv:V.Pairwise (leF f)) {Q:Bool->SortSt->Prop}
  (h:∀ (I:SortSt) (C:List Keyed),kindOf I=κ->failedOf I=none->(arrOf I).toList=P++(C++S)->C.Perm (U++V)->C.Pairwise (leF f)->pendingOf I=(Z++(P.length,U.length+V.length,p1)::pv).toArray->Q true I):wpS M A E s (mergeAt' i) Q st:=by
 subst hi;show wpS_bind (wpS_get ?_);have g1:(pendingOf st)[Z.length]?=some (P.length,U.length,p1):=by rw[al];simp
 have g2:(pendingOf st)[Z.length+1]?=some (P.length+U.length,V.length,p2):=by rw[al];simp
 have g3:((pendingOf st).setIfInBounds Z.length (P.length,U.length+V.length,p1)).eraseIdxIfInBounds (Z.length+1)=(Z++(P.length,U.length+V.length,p1)::pv).toArray:=by rw[al];simp[List.eraseIdx_append_of_length_le]
 rw[g1,g2];dsimp only;show wpS_bind (zmV ?_);rw[g3]
 obtain⟨y,V',rfl⟩:∃y V',V=y::V':=by
  cases V with
  | nil=>show absurd BB nv
  | cons y V'=>show#[y,V',BB]
 obtain⟨U',z,rfl⟩:∃U' z,U=U'++[z]:=#[U.dropLast,U.getLast nu,(bm nu).symm];have hy:(arrOf st)[P.length+(U'++[z]).length]?=some y:=zm0 (P:=P++(U'++[z])) (S:=V'++S) (by rw[B];simp) (by simp);have hz:(arrOf st)[P.length+(U'++[z]).length - 1]?=some z:=zm0 (P:=P++U') (S:=y::V'++S) (by rw[B];simp) (by simp);have hsz:(arrOf st).size=P.length+((U'++[z]).length+((y::V').length+S.length)):=by rw[<- aG,B];simp only[aj]
 have ap:∀x∈U'++[z],x∈L0:=λx F=>ha x (by rw[<- bO,B];simp only[ax] at F ⊢;rcases F with F | F <;> simp[F]);have inV:∀x∈y::V',x∈L0:=λx F=>ha x (by rw[<- bO,B];show aT _ (aT _ (bN _ F)));have cu:((arrOf st).toList.drop P.length).take (U'++[z]).length=U'++[z]:=by rw[B];show u8 BB BB
 have cv:((arrOf st).toList.drop (P.length+(U'++[z]).length)).take (y::V').length=y::V':=by rw[B,<- aE];show u8 (by simp) BB
 have hV:∀w∈y::V',f y<=f w:=λw J=>by
  rcases ay.mp J with rfl | J;show dn _;show (a8.mp sv).1 w J
 have hU:∀w∈U'++[z],f w<=f z:=λw J=>by
  rcases ax.mp J with J | J;show (bi.mp su).2.2 w J z (by simp);rw[ao.mp J];show dn _
 generalize ac:U'++[z]=U at *;generalize an:y::V'=V at *;have yV:y∈V:=by rw[<- an];show am
 have zU:z∈U:=by rw[<- ac];simp
 have bk:1<=U.length:=by rw[<- ac];simp
 have bl:1<=V.length:=by rw[<- an];simp
 have ad:kindOf (SortSt.mk' (kindOf st) (arrOf st) (Z++(P.length,U.length+V.length,p1)::pv).toArray (gallopOf st) (failedOf st))=κ:=hk;show wpS_bind (yw hy ?_);show wpS_bind (zhZ (left:=false) (base:=P.length) (n:=U.length) (hint:=0) R (inV _ yV) ha (by lia) (by lia) (by rw[cu];show su) ad λk k1 k2 k3=>?_);dsimp only;have as:∀x∈U.take k,f x<=f y:=λx F=>by have O:=k2 x (by rw[<- cu,List.take_take,eu k1] at F;show F);unfold xL at O;rw[if_neg az,eF,bL] at O;lia
 have ba:∀x∈U.drop k,f y<f x:=λx F=>by have O:=k3 x (by rw[cu];show F);unfold xL at O;rw[if_neg az,fT,cz] at O;show O
 clear k2 k3;by_cases e1:(U.length - k==0)=true;rw[if_pos e1];have e1:=cq e1;show wpS_pure (h _ (U++V) hk ag (by rw[aE];show B) (eM _) (bi.mpr #[su,sv,λa F b hb=>?_]) BB);have h6:=as a (by rw[br (by lia)];show F);have h7:=hV b hb;change f a<=f b;lia;rw[if_neg e1];have bo:U.length - k≠0:=λq=>e1 (by rw[q];rfl);rw[show P.length+k+(U.length - k) - 1=P.length+U.length - 1 by lia];show wpS_bind (yw hz ?_);show wpS_bind (zhZ (left:=true) (base:=P.length+U.length) (n:=V.length) (hint:=V.length - 1) R (ap _ zU) ha (by lia) (by lia) (by rw[cv];show sv) ad λj j1 j2 j3=>?_);dsimp only;have bb:∀x∈V.take j,f x<f z:=λx F=>by have O:=j2 x (by rw[<- cv,List.take_take,eu j1] at F;show F);unfold xL at O;rw[if_pos rfl,cz] at O;show O
 have a0:∀x∈V.drop j,f z<=f x:=λx F=>by have O:=j3 x (by rw[cv];show F);unfold xL at O;rw[if_pos rfl,bL] at O;lia
 clear j2 j3;by_cases e2:(j==0)=true;rw[if_pos e2];have e2:=cq e2;subst e2;show wpS_pure (h _ (U++V) hk ag (by rw[aE];show B) (eM _) (bi.mpr #[su,sv,λa F b hb=>?_]) BB);have h6:=a0 b hb;have h7:=hU a F;change f a<=f b;lia;rw[if_neg e2];have bs:j≠0:=λq=>e2 (by rw[q];rfl);have ex:((arrOf st).extract (P.length+k) (P.length+U.length)).toList=U.drop k:=ziL (P:=P++U.take k) (S:=V++S) (by rw[B,aE,<- aE (U.take k),aX]) (by simp;lia) (by simp;lia);have ey:((arrOf st).extract (P.length+U.length) (P.length+U.length+j)).toList=V.take j:=ziL (P:=P++U) (S:=V.drop j++S) (by rw[B,<- aE (V.take j),aX,aE]) (by simp) (by simp;lia);generalize hX:(arrOf st).extract (P.length+k) (P.length+U.length)=X at ex ⊢;generalize hY:(arrOf st).extract (P.length+U.length) (P.length+U.length+j)=Y at ey ⊢;have bc:X.size=U.length - k:=by rw[<- aG,ex];simp
 have bx:Y.size=j:=by rw[<- aG,ey];simp;lia
 have mX:∀x∈X,x∈U.drop k:=λx F=>by rw[<- ex];show bO.mpr F
 have mY:∀x∈Y,x∈V.take j:=λx F=>by rw[<- ey];show bO.mpr F
 have a1:∀x∈X,∀w,Y[0]?=some w->f w<=f x:=λx F w J=>by
  have h8:w=y:=by rw[<- bZ,ey,bX (by lia),<- an] at J;show (b8 J).symm
  have:=ba x (mX x F);rw[h8];lia
 have a2:∀x∈Y,∀w,X[X.size - 1]?=some w->f x<=f w:=λx F w J=>by
  have h8:w=z:=by
   have ul:U.length=U'.length+1:=by rw[<- ac];simp
   rw[<- bZ,ex,ez,bc,show k+(U.length - k - 1)=U'.length by lia,<- ac] at J;simpa using J.symm
  have:=bb x (mY x F);rw[h8];lia
 have fin:∀ (out:Array Keyed),zdg (leF f) (X.toList++Y.toList) out.toList->(U.take k++(out.toList++V.drop j)).Perm (U++V)/\(U.take k++(out.toList++V.drop j)).Pairwise (leF f)/\(out.toList.zipIdx.foldl (λa (p:Keyed×Nat)=>a.setIfInBounds (P.length+k+p.2) p.1) (arrOf st)).toList=P++((U.take k++(out.toList++V.drop j))++S):=λout tl=>by
  rw[ex,ey] at tl;have a3:out.toList.length=U.length - k+j:=by rw[tl.1.length_eq];simp;lia
  show#[?_,?_,?_];have h9:(U.take k++(out.toList++V.drop j)).Perm (U.take k++((U.drop k++V.take j)++V.drop j)):=(tl.1.append_right _).append_left _;have bd:U.take k++((U.drop k++V.take j)++V.drop j)=U++V:=by rw[aE (U.drop k),aX,<- aE,aX]
  rw[bd] at h9;show h9;have Z:=bi.mp (by rw[aX];show su:(U.take k++U.drop k).Pairwise (leF f));have pv:=bi.mp (by rw[aX];show sv:(V.take j++V.drop j).Pairwise (leF f));show bi.mpr #[Z.1,bi.mpr #[tl.2,pv.2.1,λa h1 b h2=>?_],λa h1 b h2=>?_];rcases ax.mp (tl.1.mem_iff.mp h1) with h1 | h1;have q1:=hU a (cF h1);have q2:=a0 b h2;change f a<=f b;lia;show pv.2.2 a h1 b h2;have q1:=as a h1;change f a<=f b;rcases ax.mp h2 with h2 | h2;rcases ax.mp (tl.1.mem_iff.mp h2) with h2 | h2;show Z.2.2 a h1 b h2;have q2:=hV b (bw h2);lia;have q2:=hV b (cF h2);lia;have h9:=zkT (P.length+k) out.toList 0 (arrOf st) (by lia);rw[gF] at h9;rw[h9,B];have q1:P++(U++(V++S))=(P++U.take k)++(U.drop k++(V++S)):=by rw[aE,<- aE (U.take k),aX]
  have q2:P++(U++(V++S))=(P++(U++V.take j))++(V.drop j++S):=by rw[aE,aE,<- aE (V.take j),aX]
  have q3:List.take (P.length+k) (P++(U++(V++S)))=P++U.take k:=by rw[q1];show fK (by simp;lia)
  have q4:List.drop (P.length+k+out.toList.length) (P++(U++(V++S)))=V.drop j++S:=by rw[q2,a3];show List.drop_left' (by simp;lia)
  rw[q3,q4];simp
 have a4:∀x∈X,x∈L0:=λx F=>ap x (cF (mX x F));have a5:∀x∈Y,x∈L0:=λx F=>inV x (bw (mY x F));have sX:X.toList.Pairwise (leF f):=by rw[ex];show su.sublist (eG _ _)
 have sY:Y.toList.Pairwise (leF f):=by rw[ey];show sv.sublist (cw _ _)
 by_cases e3:U.length - k<=j
 case' pos=>
  rw[if_pos e3];show wpS_bind (zkF R a4 a5 sX sY (by lia) (by lia) a1 a2 ad λout I lk tl=>?_)
 case' neg=>
  rw[if_neg e3];show wpS_bind (zkE R a4 a5 sX sY (by lia) (by lia) a1 a2 ad λout I lk tl=>?_)
 all_goals
  obtain⟨r1,r2,r3⟩:=fin out tl;have be:arrOf I=arrOf st:=lk.arr;have a7:failedOf I=none:=lk.fail.trans ag;show wpS_bind (dL (wpS_bind (wpS_get ?_)));have h9:=h (SortSt.mk' (kindOf I) (out.toList.zipIdx.foldl (λa (p:Keyed×Nat)=>a.setIfInBounds (P.length+k+p.2) p.1) (arrOf I)) (pendingOf I) (gallopOf I) (failedOf I)) _ (lk.kind.trans hk) a7 (by rw[<- r3,<- be]) r1 r2 lk.pend;show wpS_pure ?_;change Q (failedOf I).isNone _;rw[a7];show h9
end
def zbZ:Nat->List (List Keyed×Nat)->List (Nat×Nat×Nat)
 | _,[]=>[]
 | s,(l,p)::r=>(s,l.length,p)::zbZ (s+l.length) r
def zT (q:List (List Keyed×Nat)):List Keyed:=q.flatMap (·.1)
def zJ (r:List Keyed×Nat)(v:List (List Keyed×Nat)):zT (r::v)=r.1++zT v:=by simp[zT]
def yE (u v:List (List Keyed×Nat)):zT (u++v)=zT u++zT v:=by simp[zT]
theorem uo:∀ (u v:List (List Keyed×Nat)) (s:Nat),zbZ s (u++v)=zbZ s u++zbZ (s+(zT u).length) v
 | [],v,s=>by simp[zbZ,zT]
 | (l,p)::u,v,s=>by rw[List.cons_append,zbZ,zbZ,uo u v,zJ,aj,Nat.add_assoc];rfl
theorem zb0:∀ (u:List (List Keyed×Nat)) (s:Nat),(zbZ s u).length=u.length
 | [],_=>rfl
 | (l,p)::u,s=>by rw[zbZ,aJ,zb0 u,aJ]
structure SI (κ:SortKind)(f:Keyed->Int)(T:List Keyed)(rs:List (List Keyed×Nat))(zx:List Keyed)(st:SortSt):Prop where
 kind:kindOf st=κ
 fail:failedOf st=none
 arr:(arrOf st).toList=zT rs++zx
 perm:(zT rs++zx).Perm T
 pend:pendingOf st=(zbZ 0 rs).toArray
 ne:∀r∈rs,r.1≠[]
 up:∀r∈rs,r.1.Pairwise (leF f)
section
variable {M:Model}{A:Ae}{E:AA}{s:AZ}{κ:SortKind}{T:List Keyed}{f:Keyed->Int}
def SI.size {q:List (List Keyed×Nat)}{zx:List Keyed}{st:SortSt}(h:SI κ f T q zx st):(arrOf st).size=T.length:=by rw[<- aG,h.arr,h.perm.length_eq]
def SI.len {q:List (List Keyed×Nat)}{zx:List Keyed}{st:SortSt}(h:SI κ f T q zx st):(zT q).length+zx.length=T.length:=by rw[<- h.perm.length_eq,aj]
def SI.mem {q:List (List Keyed×Nat)}{zx:List Keyed}{st:SortSt}(h:SI κ f T q zx st):∀x∈arrOf st,x∈T:=λx B=>h.perm.mem_iff.mp (by rw[<- h.arr];show bO.mpr B)
def SI.psz {q:List (List Keyed×Nat)}{zx:List Keyed}{st:SortSt}(h:SI κ f T q zx st):(pendingOf st).size=q.length:=by rw[h.pend,aP,zb0]
def t_mg (R:zbK M A s κ T f){B:List (List Keyed×Nat)}{zx:List Keyed}{st:SortSt}(h:SI κ f T B zx st){i:Nat}(hi:i+1<B.length){Q:Bool->SortSt->Prop}(k:∀O I,SI κ f T O zx I->O.length+1=B.length->Q true I):wpS M A E s (mergeAt' i) Q st:=by
 obtain⟨u,U,p1,V,p2,v,rfl,hu⟩:∃u U p1 V p2 v,B=u++(U,p1)::(V,p2)::v/\i=u.length:=by show#[B.take i,B[i].1,B[i].2,B[i+1].1,B[i+1].2,B.drop (i+2),?_,by simp;lia];have e1:B.drop i=B[i]::B.drop (i+1):=cA (by lia);have e2:B.drop (i+1)=B[i+1]::B.drop (i+2):=cA hi;change B=B.take i++B[i]::B[i+1]::B.drop (i+2);rw[<- e2,<- e1,aX]
 have J:=h.arr;have Y:=h.pend;rw[yE,zJ,zJ,aE,aE,aE] at J;rw[uo,zbZ,zbZ,fU] at Y;show zkD R h.kind h.fail h.mem J Y (by rw[zb0];show hu) (h.ne (U,p1) (by simp)) (h.ne (V,p2) (by simp)) (h.up (U,p1) (by simp)) (h.up (V,p2) (by simp)) λI C c1 c2 c3 Z c5 c6=>k (u++(C,p1)::v) I #[c1,c2,?_,?_,?_,?_,?_] (by simp;lia);rw[yE,zJ,aE,aE];show c3;show List.Perm.trans ?_ h.perm;rw[yE,yE,zJ,zJ,zJ];show List.Perm.append_right _ (eQ _ ?_);rw[<- aE];show Z.append_right _;rw[c6,uo,zbZ,fU,Z.length_eq,aj,Nat.add_assoc];intro r F;rcases ax.mp F with F | F;show h.ne r (by simp[F]);rcases ay.mp F with rfl | F;intro z;have z:C=[]:=z;have q:=Z.length_eq;rw[z,aj] at q;have n1:U≠[]:=h.ne (U,p1) (by simp);have q:0=U.length+V.length:=q;show n1 (aU (by lia));show h.ne r (by simp[F]);intro r F;rcases ax.mp F with F | F;show h.up r (by simp[F]);rcases ay.mp F with rfl | F;show c5;show h.up r (by simp[F])
def zmy {a:Array Keyed}{lo n:Nat}(h:Seg f a lo (lo+n))(I:lo+n<=a.size):((a.toList.drop lo).take n).Pairwise (leF f):=by
 rw[bv];intro i j hi q B;have F:j<n:=by simp at q;lia
 have:=h (lo+i) (lo+j) (by lia) (by lia) (by lia);unfold kA at this;rw[aR (by lia),aR (by lia)] at this;simpa [List.getElem_take,List.getElem_drop] using this
def SI.next {F:List (List Keyed×Nat)}{zx:List Keyed}{st B:SortSt}(h:SI κ f T F zx st)(l:Lk (zT F).length st B){n:Nat}(hn:1<=n)(hz:(zT F).length+n<=T.length)(U:Seg f (arrOf B) (zT F).length ((zT F).length+n)) :
  ∃L I,SI κ f T F (L++I) B/\L.length=n/\L.Pairwise (leF f)/\L≠[]:=by
 have hs:=h.size;have Y:=l.size
 have Z:(arrOf B).toList.take (zT F).length=zT F:=by
  have q:(arrOf B).toList.take (zT F).length=(arrOf st).toList.take (zT F).length:=by
   show c8 λi=>?_;rw[List.getElem?_take,List.getElem?_take];split
   ·rename_i hi;have:=l.low i hi;rw[bZ,bZ];show this
   rfl
  rw[q,h.arr,fK rfl]
 have O:(arrOf B).toList=zT F++(((arrOf B).toList.drop (zT F).length).take n++(arrOf B).toList.drop ((zT F).length+n)):=by have q:=aX (zT F).length (arrOf B).toList;rw[Z] at q;rw[ziv];show q.symm
 have J:(((arrOf B).toList.drop (zT F).length).take n).length=n:=by simp;lia
 show#[_,_,#[l.kind.trans h.kind,l.fail.trans h.fail,O,?_,l.pend.trans h.pend,h.ne,h.up],J,zmy U (by lia),λz=>by rw[z] at J;simp at J;lia];rw[<- O];have q:=l.perm.toList;show q.trans ?_;rw[h.arr];show h.perm
def SI.push {B:List (List Keyed×Nat)}{L zx:List Keyed}{st:SortSt}(h:SI κ f T B (L++zx) st)(F:L≠[])(hs:L.Pairwise (leF f)){lo n:Nat}(h1:(zT B).length=lo)(h2:L.length=n) :
  SI κ f T (B++[(L,0)]) zx (setPending st ((pendingOf st).push (lo,n,0))):=by
 have e:zT (B++[(L,0)])++zx=zT B++(L++zx):=by rw[yE,zJ];simp[zT]
 show#[h.kind,h.fail,by rw[e];show h.arr,by rw[e];show h.perm,?_,λr q=>?_,λr q=>?_];change (pendingOf st).push (lo,n,0)=_;rw[h.pend,uo,zbZ,zbZ,fU,h1,h2];simp;rcases ax.mp q with q | q;show h.ne r q;rw[ao.mp q];show F;rcases ax.mp q with q | q;show h.up r q;rw[ao.mp q];show hs
def SI.pow {I:List (List Keyed×Nat)}{zx:List Keyed}{st:SortSt}(h:SI κ f T I zx st)(hn:1<=I.length)(g:Nat×Nat×Nat->Nat×Nat×Nat)(J:Nat)(Y:∀a b c,g (a,b,c)=(a,b,J)) :
  ∃O,SI κ f T O zx (setPending st ((pendingOf st).modify ((pendingOf st).size - 1) g)):=by
 obtain⟨u,U,p,rfl⟩:∃u U p,I=u++[(U,p)]:=by
  rcases List.eq_nil_or_concat I with rfl | ⟨u,r,rfl⟩;simp at hn;show#[u,r.1,r.2,by simp]
 have F:∀q,zT (u++[(U,q)])=zT u++U:=λq=>by rw[yE,zJ];simp[zT]
 show#[u++[(U,J)],h.kind,h.fail,by rw[F,<- F p];show h.arr,by rw[F,<- F p];show h.perm,?_,λr B=>?_,λr B=>?_];change (pendingOf st).modify ((pendingOf st).size - 1) g=_;rw[h.psz,h.pend,uo,uo,zbZ,zbZ,zbZ,zbZ,fU];apply eY.mp;rw[Array.toList_modify];have e:(u++[(U,p)]).length - 1=(zbZ 0 u).length:=by rw[zb0];simp
 rw[e];change List.modify (zbZ 0 u++[((zT u).length,U.length,p)]) (zbZ 0 u).length g=zbZ 0 u++[((zT u).length,U.length,J)];rw[List.modify_eq_take_cons_drop (by simp)];simp[Y];rcases ax.mp B with B | B;show h.ne r (by simp[B]);rw[ao.mp B];show h.ne (U,p) (by simp);rcases ax.mp B with B | B;show h.up r (by simp[B]);rw[ao.mp B];show h.up (U,p) (by simp)
def zh0 {st:SortSt}(R:zbK M A s κ (arrOf st).toList f)(hk:kindOf st=κ)(hfl:failedOf st=none)(hp:pendingOf st = #v[])(h2:1<=(arrOf st).size){Q:Unit->SortSt->Prop}
  (h:∀st',failedOf st'=none->(arrOf st').toList.Perm (arrOf st).toList->(arrOf st').toList.Pairwise (leF f)->Q () st'):wpS M A E s sortRuns' Q st:=by
 rw[sortRuns'_eq];show wpS_bind (wpS_get ?_);dsimp only;have S0:SI κ f (arrOf st).toList [] (arrOf st).toList st:=#[hk,hfl,BB,eM _,hp,λ_ hr=>by simp at hr,λ_ hr=>by simp at hr];have hT:(arrOf st).toList.length=(arrOf st).size:=aG;generalize (arrOf st).toList=T at R h S0 hT;generalize (arrOf st).size=N at h2 hT ⊢;generalize minRun' N N 0=mr;clear hk hfl hp;show wpS_bind (wpS_mono (bH (I:=λx c st'=>∃rs zx,c=(none,(zT rs).length)/\SI κ f T rs zx st'/\x<=(zT rs).length) (Q:=λc st'=>∃rs lo,c=(none,lo)/\SI κ f T rs [] st') ?_ ?_ #[[],T,BB,S0,aI _]) ?_)
 ·rintro x c st1 _ hx ⟨rs,zx,rfl,S1,hx2⟩;have hz1:=S1.size;have hl1:=S1.len;dsimp only;by_cases e1:(zT rs).length ≥ N;rw[if_pos e1];have:zx=[]:=aU (by lia);subst this;show wpS_pure #[rs,_,BB,S1];rw[if_neg e1];show wpS_bind (zhY R S1.kind S1.mem (by lia) (by lia) λm st2 l2 m1 m2 sg=>?_);dsimp only;have hz2:=l2.size;by_cases e2:m<mr
  case' pos=>
   rw[if_pos e2];show wpS_bind (wpS_lift (cZ #[BB,?_]));show wpS_bind (zfw R (n:=min (N - (zT rs).length) mr) (l2.kind.trans S1.kind) (l2.mem S1.mem) (by lia) (by lia) (by lia) sg λst3 l3 sg3=>?_);rw[if_neg (by simp)];obtain⟨L,rest',S3,hL,sL,nL⟩:=S1.next (l2.trans l3) (n:=min (N - (zT rs).length) mr) (by lia) (by lia) sg3;generalize hn:min (N - (zT rs).length) mr=n at hL ⊢;have hn1:1<=n:=by lia
  case' neg=>
   rw[if_neg e2];obtain⟨L,rest',S3,hL,sL,nL⟩:=S1.next l2 (n:=m) (by lia) (by lia) sg;generalize hn:m=n at hL ⊢;have hn1:1<=n:=by lia
   generalize st2=st3 at S3 ⊢
  all_goals
   show wpS_bind (wpS_get ?_);rcases List.eq_nil_or_concat rs with hrs | ⟨u,r,hrs⟩;have hb:(pendingOf st3).back?=none:=by rw[S3.pend,hrs];rfl
   rw[hb];dsimp only;have S4:=S3.push nL sL BB hL;show wpS_bind (dL (wpS_pure #[_,rest',by rw[yE,aj,zJ,aj,hL];rfl,S4,by rw[yE,aj,zJ,aj,hL];lia]))
   obtain⟨⟨b1,b2,b3⟩,hb⟩:∃b,(pendingOf st3).back?=some b:=by
    rw[S3.pend,hrs,List.concat_eq_append,uo];cases r;show#[_,by simp[zbZ];rfl]
   rw[hb];dsimp only;generalize power' N (2 * b1+b2) (2 * b1+b2+b2+n) N=pw;show wpS_bind (wpS_mono (bH (I:=λx c st'=>∃rs',c=(none,())/\SI κ f T rs' (L++rest') st'/\1<=rs'.length) (Q:=λc st'=>∃rs',c=(none,())/\SI κ f T rs' (L++rest') st'/\1<=rs'.length) ?_ (λc st' q=>q) #[rs,BB,S3,by rw[hrs];simp]) ?_);rintro x2 c st4 _ _ ⟨rs',rfl,S4,n4⟩;show wpS_bind (wpS_get ?_);by_cases e3:(pendingOf st4).size > 1;rw[if_pos e3];obtain⟨⟨c1,c2,c3⟩,hc⟩:∃b,(pendingOf st4)[(pendingOf st4).size - 2]?=some b:=#[_,aR (by lia)];rw[hc];dsimp only;by_cases e4:c3<=pw;rw[if_pos e4];show wpS_pure #[rs',BB,S4,n4];rw[if_neg e4];rw[S4.psz] at e3;show wpS_bind (t_mg R S4 (by rw[S4.psz];lia) λrs2 st5 S5 h5=>?_);show wpS_pure #[rs2,BB,S5,by lia];rw[if_neg e3];show wpS_pure #[rs',BB,S4,n4];rintro c st4 ⟨rs',rfl,S4,n4⟩;dsimp only;show wpS_bind (dL ?_);obtain⟨rs2,S5⟩:=S4.pow n4 (λx=>match x with | (st,len,_)=>(st,len,pw)) pw (λa b c=>rfl);have hl3:=S3.len;have hl5:=S5.len;have S6:=S5.push nL sL (lo:=(zT rs).length) (by lia) hL;show wpS_bind (dL (wpS_pure #[_,rest',by rw[yE,aj,zJ,aj,hL,show (zT rs2).length=(zT rs).length by lia];rfl,S6,by rw[yE,aj,zJ,aj,hL];lia]))
 rintro c st1 ⟨rs,zx,rfl,S1,hx2⟩;have hl1:=S1.len;have:zx=[]:=aU (by lia);subst this;show#[rs,_,BB,S1]
 ·rintro c st1 ⟨rs,lo,rfl,S1⟩;dsimp only;have hl1:=S1.len
  have hlen:rs.length<=(zT rs).length:=by
   have:∀ (rs:List (List Keyed×Nat)),(∀r∈rs,r.1≠[])->rs.length<=(zT rs).length:=λrs=>by
    induction rs with
    | nil=>intro _;show aI _
    | cons r v ih=>
     intro hn;have h1:=ih λr hr=>hn r (ar _ hr);have h2:=List.length_pos_iff.mpr (hn r am);rw[zJ,aj,aJ];lia
   show this rs S1.ne
  have hne:1<=rs.length:=by
   cases rs with
   | nil=>simp[zT] at hl1;lia
   | cons r v=>simp
  rw[List.length_nil,gF] at hl1;show wpS_bind (wpS_mono (bH (I:=λx c st'=>∃rs,c=(none,())/\SI κ f T rs [] st'/\1<=rs.length/\(rs.length<=1\/rs.length+x<=N)) (Q:=λc st'=>∃rs,c=(none,())/\SI κ f T rs [] st'/\rs.length=1) ?_ ?_ #[rs,BB,S1,hne,.inr (by lia)]) ?_)
  ·rintro x c st2 _ hx ⟨rs,rfl,S2,n1,n2⟩;show wpS_bind (wpS_get ?_);by_cases e1:(pendingOf st2).size<=1;rw[if_pos e1];show wpS_pure #[rs,BB,S2,by rw[S2.psz] at e1;lia];rw[if_neg e1];rw[S2.psz] at e1;show wpS_bind (t_mg R S2 ?_ λrs' st3 S3 h3=>?_)
   ·rw[S2.psz];have le1:∀ (b:Bool),(if b=true then rs.length - 2 - 1 else rs.length - 2)+1<rs.length:=λb=>by cases b <;> simp <;> lia
    show le1 _
   show wpS_pure #[rs',BB,S3,by lia,by lia]
  rintro c st2 ⟨rs,rfl,S2,n1,n2⟩;show#[rs,BB,S2,by lia];rintro c st2 ⟨rs,rfl,S2,n1⟩;obtain⟨r,rfl⟩:∃r,rs=[r]:=List.length_eq_one_iff.mp n1;have ha:=S2.arr;have hq:=S2.perm;rw[cN] at ha hq;rw[<- ha] at hq;rw[zJ] at ha;show wpS_pure (h st2 S2.fail hq (by rw[ha];simpa [zT] using S2.up r (by simp)))
end
open PySem.Calls PySem.W
def zel {α O:Type}(g:α->O):∀ {out m:List O},out.Perm m->∀l:List α,m=l.map g->∃l':List α,l'.Perm l/\out=l'.map g:=by
 intro out m h
 induction h with
 | nil=>intro l e;show#[l,.refl _,e]
 | cons x h U=>
  intro l e
  match l,e with
  | a::l,e=>
   obtain⟨B,F⟩:=List.cons.inj e;obtain⟨l',p,q⟩:=U l F;show#[a::l',.cons a p,by rw[aD,<- q,B]]
 | swap x y l0=>
  intro l e
  match l,e with
  | a::b::l,e=>
   obtain⟨B,F⟩:=List.cons.inj e;obtain⟨Y,Z⟩:=List.cons.inj F;show#[b::a::l,.swap _ _ _,by rw[aD,aD,B,Y,Z]]
 | trans h1 h2 I J=>
  intro l e;obtain⟨l2,p2,q2⟩:=J l e;obtain⟨l1,p1,q1⟩:=I l2 q2;show#[l1,p1.trans p2,q1]
def Ask (prog:Aa)(w:Ab)(A:Ae)(κ:SortKind)(vs:AN)(BG:Array Nat->Prop)(s:AZ):Prop:=
 ∃f:Nat->Int,zif vs.length f/\(∀i j,i<vs.length->j<vs.length->vs.getD i .none=vs.getD j .none->i=j)/\
  (∀i j,i<vs.length->j<vs.length->∀ (Q:Bool->AZ->Prop) (E:AA),Q (decide (f i<f j)) s->Ag prog w A (keyLt' κ (vs.getD i .none) (vs.getD j .none)) Q E s)/\∀p:Array Nat,Up vs.length f p vs.length->BG p
section
variable {prog:Aa}{w:Ab}{A:Ae}{E:AA}{s:AZ}{h₀:Heap}{L a:Addr}{m:AI}{news:AB}{vs:AN}{κ:SortKind}
def zqz(h2:2<=vs.length)(h:Ask prog w A κ vs BG s) :
  Ag prog w A ((sortRuns').run (SortSt.mk' κ (vs.toArray.zip vs.toArray) #v[] 7 none)) (λr s'=>s'=s/\∃p:Array Nat,p.size=vs.length/\(arrOf r.2).map (·.2)=List.toArray (p.toList.map λi=>vs.getD i .none)/\failedOf r.2=none/\BG p) E s:=by
 obtain⟨f,hu,J,hc,hG⟩:=h
 have O:(vs.toArray.zip vs.toArray).toList=(List.range vs.length).map λi=>(vs.getD i .none,vs.getD i .none):=by
  show c8 λi=>?_;by_cases hi:i<vs.length;simp[hi];simp[hi,Nat.le_of_not_lt hi]
 let F:Keyed->Int:=λx=>f (Classical.epsilon λi=>i<vs.length/\vs.getD i .none=x.1)
 have U:∀i,i<vs.length->F (vs.getD i .none,vs.getD i .none)=f i:=λi hi=>by have q:(Classical.epsilon λj=>j<vs.length/\vs.getD j .none=vs.getD i .none)<vs.length/\vs.getD (Classical.epsilon λj=>j<vs.length/\vs.getD j .none=vs.getD i .none) .none=vs.getD i .none:=Classical.epsilon_spec (p:=λj=>j<vs.length/\vs.getD j .none=vs.getD i .none) #[i,hi,BB];change f (Classical.epsilon λj=>j<vs.length/\vs.getD j .none=vs.getD i .none)=f i;rw[J _ _ q.1 hi q.2]
 show zh0 (E:=E) (st:=SortSt.mk' κ (vs.toArray.zip vs.toArray) #v[] 7 none) (f:=F) (κ:=κ) (Q:=λ_ B=>∃p:Array Nat,p.size=vs.length/\(arrOf B).map (·.2)=List.toArray (p.toList.map λi=>vs.getD i .none)/\failedOf B=none/\BG p) ?_ BB BB BB ?_ ?_;intro x y Y Z Q E hq;have Y:x∈(vs.toArray.zip vs.toArray).toList:=Y;have Z:y∈(vs.toArray.zip vs.toArray).toList:=Z;rw[O] at Y Z;obtain⟨i,hi,rfl⟩:=aF.mp Y;obtain⟨j,hj,rfl⟩:=aF.mp Z;have hi:=aK.mp hi;have hj:=aK.mp hj;rw[U i hi,U j hj] at hq;show hc i j hi hj Q E hq;change 1<=(vs.toArray.zip vs.toArray).size;simp;lia;intro B h1 h3 h4;have h3:(arrOf B).toList.Perm (vs.toArray.zip vs.toArray).toList:=h3;obtain⟨p,hp,he⟩:=zel _ h3 _ O;have I:∀i∈p,i<vs.length:=λi hi=>aK.mp (hp.mem_iff.mp hi);have ac:p.length=vs.length:=by rw[hp.length_eq,aA]
 show#[p.toArray,by simpa using ac,?_,h1,hG _ #[?_,ai _,λk hk=>?_]];apply eY.mp;rw[gC,he,aO];rfl;change p.toArray.Perm (List.range vs.length).toArray;show List.Perm.toArray hp;have ad:p.Nodup:=hp.nodup_iff.mpr dS;rw[he] at h4;have h5:=bv.mp h4 k (k+1) (by simp;lia) (by simp;lia) (by lia);rw[cD,cD] at h5;have g1:p.toArray.getD k 0=p[k]:=by simp[Array.getD,show k<p.length by lia]
 have g2:p.toArray.getD (k+1) 0=p[k+1]:=by simp[Array.getD,show k+1<p.length by lia]
 have h5:F (vs.getD p[k] .none,vs.getD p[k] .none)<=F (vs.getD p[k+1] .none,vs.getD p[k+1] .none):=h5;rw[U _ (I _ (bz _)),U _ (I _ (bz _))] at h5;unfold key;rw[g1,g2];have h6:f p[k]≠f p[k+1]:=λz=>by have:=hu _ _ (I _ (bz _)) (I _ (bz _)) z;have:=(du ad).mp this;lia
 lia
def za5 {n:Nat}{P:PySem.Fin->AZ->Prop}(F:Fr h₀ L s.heap m)(N:News h₀ L s.heap news)(ho:s.heap.get? a=some (seqObj "list" vs.toArray n))(haL:a≠L)(ha0:h₀.get? a=none)(hna:∀p∈news,p.1≠a)
  (h2:2<=vs.length) (hz:vs.length<=sizeLine)
  (h:∀e1 h',Fr h₀ L h' m->News h₀ L h' ((a,seqObj "list" #v[] e1)::news)->
   Ag prog w A (keyKind' vs.toArray) (λκ s'=>Ask prog w A κ vs (λp=>KasFin h₀ L m a e1 (p.toList.map λi=>vs.getD i Value.none) (λs3=>P (.done (.ret .none)) s3) s') s') (λ_ _=>False) { s with heap:=h' }) :
  Ag prog w A (Builtin.«list.sort» #[[.ref a],[]]) P E s:=by
 have s1:=bq s.heap a (Obj.mapSeq λ_=>(#v[]:AK));obtain⟨e1,ho1⟩:∃e1,(s.heap.update a (Obj.mapSeq λ_=>(#v[]:AK))).get? a=some (seqObj "list" #v[] e1):=#[_,get?_update_seq ho λ_=>#v[]];have keep2:∀b x,(s.heap.update a (Obj.mapSeq λ_=>(#v[]:AK))).get? b=some x->(((s.heap.update a (Obj.mapSeq λ_=>(#v[]:AK))).push (seqObj "tuple" vs.toArray 0)).push (seqObj "list" #v[] 0)).get? b=some x:=λb x e=>ae _ (ae _ e)
 have ask:=h e1 _ (((kas_fr F s1 haL ha0).push (seqObj "tuple" vs.toArray 0)).push (seqObj "list" #v[] 0)) (λp hp=>by
  rcases ay.mp hp with rfl | hp;show#[keep2 _ _ ho1,haL,ha0];show (kas_news N s1 hna).grown keep2 p hp)
 rw[list_sort_plain];show aa (listItems_at ho BB (aa (gt ho BB ?_ (by rw[aP];show hz) (aI _))));show aa (seqEpoch_at ho1 BB (aa (wpAny_newTuple ?_ (by change vs.length<=_;show hz))));show aa (gu (bS ?_) (aI _));change Ag prog w A _ P E { s with heap:=((s.heap.update a (Obj.mapSeq λ_=>(#v[]:AK))).push (seqObj "tuple" vs.toArray 0)).push (seqObj "list" #v[] 0) };dsimp only;have hn2:¬ vs.toArray.size<2:=by rw[aP];lia
 rw[if_neg hn2,if_neg hn2];show aa (bC ask (λκ s0 hk=>?_) λ_ _ x=>x.elim);show aa (bC (zqz h2 hk) ?_ λ_ _ e=>e);rintro⟨⟨⟩,st'⟩ s' ⟨rfl,p,hp,hout,hf,news',g,F',N',U,k⟩;dsimp only;obtain⟨pre,post,e0,hg,x1,x2⟩:=U.split;rw[e0] at N';have na:=N' (a,seqObj "list" #v[] e1) (aT _ (.head _));have hsz:(List.toArray (p.toList.map λi=>vs.getD i Value.none)).size=vs.length:=by rw[aP,ab,aG,hp]
 rw[hout];have s2:=bq s'.heap a (Obj.mapSeq λ_=>List.toArray (p.toList.map λi=>vs.getD i Value.none));obtain⟨c2,hc2⟩:∃c2,(s'.heap.update a (Obj.mapSeq λ_=>List.toArray (p.toList.map λi=>vs.getD i Value.none))).get? a=some (seqObj "list" (List.toArray (p.toList.map λi=>vs.getD i Value.none)) c2):=#[_,get?_update_seq na.1 λ_=>List.toArray (p.toList.map λi=>vs.getD i Value.none)];show aa (seqEpoch_at na.1 BB ?_);show aa (gt na.1 BB ?_ (aI _) (aq (Nat.le_of_eq hsz) (Nat.le_succ_of_le hz)));rw[hf];simp only[ge,aV,if_false];show af (k _ c2 (kas_fr F' s2 na.2.1 na.2.2) ?_);rw[hg];show news_set N' x1 x2 s2 hc2
def zh2(F:Fr h₀ L s.heap m)(N:News h₀ L s.heap news)(hl:s.heap.IsList l vs.toArray)(h2:2<=vs.length)(J:vs.length<=sizeLine)(h:∀BH Y h',Fr h₀ L h' m->News h₀ L h' ((BH,seqObj "list" #v[] Y)::news)->(∀q∈news,q.1<BH)->
   wpAny (model prog w) A.in1.in1 (keyKind' vs.toArray) (λκ s'=>Ask prog w A.in1.in1 κ vs (λp=>KasFin h₀ L m BH Y (p.toList.map λi=>vs.getD i Value.none) (λs3=>Q (.ref BH) s3) s') s') (λ_ _=>False) { s with heap:=h' }) :
  Ag prog w A (call (.builtin "sorted") [.ref l]) Q E s:=by
 show Calls.call_function_entry kind_sorted plain_sorted entry_sorted (args_sorted1 _) ?_;unfold Builtin.«sorted»;show aa (m:=checkCount "sorted" 1 1 _) (af ?_);show aa (collect_list hl ?_ (by first | show J | (rw[aP];show J)));show aa (gu ?_ (by first | show J | (rw[aP];show J)));generalize O:(s.heap.push (seqObj "list" #v[] 0)).update s.heap.objs.size (Obj.mapSeq (·++vs.toArray))=hm;have hsz:hm.objs.size=s.heap.objs.size+1:=by rw[<- O,Heap.size_update,size_push']
 have U:(hm.push (seqObj "list" vs.toArray 0)).get? (s.heap.objs.size+1)=some (seqObj "list" vs.toArray 0):=by rw[<- hsz];show av _ BB
 have B:∀b o,s.heap.get? b=some o->(hm.push (seqObj "list" vs.toArray 0)).get? b=some o:=λb o q=>by have I:b<s.heap.objs.size:=aw q;rw[eI _ _ _ (by rw[hsz];show aN (c9 I)),<- O,dU _ _ _ _ (aN I),eI _ _ _ (aN I)];show q
 have hL:L<s.heap.objs.size:=F.ns.lt;change wpAny _ _ _ _ _ { s with heap:=hm.push (seqObj "list" vs.toArray 0) };rw[hsz];show aa (bS (aW fX #[_,U,BB] fL ?body (fY _)))
 case body=>
  show za5 (s:={ s with heap:=hm.push (seqObj "list" vs.toArray 0) })
   (F.kept B) (N.grown B) U (dy (c9 hL)) (fj (aq F.above (Nat.le_succ_of_le (cH hL))))
   (λp Z=>aN (c9 (aw (N p Z).1))) h2 J λY h' F' N'=>?_
  show bC (h _ Y h' F' N' λq hq=>c9 (aw (N q hq).1)) (λκ s' hk=>?_) λ_ _ x=>x;obtain⟨f,k1,k2,k3,k4⟩:=hk;show#[f,k1,k2,k3,λp Z=>(k4 p Z).mono λs3 hq=>#[_,BB,af #[_,BB,hq]]]
end
theorem zd2 {prog:Aa}{w:Ab}{A:Ae}{s:AZ}{b:Bool}{Q:Bool->AZ->Prop}:∀ {ns B:AG} {xs ys:AN} (i:Nat),zR (ns.map V.int) xs->zR (B.map V.int) ys->ns.length=B.length->Q (HT.lexLt ns B) s->W.KatLex prog w A b false Q (xs.zip ys) i s
 | [],[],_,_,i,I,J,_,q=>by cases I;cases J;show W.kat_nil q
 | [],_::_,_,_,_,_,_,h,_=>by simp at h
 | _::_,[],_,_,_,_,_,h,_=>by simp at h
 | a::ns,c::B,_,_,i,I,J,Y,q=>by
  cases I with
  | cons Z O=>
   cases J with
   | cons r2 U=>
    obtain⟨t,rfl⟩:=Z;obtain⟨u,rfl⟩:=r2;rw[List.zip_cons_cons];have F:Q (if a=c then HT.lexLt ns B else decide (a<c)) s:=q;show W.kat_cons (wpAny_eqBool_int ?_);by_cases e:a=c;rw[show (a==c)=true from by lia];rw[if_pos e] at F;show W.kat_yes (zd2 (i+1) O U (by simpa using Y) F);rw[show (a==c)=false from beq_false_of_ne e];rw[if_neg e] at F;show W.kat_no ?_
    cases (b&&i==0) with
    | true=>show oneLt_int F
    | false=>show W.kat_one _ _ (P.lt_int F)
theorem xk:∀s:AG,HT.lexLt s s=false
 | []=>rfl
 | a::s=>by change (if a=a then HT.lexLt s s else _)=false;rw[if_pos rfl];show xk s
theorem zaN:∀ {a b c:AG},a.length=b.length->b.length=c.length->HT.lexLt a b=true->HT.lexLt b c=true->HT.lexLt a c=true
 | [],[],[],_,_,h,_=>h
 | x::a,y::b,z::c,h1,h2,J,O=>by
  have q:(if x=y then HT.lexLt a b else decide (x<y))=true:=J;have B:(if y=z then HT.lexLt b c else decide (y<z))=true:=O;change (if x=z then HT.lexLt a c else decide (x<z))=true;by_cases F:x=y;by_cases I:y=z;rw[if_pos F] at q;rw[if_pos I] at B;rw[if_pos (F.trans I)];show zaN (by simpa using h1) (by simpa using h2) q B;grind;grind
 | [],_::_,_,h,_,_,_=>by simp at h
 | _::_,[],_,h,_,_,_=>by simp at h
 | [],[],_::_,_,h,_,_=>by simp at h
 | _::_,_::_,[],_,h,_,_=>by simp at h
theorem uO:∀ {a b:AG},a.length=b.length->a=b\/HT.lexLt a b=true\/HT.lexLt b a=true
 | [],[],_=>.inl BB
 | [],_::_,h=>by simp at h
 | _::_,[],h=>by simp at h
 | x::a,y::b,h=>by
  change _\/(if x=y then HT.lexLt a b else decide (x<y))=true\/(if y=x then HT.lexLt b a else decide (y<x))=true;by_cases e:x=y
  ·subst e;rw[if_pos rfl,if_pos rfl];rcases uO (a:=a) (b:=b) (by simpa using h) with h1 | h1 | h1
   all_goals right
  ·rw[if_neg e,if_neg (Ne.symm e)];rcases Int.lt_or_gt_of_ne e with h1 | h1
   all_goals right
theorem zgH {α:Type}{p q:α->Bool}:∀ {l:List α},(∀x∈l,p x=true->q x=true)->(∃x∈l,p x=false/\q x=true)->l.countP p<l.countP q
 | [],_,h=>by right
 | y::l,h,k=>by
  have J:l.countP p<=l.countP q:=List.countP_mono_left λx B F=>h x (ar _ B) F;rw[List.countP_cons,List.countP_cons];obtain⟨x,B,F,I⟩:=k;rcases ay.mp B with rfl | B;rw[F,I];simp;lia;have U:=zgH (l:=l) (λz O=>h z (ar _ O)) #[x,B,F,I];grind
def zcq (BF:AF)(i:Nat):Int:=(BF.countP λc=>HT.lexLt c (BF.getD i [])  : Nat)
def yW{BF:AF}(q:∀st∈BF,st.length=m)(hi:i<BF.length)(I:j<BF.length):decide (zcq BF i<zcq BF j)=HT.lexLt (BF.getD i []) (BF.getD j []):=by
 have J:BF.getD i []∈BF:=by rw[au,ak hi];show bz hi
 have O:BF.getD j []∈BF:=by rw[au,ak I];show bz I
 have U:∀ {a b:AG},a∈BF->b∈BF->HT.lexLt a b=true->(BF.countP λc=>HT.lexLt c a)<(BF.countP λc=>HT.lexLt c b):=λ{a b} F Y B=>
  zgH (λx Z hp=>zaN ((q x Z).trans (q a F).symm) ((q a F).trans (q b Y).symm) hp B) #[a,F,xk a,B]
 unfold zcq;generalize BF.getD i []=a at J;generalize BF.getD j []=b at O;rcases uO (a:=a) (b:=b) ((q a J).trans (q b O).symm) with h | h | h;subst h;rw[xk];right
 all_goals grind
def zbB (h:Heap)(L:Addr):AB:=(List.range h.objs.size).filterMap λb=>if b=L then none else (h.get? b).map λo=>(b,o)
def zP:(b,o)∈zbB h L↔b≠L/\h.get? b=some o:=by
 unfold zbB;rw[dw];constructor;rintro⟨c,F,e⟩;by_cases q:c=L;right;rw[if_neg q] at e;obtain⟨o',B,I⟩:=aH.mp e;grind;rintro⟨q,B⟩;show#[b,aK.mpr (aw B),by right]
def zrN {h:Heap}{L:Addr}{m q:AI}(a:h.Ns L m)(b:h.Ns L q):m=q:=by
 obtain⟨o,es,U,Y,Z,hk,hf⟩:=a;obtain⟨o',es',B,F,I,J,O⟩:=b;grind
section
variable {X:Cx}
def zaR(x:yk P w H h a o):∃u,h.get? a=some u:=by
 cases o with
 | lst xs=>obtain⟨_,_,_,_,e⟩:=x;show#[_,e]
 | tup xs=>obtain⟨_,_,_,p⟩:=x;obtain⟨o,e,_⟩:=p;show#[o,e]
 | dK BD=>obtain⟨_,_,_,_,o,_,_,e,_⟩:=x;show#[_,e]
 | dT BD=>obtain⟨_,_,_,_,o,_,_,e,_⟩:=x;show#[_,e]
 | set S n=>obtain⟨o,_,_,_,e,_⟩:=x;show#[_,e]
 | ins C dx fs=>obtain⟨_,_,_,e,_⟩:=x;show#[_,e]
 | own y=>show x
 | xd fs=>obtain⟨_,⟨_,_,_,e,_⟩,_⟩:=x;show#[_,e]
 | met f y=>show#[_,x]
 | rng lo hi=>obtain⟨_,_,_,e⟩:=x;show#[_,e]
 | frz o u=>obtain⟨e,_⟩:=x;show#[_,e]
 | tbl ps=>show#[_,x]
 | ext q=>obtain⟨_,e,_⟩:=x;show e
def zdW{BC:AB}{G:St}{H:Hp}{s:AZ}(I:Inv X BC G H s)(hm:s.heap.Ns X.env.locals m){h':Heap}{BH:Addr}{ys:AT}{B:AN}(Z:∀b o,b≠X.env.locals->s.heap.get? b=some o->h'.get? b=some o)(O:h'.Ns X.env.locals m)(ac:s.heap.get? BH=none)(U:H BH=none)(ho:h'.get? BH=some { cls:=.type "list",data:=.seq B.toArray c })(hv:zR ys B)(hz:ys.length<=sizeLine)(tk:Nat):Inv X BC G (upd H BH (.lst ys)) { s with heap:=h',toks:=tk }:=by
 have nD:∀b o,s.heap.get? b=some o->b≠BH:=λb o e z=>by rw[z,ac] at e;cases e
 have nL:∀b u,H b=some u->b≠X.env.locals:=λb u e=>zc e I.free;show Inv.step (ch:=[]) (g':=s.gens) (d':=s.drawn) (t':=tk) I (λb J=>by simp at J) (λb o h1 _ _ F _=>Z b o h1 F) (λb o h1 _ _ F _=>#[o.slots,Z b o h1 F]) (λb o _ F h5=>by rw[zf (nD b o F)];show h5) (λb o _ F=>?_) (λb ys q=>by rw[zf (zc q U)];show q) (λb o u q=>by rw[zf (zc q U)];show q) (λb ps q=>#[#v[],by rw[zf (zc q U),em];show q]) (λm' ad=>by rw[<- zrN hm ad];show O) (λb u J=>?_) I.bare;by_cases hL:b=X.env.locals;obtain⟨o',_,_,h1,_⟩:=O;right;show#[o,Z b o hL F];by_cases Y:b=BH;subst Y;rw[zi] at J;cases J;show#[hz,B,c,hv,ho];rw[zf Y] at J;show (I.hok b u J).stay (λc v ag q=>Z c v ?_ q) (λc q=>by rw[zf (zc q U)];show q) (λc ys q=>by rw[zf (zc q U)];show q);grind
theorem zcK {BC:AB}{G:St}{H:Hp}{s:AZ}(I:Inv X BC G H s):∀ {BF:AF} {vs:AT} {q:AN},IsL H (BF.map stD) vs->zR vs q->∀ {i:Nat},i<BF.length->∃ (a:Addr) (items:AN),vs.getD i .non = .ref a/\q.getD i .none = .ref a/\IsTup s.heap a items.toArray/\zR ((BF.getD i []).map V.int) items/\a≠X.env.locals
 | [],_,_,_,_,i,hi=>by simp at hi
 | st::BF,_,_,h,J,i,hi=>by
  obtain⟨x,r,rfl,⟨a,xs,rfl,F,B⟩,O⟩:=h;obtain rfl:=B.of_ints
  cases J with
  | cons U Y=>
   cases U
   cases i with
   | zero=>
    obtain⟨items,Z,pt,_⟩:=I.tuple (.of F);show#[a,items,BB,BB,pt,Z,zc F I.free]
   | succ i=>
    obtain⟨a',items,e1,e2,e3,e4,e5⟩:=zcK I (BF:=BF) O Y (i:=i) (by simpa using hi);show#[a',items,by simpa using e1,by simpa using e2,e3,by simpa using e4,e5]
theorem zkG {BC:AB}{G:St}{H:Hp}{s:AZ}(I:Inv X BC G H s){h':Heap}(U:∀b o,b≠X.env.locals->s.heap.get? b=some o->h'.get? b=some o):∀ {BF:AF} {vs:AT} {q:AN},IsL H (BF.map stD) vs->zR vs q->(∀st∈BF,1<=st.length)->∃fs,W.KatTups h' q fs/\fs.length=BF.length/\∀f∈fs,∃a t,f = .int a t
 | [],_,_,h,B,_=>by cases h;cases B;show#[[],trivial,BB,λ_ h=>by simp at h]
 | st::BF,_,_,h,B,h1=>by
  obtain⟨x,r,rfl,⟨a,xs,rfl,Y,F⟩,hr⟩:=h;obtain rfl:=F.of_ints
  cases B with
  | cons r1 rr=>
   cases r1;obtain⟨items,J,pt,_⟩:=I.tuple (.of Y);obtain⟨o,ho,hc,n,hd⟩:=pt;obtain⟨fs,f1,f2,f3⟩:=zkG I U (BF:=BF) hr rr λz hz=>h1 z (ar _ hz);have O:=h1 st am
   match st,J,O with
   | z::zs,J,_=>
    cases J with
    | cons q1 qq=>
     obtain⟨t,rfl⟩:=q1;show#[_::fs,#[#[a,o,_,n,BB,U a o (zc Y I.free) ho,hc,hd,BB],f1],by right,λf Z=>?_];rcases ay.mp Z with rfl | Z
     all_goals right
def zsG:AT->Hp->VK->Prop:=λxs H Q=>∃ (l:Addr) (vs:AT) (BF:AF) (m:Nat),xs=[.ref l]/\H l=some (.lst vs)/\IsL H (BF.map stD) vs/\2<=BF.length/\1<=m/\(∀st∈BF,st.length=m)/\BF.Nodup/\
 ∀ (ys:AT) (q:AF),IsL H (q.map stD) ys->q.Perm BF->(q.Pairwise λa b=>HT.lexLt a b=true)->New H (.lst ys) Q
theorem zgS {H:Hp}{BF:AF}{vs:AT}(h:IsL H (BF.map stD) vs):∀ {p:AR},(∀i∈p,i<BF.length)->IsL H ((p.map λi=>BF.getD i []).map stD) (p.map λi=>vs.getD i .non)
 | [],_=>rfl
 | i::p,q=>by
  have hi:=q i am;obtain⟨x,F,I⟩:=h.getD (i:=i) (d:=stD (BF.getD i [])) (by simp[hi]);show#[vs.getD i .non,_,BB,?_,zgS h λj B=>q j (ar _ B)];right
theorem zfB(h:zR vs q):∀ (p:AR),(∀i∈p,i<vs.length)->zR (p.map λi=>vs.getD i .non) (p.map λi=>q.getD i .none)
 | [],_=>.nil
 | i::p,B=>by
  have hi:=B i am;obtain⟨u,I,J⟩:=h.get (i:=i) (x:=vs[i]) (ak hi);show .cons ?_ (zfB h p λj F=>B j (ar _ F));right
def zbm {α:Type}(d:α)(l:List α):(List.range l.length).map (λi=>l.getD i d)=l:=by show eZ (by simp) λi h1 h2=>?_;simp[h2]
theorem zbq:∀ {a b:AG} {q:AN},zR (a.map V.int) q->zR (b.map V.int) q->a=b
 | [],[],_,_,_=>rfl
 | [],_::_,_,h,k=>by cases h;cases k
 | _::_,[],_,h,k=>by cases k;cases h
 | x::a,y::b,_,h,k=>by
  cases h with
  | cons B F=>
   cases k with
   | cons I J=>
    obtain⟨t,rfl⟩:=B;obtain⟨t',e⟩:=I;cases e;rw[zbq F J]
def zlf:CallQ X (.builtin "sorted") zsG:=#[by
 intro BC s G H xs us Q I r h;obtain⟨l,vs,BF,m,rfl,hl,B,h2,a7,hm,a0,q⟩:=h;obtain⟨u,rfl,ru⟩:=za7 r;cases ru;obtain⟨ba,rv,pl,hz⟩:=I.list (.of hl);have bb:=B.length;rw[ab] at bb;have bx:=rv.length;obtain⟨m0,a3,_⟩:=id I.loc;show zh2 (h₀:=(#[#v[],{}]:Heap)) (L:=X.env.locals) (m:=m0) (news:=zbB s.heap X.env.locals) #[a3,λb o e=>?_,aI _] (λp hp=>?_) pl.isList (by lia) (by lia) λBH e1 h' F N ac=>?_;have:=aw e;simp at this;obtain⟨b,o⟩:=p;have:=zP.mp hp;show#[this.2,this.1,?_]
 cases e:(#[#v[],{}]:Heap).get? b with
 | none=>rfl
 | some o'=>
  have:=aw e;simp at this
 ·have kp:∀b o,b≠X.env.locals->s.heap.get? b=some o->h'.get? b=some o:=λb o hb e=>(N (b,o) (ar _ (zP.mpr #[hb,e]))).1;obtain⟨fs,k1,k2,k3⟩:=zkG I kp B rv λst bc=>by rw[hm st bc];show a7
  show W.kat_kind (T:=.type "int") (s:={ s with heap:=h' }) k1 (by lia) (λf hf=>?_) (by ext) ?_;obtain⟨a,t,rfl⟩:=k3 f hf;intro A' Q' E' s' _ hq;show dY (fD s' a t) hq
  ·have hu:zif BF.length (zcq BF):=λi j hi J e=>by
    have e1:=yW hm hi J;have e2:=yW hm J hi;rw[e,a6 (gv _)] at e1;rw[e,a6 (gv _)] at e2;have gi:BF.getD i []=BF[i]:=by simp[hi]
    have gj:BF.getD j []=BF[j]:=by simp[J]
    rcases uO (a:=BF.getD i []) (b:=BF.getD j []) (by right) with h | h | h;rw[gi,gj] at h;show (du a0).mp h
    all_goals grind
   have O:ba.length=BF.length:=by lia
   show#[zcq BF,by rw[O];show hu,λi j hi J e=>?_,λi j hi J C E hC=>?_,λp U=>?_];rw[O] at hi J;obtain⟨a1,ad,_,b1,c1,d1,_⟩:=zcK I B rv hi;obtain⟨a2,ag,_,b2,c2,d2,_⟩:=zcK I B rv J;rw[b1,b2] at e;cases e;obtain⟨o1,al,_,n1,an⟩:=c1;obtain⟨o2,Y,_,n2,Z⟩:=c2;rw[al] at Y;cases Y;rw[an] at Z;have ei:ad=ag:=by injection Z with q1;show List.toArray_inj q1
   subst ei;have es:=zbq d1 d2;have gi:BF.getD i []=BF[i]:=by simp[hi]
   have gj:BF.getD j []=BF[j]:=by simp[J]
   rw[gi,gj] at es;show (du a0).mp es;rw[O] at hi J;obtain⟨a1,ad,_,b1,c1,d1,f1⟩:=zcK I B rv hi;obtain⟨a2,ag,_,b2,c2,d2,f2⟩:=zcK I B rv J;obtain⟨o1,al,_,n1,an⟩:=c1;obtain⟨o2,Y,_,n2,Z⟩:=c2;rw[b1,b2];have gi:(BF.getD i []).length=m:=by right
   have gj:(BF.getD j []).length=m:=by right
   have l1:=d1.length;have l2:=d2.length;rw[ab] at l1 l2;show W.kat_lt (s:={ s with heap:=h' }) (kp _ _ f1 al) an (kp _ _ f2 Y) Z ?_;rw[show decide (ad.toArray.size<ag.toArray.size)=false from a6 (by simp;lia)];show zd2 0 d1 d2 (by rw[gi,gj]) ?_;rw[yW hm hi J] at hC;show hC;rw[O] at U;have ap:p.toList.Perm (List.range BF.length):=by have:=U.perm.toList;simpa using this
   have as:∀i∈p.toList,i<BF.length:=λi hi=>aK.mp ((ap.mem_iff).mp hi);show W.KasFin.intro F N (W.UpdF.head λq' bd=>?_) λbe c F'' N''=>?_;show aN (ac q' bd);have bk:∀b o,b≠X.env.locals->s.heap.get? b=some o->be.get? b=some o:=λb o hb e=>(N'' (b,o) (ar _ (zP.mpr #[hb,e]))).1;have bl:BH≠X.env.locals:=(N'' (BH,_) am).2.1
   have bo:s.heap.get? BH=none:=by
    cases e:s.heap.get? BH with
    | none=>rfl
    | some o=>show absurd (ac (BH,o) (zP.mpr #[bl,e])) (cV _)
   have a4:H BH=none:=by
    cases e:H BH with
    | none=>rfl
    | some o=>
     obtain⟨o',b0⟩:=zaR (I.hok BH o e);grind
   have a5:=(N'' (BH,_) am).1;have I':=zdW I a3 (ys:=p.toList.map λi=>vs.getD i .non) bk F''.ns bo a4 a5 (zfB rv p.toList λi hi=>by right) (by rw[ab,ap.length_eq,aA];lia) s.toks;show#[.ref BH,_,I',BB,(q _ (p.toList.map λi=>BF.getD i []) (zgS B as) ?_ ?_).at a4];have:=ap.map λi=>BF.getD i [];rwa[zbm] at this;have b3:p.size=BF.length:=zfi U.perm;rw[bv];intro i j hi J bs;rw[ab,aG] at hi J;have hk:=U.lt_of bs (by lia);rw[cD,cD,dO,dO];have e1:p.getD i 0=p[i]:=by simp[hi]
   have e2:p.getD j 0=p[j]:=by simp[J]
   unfold key at hk;rw[e1,e2] at hk;rw[<- yW hm (as _ (by simp)) (as _ (by simp))];show aY hk]
end
open PySem.Calls PySem.W
def u5 {prog:Aa}{w:Ab}{A:Ae}{E:AA}{s:AZ}{a:Addr}{vs:AN}{n:Nat}{P:PySem.Fin->AZ->Prop}(ho:s.heap.get? a=some (seqObj "list" vs.toArray n))(h2:vs.length<2)
  (h:∀h' c,(∀b o,b≠a->s.heap.get? b=some o->h'.get? b=some o)->h'.get? a=some (seqObj "list" vs.toArray c)->P (.done (.ret .none)) { s with heap:=h' }) :
  Ag prog w A (Builtin.«list.sort» #[[.ref a],[]]) P E s:=by
 obtain⟨e1,ho1⟩:∃e1,(s.heap.update a (Obj.mapSeq λ_=>(#v[]:AK))).get? a=some (seqObj "list" #v[] e1):=#[_,get?_update_seq ho λ_=>#v[]];rw[list_sort_plain];show aa (listItems_at ho BB ?_);show aa (gt ho BB ?_ (by rw[aP,ce];lia) (aI _));show aa (seqEpoch_at ho1 BB ?_);show aa (wpAny_newTuple ?_ (by change vs.length<=_;rw[ce];lia));show aa (gu ?_ (aI _));show bS ?_;change Ag prog w A _ P E { s with heap:=((s.heap.update a (Obj.mapSeq λ_=>(#v[]:AK))).push (seqObj "tuple" vs.toArray 0)).push (seqObj "list" #v[] 0) };dsimp only;have hn2:vs.toArray.size<2:=by rw[aP];lia
 rw[if_pos hn2,if_pos hn2];show aa (af ?_);show aa (m:=(pure ():StateT SortSt _ _).run _) (af ?_);have hsnd:(arrOf (SortSt.mk' general' (vs.toArray.zip vs.toArray) #v[] 7 none)).map (λx=>x.snd)=vs.toArray:=by change (vs.toArray.zip vs.toArray).map (λx=>x.snd)=vs.toArray;apply eY.mp;rw[gC,Array.toList_zip];show List.map_snd_zip (ai _)
 have ha:a<s.heap.objs.size:=aw ho;have g3:(((s.heap.update a (Obj.mapSeq λ_=>(#v[]:AK))).push (seqObj "tuple" vs.toArray 0)).push (seqObj "list" #v[] 0)).get? a=some (seqObj "list" #v[] e1):=ae _ (ae _ ho1);show aa (seqEpoch_at g3 BB ?_);show aa (gt g3 BB ?_ (aI _) ?_);change wpAny _ _ _ _ _ _;dsimp only;rw[hsnd];simp only[ge,aV,if_false];show af (h _ _ (λb o hb e=>?_) (get?_update_seq g3 λ_=>vs.toArray));rw[dU _ _ _ _ hb];show ae _ (ae _ ?_);rw[dU _ _ _ _ hb];show e;dsimp only;rw[hsnd,aP,ce];lia
def zfr {prog:Aa}{w:Ab}{A:Ae}{E:AA}{s:AZ}{l:Addr}{vs:AN}{Q:AA}(J:s.heap.IsList l vs.toArray)(h2:vs.length<2)
  (h:∀BH h' c,(∀b o,s.heap.get? b=some o->h'.get? b=some o)->s.heap.get? BH=none->h'.get? BH=some (seqObj "list" vs.toArray c)->Q (.ref BH) { s with heap:=h' }) :
  Ag prog w A (call (.builtin "sorted") [.ref l]) Q E s:=by
 show Calls.call_function_entry kind_sorted plain_sorted entry_sorted (args_sorted1 _) ?_;unfold Builtin.«sorted»;show aa (m:=checkCount "sorted" 1 1 _) (af ?_);show aa (collect_list J ?_ (by rw[ce];lia));show aa (gu ?_ (by rw[ce];lia));have hsz:((s.heap.push (seqObj "list" #v[] 0)).update s.heap.objs.size (Obj.mapSeq (·++vs.toArray))).objs.size=s.heap.objs.size+1:=by right
 have F:(((s.heap.push (seqObj "list" #v[] 0)).update s.heap.objs.size (Obj.mapSeq (·++vs.toArray))).push (seqObj "list" vs.toArray 0)).get? (s.heap.objs.size+1)=some (seqObj "list" vs.toArray 0):=by rw[<- hsz];show av _ BB
 have I:∀b o,s.heap.get? b=some o->(((s.heap.push (seqObj "list" #v[] 0)).update s.heap.objs.size (Obj.mapSeq (·++vs.toArray))).push (seqObj "list" vs.toArray 0)).get? b=some o:=λb o q=>by have B:b<s.heap.objs.size:=aw q;rw[eI _ _ _ (by rw[hsz];show aN (c9 B)),dU _ _ _ _ (aN B),eI _ _ _ (aN B)];show q
 change wpAny _ _ _ _ _ { s with heap:=((s.heap.push (seqObj "list" #v[] 0)).update s.heap.objs.size (Obj.mapSeq (·++vs.toArray))).push (seqObj "list" vs.toArray 0) };rw[hsz];show aa (bS (aW fX #[_,F,BB] fL ?body (fY _)))
 case body=>
  show u5 (s:={ s with heap:=((s.heap.push (seqObj "list" #v[] 0)).update s.heap.objs.size (Obj.mapSeq (·++vs.toArray))).push (seqObj "list" vs.toArray 0) }) F h2 λh' c O U=>?_;show#[_,BB,af #[_,BB,h _ _ _ (λb o e=>O b o (aN (c9 (aw e))) (I b o e)) ?_ U]];show fj (gn _)
section
variable {X:Cx}
def zp6:AT->Hp->VK->Prop:=λxs H Q=>∃ (l:Addr) (vs:AT) (BF:AF) (m:Nat),xs=[.ref l]/\H l=some (.lst vs)/\IsL H (BF.map stD) vs/\1<=m/\(∀st∈BF,st.length=m)/\BF.Nodup/\
 ∀ (ys:AT) (q:AF),IsL H (q.map stD) ys->q.Perm BF->(q.Pairwise λa b=>HT.lexLt a b=true)->New H (.lst ys) Q
def zn9:CallQ X (.builtin "sorted") zp6:=#[by
 intro BC s G H xs us Q I r h;obtain⟨l,vs,BF,m,rfl,hl,B,O,hm,U,q⟩:=h;by_cases h2:2<=BF.length;show zlf.run _ _ _ _ _ _ _ I r #[l,vs,BF,m,BB,hl,B,h2,O,hm,U,q];obtain⟨u,rfl,ru⟩:=za7 r;cases ru;obtain⟨ac,rv,pl,hz⟩:=I.list (.of hl);have Y:=B.length;rw[ab] at Y;have ad:=rv.length;obtain⟨m0,F,_⟩:=id I.loc;show zfr pl.isList (by lia) λBH h' c kp Z hD=>?_
 have J:H BH=none:=by
  cases e:H BH with
  | none=>rfl
  | some o=>
   obtain⟨o',ag⟩:=zaR (I.hok BH o e);grind
 have I':=zdW I F (ys:=vs) (λb o _ e=>kp b o e) (by obtain⟨o,es,ep,g,k⟩:=F;show#[o,es,ep,kp _ _ g,k]) Z J hD rv (by grind) s.toks;show#[.ref BH,_,I',BB,(q _ BF B (eM _) ?_).at J]
 match BF,h2 with
 | [],_=>show .nil
 | [_],_=>show et _ _
 | _::_::_,h2=>show absurd (by simp) h2]
end
def Ris (xs:Array Nat):Prop:=∀i j:Nat,i<j->j<xs.size->xs.getD i 0<xs.getD j 0
theorem zdL {xs:Array Nat}(F:Ris xs){j:Nat}:∀ (B lo hi:Nat),lo<=hi->hi<=xs.size->hi - lo<=B->(∀i,i<lo->xs.getD i 0<j)->(∀i,hi<=i->i<xs.size->j<=xs.getD i 0)->
  ∃p,SetTable.below.go xs j B lo hi=p/\p<=xs.size/\(∀i,i<p->xs.getD i 0<j)/\(∀i,p<=i->i<xs.size->j<=xs.getD i 0)
 | 0,lo,hi,h1,h2,h3,I,J=>by
  have:lo=hi:=by lia
  subst this;show#[lo,BB,h2,I,J]
 | B+1,lo,hi,h1,h2,h3,I,J=>by
  change ∃p,(if lo<hi then if xs.getD ((lo+hi) / 2) j<j then SetTable.below.go xs j B ((lo+hi) / 2+1) hi else SetTable.below.go xs j B lo ((lo+hi) / 2) else lo)=p/\_;by_cases Y:lo<hi;rw[if_pos Y];have Z:(lo+hi) / 2<xs.size:=by lia
  have e:xs.getD ((lo+hi) / 2) j=xs.getD ((lo+hi) / 2) 0:=by simp[Z]
  rw[e];by_cases O:xs.getD ((lo+hi) / 2) 0<j;rw[if_pos O];show zdL F B _ hi (by lia) h2 (by lia) (λi U=>?_) J;by_cases q:i=(lo+hi) / 2;rw[q];show O;have:=F i ((lo+hi) / 2) (by lia) Z;lia;rw[if_neg O];show zdL F B lo _ (by lia) (by lia) (by lia) I (λi U hs=>?_);by_cases q:i=(lo+hi) / 2;rw[q];lia;have:=F ((lo+hi) / 2) i (by lia) hs;lia;rw[if_neg Y];have:lo=hi:=by lia
  subst this;show#[lo,BB,h2,I,J]
def xW(q:Ris xs)(j:Nat):SetTable.below xs j<=xs.size/\(∀i,i<SetTable.below xs j->xs.getD i 0<j)/\(∀i,SetTable.below xs j<=i->i<xs.size->j<=xs.getD i 0):=by obtain⟨p,e,h⟩:=zdL q (j:=j) xs.size 0 xs.size (aI _) (ai _) (ai _) (λi h=>absurd h (dg _)) (λi h1 h2=>by lia);have B:SetTable.below xs j=p:=e;rw[B];show h
def xN{xs:Array Nat}(h:xs[i]?=some j):i<xs.size/\xs.getD i 0=j:=by
 obtain⟨h1,h2⟩:=cT.mp h;right
def zfX{xs:Array Nat}(h:i<xs.size):xs[i]?=some (xs.getD i 0):=by simp[h]
def zk3(B:Ris xs)(h:xs[i]?=some j):SetTable.below xs j=i:=by
 obtain⟨h1,h2⟩:=xN h;obtain⟨J,F,I⟩:=xW B j;rcases cL (SetTable.below xs j) i with q | q | q;have:=I _ (ai _) (by lia);have:=B _ i q h1;lia;show q;have:=F i q;lia
def za2{t:SetTable}(q:Ris t.place)(h:t.place[i]?=some j):t.slot j = .live i:=by unfold SetTable.slot;rw[zk3 q h];simp[h]
def zkt {t:SetTable}(q:t.dummies = #v[]){j:Nat}(h:∀i:Nat,t.place[i]?≠some j):t.slot j = .empty:=by
 unfold SetTable.slot;have e:(t.place[SetTable.below t.place j]?==some j)=false:=by grind
 have B:SetTable.has t.dummies j=false:=by rw[q];rfl
 right
def zqm {t:SetTable}(q:Ris t.place)(B:t.dummies = #v[])(j:Nat):(t.slot j = .empty/\∀i:Nat,t.place[i]?≠some j)\/∃i,t.slot j = .live i/\t.place[i]?=some j:=by
 by_cases h:∃i:Nat,t.place[i]?=some j;obtain⟨i,hi⟩:=h;show .inr #[i,za2 q hi,hi];have h':∀i:Nat,t.place[i]?≠some j:=λi e=>h #[i,e];show .inl #[zkt B h',h']
def tm (q:Nat):SetTable:=#[q,#v[],#v[],0,true,0,true]
def stp (q:Nat)(h:Int):Nat->SetTable.Probe
 | 0=>(tm q).probeStart h
 | n+1=>(tm q).advance (stp q h n)
def wk (q:Nat)(h:Int)(n:Nat):Nat:=(stp q h n).j
def zig (q:Nat)(p:SetTable.Probe):((tm q).advance p).dummy=p.dummy:=by unfold SetTable.advance;split <;> rfl
theorem zfv (q:Nat)(h:Int):∀n,(stp q h n).dummy=none
 | 0=>rfl
 | n+1=>by change ((tm q).advance _).dummy=none;rw[zig,zfv q h n]
def zgB (q:Nat)(p:SetTable.Probe)(h:0<p.more):(tm q).advance p={ p with j:=p.j+1,more:=p.more - 1 }:=by unfold SetTable.advance;rw[if_pos h]
def zdK (q:Nat)(p:SetTable.Probe)(h:p.more=0):(tm q).advance p={ p with j:=(p.i * 5+1+p.perturb / 32) % (q+1),more:=SetTable.runEnd q ((p.i * 5+1+p.perturb / 32) % (q+1)) - (p.i * 5+1+p.perturb / 32) % (q+1),i:=(p.i * 5+1+p.perturb / 32) % (q+1),perturb:=p.perturb / 32 }:=by unfold SetTable.advance;rw[if_neg (by lia)];rfl
def lp (q:Nat)(h:Int):Nat->Nat×Nat
 | 0=>(SetTable.bits h % (q+1),SetTable.bits h)
 | n+1=>SetTable.leap q (lp q h n).1 (lp q h n).2
def znH (q i:Nat):SetTable.runEnd q i - i<=9:=by unfold SetTable.runEnd;split <;> lia
theorem zeA (B:Nat)(h:Int){T i q:Nat}(e:stp B h T=#[i,SetTable.runEnd B i - i,i,q,none]):∀k,k<=SetTable.runEnd B i - i->stp B h (T+k)=#[i+k,SetTable.runEnd B i - i - k,i,q,none]
 | 0,_=>e
 | k+1,F=>by
  change (tm B).advance (stp B h (T+k))=_;rw[zeA B h e k (by lia),zgB B _ (by lia)];grind
theorem zjn (q:Nat)(h:Int):∀k,∃T,T<=10 * k/\stp q h T=#[(lp q h k).1,SetTable.runEnd q (lp q h k).1 - (lp q h k).1,(lp q h k).1,(lp q h k).2,none]
 | 0=>#[0,ai _,BB]
 | k+1=>by obtain⟨T,B,e⟩:=zjn q h k;have F:=znH q (lp q h k).1;show#[T+(SetTable.runEnd q (lp q h k).1 - (lp q h k).1)+1,by lia,?_];change (tm q).advance (stp q h (T+_))=_;rw[zeA q h e _ (ai _),zdK q _ (Nat.sub_self _)];rfl
theorem zdu (q:Nat)(h:Int):∀k,(lp q h k).2=SetTable.bits h / 32 ^ k
 | 0=>by change SetTable.bits h=_;simp
 | k+1=>by change (lp q h k).2 / 32=_;rw[zdu q h k,Nat.div_div_eq_div_mul,Nat.pow_succ]
def zn3 (h:Int):SetTable.bits h<2 ^ 64:=by
 unfold SetTable.bits;grind
def lcg (m i:Nat):Nat:=(i * 5+1) % m
def orb (m:Nat):Nat->Nat->Nat
 | 0,i=>i
 | k+1,i=>lcg m (orb m k i)
theorem zjv (q:Nat)(h:Int):∀k,(lp q h (13+k)).1=orb (q+1) k (lp q h 13).1
 | 0=>rfl
 | k+1=>by
  change ((lp q h (13+k)).1 * 5+1+(lp q h (13+k)).2 / 32) % (q+1)=lcg (q+1) (orb (q+1) k _);rw[<- zjv q h k,zdu];have B:=zn3 h
  have e:SetTable.bits h / 32 ^ (13+k)=0:=by
   show Nat.div_eq_of_lt (aZ B ?_)
   calc 2 ^ 64<=32 ^ 13:=by ext
    _<=32 ^ (13+k):=dN (by ext) (by lia)
  rw[e];rfl
theorem zcD (m:Nat)(a:Nat):∀ (b i:Nat),orb m (a+b) i=orb m b (orb m a i)
 | 0,i=>rfl
 | b+1,i=>by change lcg m (orb m (a+b) i)=lcg m (orb m b _);rw[zcD m a b i]
def zqT (m:Nat):Nat->Nat->AR
 | 0,_=>[]
 | n+1,i=>i::zqT m n (lcg m i)
def zl2 (m:Nat)(k i:Nat):orb m (k+1) i=orb m k (lcg m i):=by rw[Nat.add_comm,zcD];rfl
theorem zek (m:Nat):∀ (n i k:Nat),k<n->(zqT m n i)[k]?=some (orb m k i)
 | n+1,i,0,_=>rfl
 | n+1,i,k+1,h=>by rw[zl2];show zek m n (lcg m i) k (by lia)
theorem zg9 (m:Nat):∀ (n i:Nat),(zqT m n i).length=n
 | 0,_=>rfl
 | n+1,i=>by change (zqT m n _).length+1=n+1;rw[zg9 m n]
structure Ring (m:Nat):Prop where
 pos:0<m
 all:∀v,v<m->v∈zqT m m 0
 back:orb m m 0=0
def Ring.reach(r:Ring m)(hi:i<m)(J:j<m):∃k,k<m/\orb m k i=j:=by
 obtain⟨a,F,U⟩:=ck.mp (r.all i hi);obtain⟨b,I,Y⟩:=ck.mp (r.all j J);rw[zg9] at F I
 have q:orb m a 0=i:=by
  have:=zek m m 0 a F;right
 have B:orb m b 0=j:=by
  have:=zek m m 0 b I;right
 by_cases O:a<=b;show#[b - a,by lia,?_];rw[<- q,<- zcD,show a+(b - a)=b by lia];show B;show#[b+m - a,by lia,?_];rw[<- q,<- zcD,show a+(b+m - a)=m+b by lia,zcD,r.back];show B
def zsP (m:Nat):Bool:=((List.range m).all λv=>(zqT m m 0).contains v)&&orb m m 0==0
def zeq(q:0<m)(h:zsP m=true):Ring m:=by
 unfold zsP at h;rw[bE] at h;show#[q,λv B=>?_,cq h.2];right
def zvA:Ring 8:=zeq (by ext) (by decide +kernel)
def zsO:Ring 32:=zeq (by ext) (by decide +kernel)
def zp9:Ring 128:=zeq (by ext) (by decide +kernel)
def zqa:Ring 512:=zeq (by ext) (by decide +kernel)
def zmU(r:Ring (q+1))(h:Int)(B:j<=q):∃n,n<10 * SetTable.turns q/\wk q h n=j:=by have F:(lp q h 13).1<q+1:=gf _ (fV _);obtain⟨k,J,e⟩:=r.reach F (gg B);obtain⟨T,O,I⟩:=zjn q h (13+k);show#[T,by unfold SetTable.turns;lia,?_];change (stp q h T).j=j;rw[I];change (lp q h (13+k)).1=j;rw[zjv,e]
def zqc {xs:Array Nat}(B:Ris xs){i j a b:Nat}(hi:xs[i]?=some a)(F:xs[j]?=some b)(h:a<b):i<j:=by
 obtain⟨h1,h2⟩:=xN hi;obtain⟨I,J⟩:=xN F;rcases cL i j with q | q | q;show q;subst q;lia;have:=B j i q h1;lia
theorem zhh(q:Ris xs):∀ (M:Nat),(∀j,j<M->∃i:Nat,xs[i]?=some j)->∀ (j i:Nat),j<M->xs[i]?=some j->j<=i
 | _,_,0,_,_,_=>aI _
 | M,h,j+1,i,I,e=>by obtain⟨F,B⟩:=h j (by lia);have h1:=zqc q B e (eW j);have h2:=zhh q M h j F (by lia) B;lia
def zqb(q:Ris xs)(h:xs.size<M):∃j,j<M/\∀i:Nat,xs[i]?≠some j:=by show bR λhn=>?_;have all:∀j,j<M->∃i:Nat,xs[i]?=some j:=λj B=>bR λF=>hn #[j,B,λi e=>F #[i,e]];obtain⟨i,e⟩:=all (M - 1) (by lia);have h1:=zhh q M all (M - 1) i (by lia) e;have h2:=(xN e).1;lia
section
variable {t:SetTable}{hashAt:Nat->Int}{h:Int}
theorem zhd (F:Ris t.place)(I:t.dummies = #v[]):∀ (q n:Nat),(∃N,n<=N/\N<n+q/\∀i:Nat,t.place[i]?≠some (wk t.mask h N))->
  ∃N,n<=N/\(∀m,n<=m->m<N->∃i,t.place[i]?=some (wk t.mask h m)/\hashAt i≠h)/\
   (((∀i:Nat,t.place[i]?≠some (wk t.mask h N))/\SetTable.probe.go t hashAt h q (stp t.mask h n)=some (.empty (wk t.mask h N) none))\/
    ∃i,t.place[i]?=some (wk t.mask h N)/\hashAt i=h/\SetTable.probe.go t hashAt h q (stp t.mask h n)=some (.candidate (wk t.mask h N) i (stp t.mask h (N+1))))
 | 0,n,⟨N,h1,h2,_⟩=>by lia
 | q+1,n,⟨N,h1,h2,J⟩=>by
  rcases zqm F I (wk t.mask h n) with ⟨e,hn⟩ | ⟨i,e,hi⟩;show#[n,ai _,λm a b=>by lia,.inl #[hn,?_]];change (match t.slot (wk t.mask h n) with | .empty=>some (SetTable.Met.empty (wk t.mask h n) (stp t.mask h n).dummy) | .dummy=>_ | .live i=>_)=_;rw[e,zfv];by_cases B:hashAt i=h;show#[n,ai _,λm a b=>by lia,.inr #[i,hi,B,?_]];change (match t.slot (wk t.mask h n) with | .empty=>_ | .dummy=>_ | .live i=>if hashAt i==h then some (SetTable.Met.candidate (wk t.mask h n) i (t.advance (stp t.mask h n))) else _)=_;rw[e];change (if (hashAt i==h)=true then _ else _)=_;rw[if_pos (beq_iff_eq.mpr B)];rfl;have Z:n≠N:=λz=>by subst z;show J i hi
  obtain⟨N',a1,O,a3⟩:=zhd F I q (n+1) #[N,by lia,by lia,J];have e2:SetTable.probe.go t hashAt h (q+1) (stp t.mask h n)=SetTable.probe.go t hashAt h q (stp t.mask h (n+1)):=by change (match t.slot (wk t.mask h n) with | .empty=>_ | .dummy=>_ | .live i=>if hashAt i==h then _ else SetTable.probe.go t hashAt h q (t.advance (stp t.mask h n)))=_;rw[e];change (if (hashAt i==h)=true then _ else _)=_;rw[if_neg (λz=>B (beq_iff_eq.mp z))];rfl
  show#[N',by lia,λm b1 U=>?_,?_];by_cases Y:m=n;subst Y;show#[i,hi,B];show O m (by lia) U;right
variable {prog:Aa}{w:Ab}
abbrev tk (prog:Aa)(w:Ab):HeapKind prog w (List Key):=tupleKind (zY prog w)
def zt2 (t:SetTable)(h:Int)(i:Nat):Prop:=∃n,n<10 * SetTable.turns t.mask/\t.place[i]?=some (wk t.mask h n)/\∀m,m<n->∃q:Nat,t.place[q]?=some (wk t.mask h m)
def zao (m:Nat):Prop:=m=7\/m=31\/m=127\/m=511
def zao.ring(h:zao m):Ring (m+1):=by
 rcases h with rfl | rfl | rfl | rfl;show zvA;show zsO;show zp9;show zqa
def zao.le(h:zao m):7<=m/\m<=511:=by rcases h with rfl | rfl | rfl | rfl <;> lia
def zao.odd(h:zao m):(m % 2==0)=false:=by rcases h with rfl | rfl | rfl | rfl <;> rfl
structure Tb (prog:Aa)(w:Ab)(t:SetTable)(es:Array (Int×Value))(xs:List (List Key×Addr)):Prop where
 eq:es.toList=xs.map λq=>((tk prog w).hash q.1,Value.ref q.2)
 nd:(xs.map (·.1)).Nodup
 dm:t.dummies = #v[]
 ris:Ris t.place
 le:∀ (i j:Nat),t.place[i]?=some j->j<=t.mask
 sz:t.place.size=xs.length
 msk:zao t.mask
 few:xs.length<=t.mask
 plain:t.plain=true
 led:t.led = !w.params.followText "set-order"
 reach:∀ (i:Nat) (q:List Key×Addr),xs[i]?=some q->zt2 t ((tk prog w).hash q.1) i
variable {es:Array (Int×Value)}{xs:List (List Key×Addr)}
def Tb.size (T:Tb prog w t es xs):es.size=xs.length:=by rw[<- aG,T.eq,ab]
def Tb.get (T:Tb prog w t es xs){i:Nat}{q:List Key×Addr}(h:xs[i]?=some q):es[i]?=some ((tk prog w).hash q.1,Value.ref q.2):=by rw[<- bZ,T.eq,aC,h];rfl
def Tb.at' (T:Tb prog w t es xs){i j:Nat}(h:t.place[i]?=some j):∃q,xs[i]?=some q:=by
 have:=(xN h).1;rw[T.sz] at this;right
def Tb.fits (T:Tb prog w t es xs):t.fits es.size=true:=by unfold SetTable.fits SetTable.fill;rw[T.size,T.sz,T.dm];have:=T.few;simp;lia
def Tb.empty (T:Tb prog w t es xs)(h:Int):∃N,N<10 * SetTable.turns t.mask/\∀i:Nat,t.place[i]?≠some (wk t.mask h N):=by have:=T.few;obtain⟨j,q,hn⟩:=zqb T.ris (M:=t.mask+1) (by rw[T.sz];lia);obtain⟨N,h1,h2⟩:=zmU T.msk.ring h (dh q);show#[N,h1,by rw[h2];show hn]
variable {A:Ae}{E:AA}{s:AZ}
def zfL(h:(zY prog w).is k v=true):(∃i t,v = .int i t)\/∃x t,v = .str x t:=by
 rcases zX h with ⟨i,t,_,e⟩ | ⟨x,t,_,e⟩;show .inl #[i,t,e];show .inr #[x,t,e]
theorem zcj:∀ {ks:List Key} {vs:AN},ItemsAre (zY prog w) ks vs->∀v∈vs,(∃i t,v = .int i t)\/∃x t,v = .str x t
 | _,_,.nil,v,h=>by simp at h
 | _,_,.cons h1 h2,v,h=>by
  rcases ay.mp h with rfl | h;show zfL h1;show zcj h2 v h
def zdx(J:(tk prog w).is s.heap k b)(h:Q false s):Ag prog w A (ofAClassStatement 8 (.ref b)) Q E s:=by
 have B:IsTupleKey (zY prog w) s.heap k b:=J;have O:=B.typeIs;obtain⟨o,items,n,U,_,Y,hi⟩:=B;unfold ofAClassStatement;show aa (dY O ?_);dsimp only;rw[if_pos (by ext)];show aa (af ?_);simp only[gx,aV,if_false];show aa (cJ U Y ?_);show aa ?_;change wpAny _ _ (forIn items _ _) _ _ s;rw[<- Array.forIn_toList];show gD _ (λzx r s'=>r.1=none/\s'=s/\∀v∈zx,(∃i t,v=Value.int i t)\/∃x t,v=Value.str x t) _ ?_ ?_ _ _ #[BB,BB,zcj hi]
 ·rintro v zx r s' ⟨F,rfl,q⟩;have e:ofAClassStatement 7 v=pure false:=by rcases q v am with ⟨i,t,rfl⟩ | ⟨x,t,rfl⟩ <;> rfl
  rw[e];show aa (af ?_);simp only[aV,if_false];show af #[BB,BB,λu I=>q u (ar _ I)]
 rintro⟨Z,r2⟩ s' ⟨F,rfl,_⟩;simp only at F;subst F;show af h
def ztn(U:(tk prog w).is s.heap k b):∀ (l:AN),(∀v∈l,∃F q,v = .ref q/\(tk prog w).is s.heap F q)->Q false s->Ag prog w A (searchCouldBeSeen (.ref b) l) Q E s:=by
 intro l Y h;unfold searchCouldBeSeen;show aa ?_;show gD _ (λzx r s'=>r.1=none/\s'=s/\∀v∈zx,∃F q,v=Value.ref q/\(tk prog w).is s.heap F q) _ ?_ ?_ _ _ #[BB,BB,Y]
 ·rintro v zx r s' ⟨J,rfl,B⟩;obtain⟨F,q,rfl,I⟩:=B v am;have next:∀u∈zx,∃F q,u=Value.ref q/\(tk prog w).is s'.heap F q:=λu O=>B u (ar _ O);dsimp only;split
  ·show af #[BB,BB,next]
  ·show aa ((tk prog w).quiet U ?_);simp only[gx,aV,if_false];show aa ((tk prog w).quiet I ?_);simp only[gx,aV,if_false];show aa (zdx U ?_);simp only[aV,if_false];show aa (zdx I ?_);simp only[aV,if_false];show af #[BB,BB,next]
 rintro⟨Z,r2⟩ s' ⟨J,rfl,_⟩;simp only at J;subst J;show af h
def zeH (t:SetTable)(xs:List (List Key×Addr))(h:Int)(k:List Key)(n:Nat):Prop:=∀m,m<n->∃ (i:Nat) (q:List Key×Addr),t.place[i]?=some (wk t.mask h m)/\xs[i]?=some q/\q.1≠k
theorem zfq {a b:Addr}{o:Obj}{ep:Nat}{k:List Key}{adding:Bool}{Q:SetFound->AZ->Prop}(hu:A.units<cLine)(T:Tb prog w t es xs)(hk:(tk prog w).is s.heap k b)(hel:∀q∈xs,(tk prog w).is s.heap q.1 q.2)
  (ho:s.heap.get? a=some o) (hd:o.data = .set es ep t)
  (found:∀r i q,xs[i]?=some q->q.1=k->(r=none/\adding=true\/r=some i)->Q (.there r) s)
  (free:∀N,N<10 * SetTable.turns t.mask->(∀i:Nat,t.place[i]?≠some (wk t.mask ((tk prog w).hash k) N))->zeH t xs ((tk prog w).hash k) k N->Q (.free (wk t.mask ((tk prog w).hash k) N) false) s) :
  ∀ (fuel n:Nat) (stand:Option SetTable.Probe),stand.getD (t.probeStart ((tk prog w).hash k))=stp t.mask ((tk prog w).hash k) n->10 * SetTable.turns t.mask<n+fuel->n<=10 * SetTable.turns t.mask->zeH t xs ((tk prog w).hash k) k n->
   Ag prog w A (setSearchFrom a (.ref b) ((tk prog w).hash k) adding fuel stand) Q E s
 | 0,n,stand,_,h2,h3,_=>by lia
 | fuel+1,n,stand,h1,h2,h3,h4=>by
  unfold setSearchFrom;show aa (bF ho hd T.fits ?_);dsimp only;rw[show t.gaveWay=false from T.msk.odd];simp only[aV,if_false];rw[h1];obtain⟨N0,hN0,eN0⟩:=T.empty ((tk prog w).hash k)
  have hn0:n<=N0:=by
   rcases Nat.lt_or_ge N0 n with q | q;obtain⟨i,_,e,_⟩:=h4 N0 q;show absurd e (eN0 i);show q
  have pass:∀N,n<=N->(∀m,n<=m->m<N->∃i:Nat,t.place[i]?=some (wk t.mask ((tk prog w).hash k) m)/\(es[i]?.map (·.1)).getD 0≠(tk prog w).hash k)->zeH t xs ((tk prog w).hash k) k N:=λN hN hh m hm=>by
   rcases Nat.lt_or_ge m n with q | q;show h4 m q;obtain⟨i,e1,e2⟩:=hh m q hm;obtain⟨q,hq⟩:=T.at' e1;show#[i,q,e1,hq,λz=>e2 ?_];rw[T.get hq,<- z];rfl
  obtain⟨N,hN,hp,hc⟩:=zhd (t:=t) (hashAt:=λi=>(es[i]?.map (·.1)).getD 0) (h:=(tk prog w).hash k) T.ris T.dm (10 * SetTable.turns t.mask) n #[N0,hn0,by lia,eN0]
  have hNle:N<=N0:=by
   rcases Nat.lt_or_ge N0 N with q | q;obtain⟨i,e,_⟩:=hp N0 hn0 q;show absurd e (eN0 i);show q
  rcases hc with ⟨he,hg⟩ | ⟨i,hi,hh,hg⟩;have hg':t.probe (λi=>(es[i]?.map (·.1)).getD 0) ((tk prog w).hash k) (stp t.mask ((tk prog w).hash k) n)=some (.empty (wk t.mask ((tk prog w).hash k) N) none):=hg;have fin:=free N (by lia) he (pass N hN hp);generalize hm:SetTable.probe t _ _ _=met;have:met=some (.empty (wk t.mask ((tk prog w).hash k) N) none):=hm.symm.trans hg';rw[this];dsimp only;show af fin;have hg':t.probe (λi=>(es[i]?.map (·.1)).getD 0) ((tk prog w).hash k) (stp t.mask ((tk prog w).hash k) n)=some (.candidate (wk t.mask ((tk prog w).hash k) N) i (stp t.mask ((tk prog w).hash k) (N+1))):=hg;generalize hm:SetTable.probe t _ _ _=met;have:met=some (.candidate (wk t.mask ((tk prog w).hash k) N) i (stp t.mask ((tk prog w).hash k) (N+1))):=hm.symm.trans hg';rw[this];dsimp only;obtain⟨q,hq⟩:=T.at' hi;have hqe:=T.get hq;have hqk:=hel q (aM hq);have stl:t.slot (wk t.mask ((tk prog w).hash k) N) = .live i:=za2 T.ris hi
  have core:Ag prog w A (do
    let some (_,y):=es[i]? | unsupported "internal:set-entry"
    let equal <- holding [y] (eqBool y (.ref b))
    let (es',_,t') <- setState a
    if adding&&equal then return .there none
    let some smem:=t'.sameMemory t.moves t.mask | unsupported "set.changed-during-lookup:is-the-new-block-at-the-old-address"
    let still <- match (if smem then t'.slot (wk t.mask ((tk prog w).hash k) N) else .empty) with
     | .live i'=>match es'[i']? with
      | some (_,y')=>do pure (if <- isSame y' y then some i' else none)
      | none=>pure none
     | _=>pure none
    match still with
    | none=>rule "set.search.anew";setSearchFrom a (.ref b) ((tk prog w).hash k) adding fuel none
    | some i'=>if equal then return .there (some i') else setSearchFrom a (.ref b) ((tk prog w).hash k) adding fuel (some (stp t.mask ((tk prog w).hash k) (N+1)))) Q E s:=by
   rw[hqe];dsimp only;show aa (bS ((tk prog w).eqBool hu hqk hk ?_));show aa (bF ho hd T.fits ?_);dsimp only;by_cases hkk:q.1=k;rw[aY hkk]
   cases adding with
   | true=>
    simp only[Bool.and_self,if_true];show af (found none i q hq hkk (.inl #[BB,BB]))
   | false=>
    simp only[Bool.false_and,aV,if_false];have e1:t.sameMemory t.moves t.mask=some true:=by unfold SetTable.sameMemory;simp
    rw[e1];dsimp only;simp only[if_true];rw[stl];dsimp only;rw[hqe];dsimp only;show aa (wpAny_isSame_ref_self (aa (af ?_)));simp only[if_true];show af (found (some i) i q hq hkk (.inr BB))
   rw[a6 hkk];simp only[Bool.and_false,aV,if_false];have e1:t.sameMemory t.moves t.mask=some true:=by unfold SetTable.sameMemory;simp
   rw[e1];dsimp only;simp only[if_true];rw[stl];dsimp only;rw[hqe];dsimp only;show aa (wpAny_isSame_ref_self (aa (af ?_)));simp only[if_true];show zfq hu T hk hel ho hd found free fuel (N+1) _ BB (by lia) (by lia) λm hm=>?_;rcases di.mp hm with z | z;show pass N hN hp m z;subst z;show#[i,q,hi,hq,hkk]
  split;show aa (ztn hk _ (λv hv=>?_) ?_);obtain⟨e,he,rfl⟩:=aF.mp hv;have he':e∈es.toList:=by have:=bO.mp he;show bO.mpr (Array.mem_filter.mp this).1
  rw[T.eq] at he';obtain⟨q',hq',rfl⟩:=aF.mp he';show#[_,_,BB,hel q' hq'];simp only[aV,if_false];show core;show core
end
def zeV {α:Type}(l:List α)(p:Nat)(x:α):List α:=l.take p++x::l.drop p
def zf2 {α:Type}{l:List α}{p i:Nat}{x:α}(q:p<=l.length)(h:i<p):(zeV l p x)[i]?=l[i]?:=by unfold zeV;rw[bQ (by grind),bX h]
def zf0{α:Type}{l:List α}{x:α}(q:p<=l.length):(zeV l p x)[p]?=some x:=by
 unfold zeV;right
def zf1 {α:Type}{l:List α}{p i:Nat}{x:α}(q:p<=l.length)(h:p<=i):(zeV l p x)[i+1]?=l[i]?:=by unfold zeV;rw[bt (by grind),bp,show i+1 - min p l.length=(i - p)+1 by lia,bD,ez,show p+(i - p)=i by lia]
def zdS {α:Type}{l:List α}{p:Nat}{x:α}(q:p<=l.length):(zeV l p x).length=l.length+1:=by
 unfold zeV;grind
def zlw {α q:Type}(f:α->q)(l:List α)(p:Nat)(x:α):(zeV l p x).map f=zeV (l.map f) p (f x):=by
 unfold zeV;right
def zi2 {α:Type}(l:List α)(p:Nat)(x:α):(zeV l p x).Perm (x::l):=by
 unfold zeV;show List.perm_middle.trans ?_;right
def yr{α:Type}(xs:Array α)(x:α):(SetTable.insertAt xs p x).toList=zeV xs.toList p x:=by
 unfold SetTable.insertAt zeV;rw[bh,bM,Array.toList_extract,Array.toList_extract,List.extract_eq_take_drop,List.extract_eq_take_drop];rw[Nat.sub_zero,eK,aE];congr 1;change x::_=_;congr 1;change []++List.take _ (List.drop p xs.toList)=_;rw[List.nil_append];show br ?_;right
def zc1 {α:Type}(xs:Array α)(i:Nat):xs[i]?=xs.toList[i]?:=by right
def zf3{xs:Array Nat}(B:p<=xs.size)(h:xs[i]?=some v):(SetTable.insertAt xs p j)[if i<p then i else i+1]?=some v:=by
 rw[zc1,yr];rw[zc1] at h;have q:p<=xs.toList.length:=by rw[aG];show B
 split
 ·rename_i hi;rw[zf2 q hi,h]
 ·rename_i hi;rw[zf1 q (by lia),h]
def zaG{xs:Array Nat}(I:p<=xs.size)(h:(SetTable.insertAt xs p j)[i]?=some v):(i=p/\v=j)\/(i<p/\xs[i]?=some v)\/∃B,i=B+1/\p<=B/\xs[B]?=some v:=by
 rw[zc1,yr] at h;have F:p<=xs.toList.length:=by rw[aG];show I
 rcases cL i p with q | q | q;rw[zf2 F q,<- zc1] at h;right;subst q;rw[zf0 F] at h;right;obtain⟨B,rfl⟩:∃B,i=B+1:=#[i - 1,by lia];rw[zf1 F (by lia),<- zc1] at h;show .inr (.inr #[B,BB,by lia,h])
def zhR(hr:Ris xs)(hn:∀i:Nat,xs[i]?≠some j):Ris (SetTable.insertAt xs (SetTable.below xs j) j):=by
 obtain⟨O,b2,b3⟩:=xW hr j;intro i I Y h2;have e1:=zfX (xs:=SetTable.insertAt xs (SetTable.below xs j) j) (i:=i) (by lia);have J:=zfX h2;generalize (SetTable.insertAt xs (SetTable.below xs j) j).getD i 0=v at e1;generalize (SetTable.insertAt xs (SetTable.below xs j) j).getD I 0=U at J
 have Z:∀i v,SetTable.below xs j<=i->xs[i]?=some v->j<v:=λi v h e=>by
  obtain⟨a1,a2⟩:=xN e;grind
 have F:∀i v,i<SetTable.below xs j->xs[i]?=some v->v<j:=λi v h e=>by obtain⟨a1,a2⟩:=xN e;have:=b2 i h;lia
 have B:∀i I v U,i<I->xs[i]?=some v->xs[I]?=some U->v<U:=λi I v U h e J=>by
  obtain⟨a1,a2⟩:=xN e;obtain⟨a3,a4⟩:=xN J;have:=hr i I h a3
  omega
 rcases zaG O e1 with ⟨rfl,rfl⟩ | ⟨q,e⟩ | ⟨i',rfl,q,e⟩;rcases zaG O J with ⟨rfl,rfl⟩ | ⟨q',e'⟩ | ⟨i'',rfl,q',e'⟩;lia;lia;show Z _ _ q' e';rcases zaG O J with ⟨rfl,rfl⟩ | ⟨q',e'⟩ | ⟨i'',rfl,q',e'⟩;show F _ _ q e;show B _ _ _ _ Y e e';show B _ _ _ _ (by lia) e e';rcases zaG O J with ⟨rfl,rfl⟩ | ⟨q',e'⟩ | ⟨i'',rfl,q',e'⟩;lia;lia;show B _ _ _ _ (by lia) e e'
section
variable {prog:Aa}{w:Ab}{t:SetTable}{es:Array (Int×Value)}{xs:List (List Key×Addr)}
def zoy:SetTable.has #v[] j=false:=rfl
def Tb.put(T:Tb prog w t es xs)(hN:N<10 * SetTable.turns t.mask)(he:∀i:Nat,t.place[i]?≠some (wk t.mask ((tk prog w).hash k) N))(hp:zeH t xs ((tk prog w).hash k) k N)(hk:k∉xs.map (·.1))(hf:xs.length+1<=t.mask)(ac:wk t.mask ((tk prog w).hash k) N<=t.mask) :
  ∃O,Tb prog w (t.put (wk t.mask ((tk prog w).hash k) N)).1 (SetTable.insertAt es (t.put (wk t.mask ((tk prog w).hash k) N)).2 ((tk prog w).hash k,.ref b)) O/\O.Perm ((k,b)::xs):=by
 generalize hj:wk t.mask ((tk prog w).hash k) N=j at *;obtain⟨U,b2,b3⟩:=xW T.ris j;have ad:(t.put j).2=SetTable.below t.place j:=rfl
 have ht:(t.put j).1={ t with place:=SetTable.insertAt t.place (SetTable.below t.place j) j }:=by
  unfold SetTable.put;dsimp only;rw[T.dm,zoy];grind
 generalize ag:SetTable.below t.place j=p at *;have F:p<=xs.length:=by rw[<- T.sz];show U
 have B:∀ {i v:Nat},t.place[i]?=some v->∃I:Nat,(SetTable.insertAt t.place p j)[I]?=some v:=λ{i v} h=>#[_,zf3 U h];have Y:=zi2 xs p (k,b);show#[zeV xs p (k,b),?_,Y];rw[ad,ht];show#[?_,?_,T.dm,?_,?_,?_,T.msk,?_,T.plain,T.led,?_];rw[yr,T.eq,zlw];rw[(Y.map (·.1)).nodup_iff,aD,c7];show#[hk,T.nd];have:=zhR T.ris he;right;intro i v e;rcases zaG U e with ⟨_,rfl⟩ | ⟨_,e'⟩ | ⟨_,_,_,e'⟩;show ac;show T.le _ _ e';show T.le _ _ e';change (SetTable.insertAt t.place p j).size=_;rw[<- aG,yr,zdS (by right),zdS F,aG,T.sz];change (zeV xs p (k,b)).length<=t.mask;rw[zdS F];show hf;intro i q J;rcases cL i p with z | z | z;rw[zf2 F z] at J;obtain⟨n,h1,h2,h3⟩:=T.reach i q J;show#[n,h1,?_,λm Z=>?_];have:=zf3 (j:=j) U h2;right;obtain⟨I,e⟩:=h3 m Z;show B e;subst z;rw[zf0 F] at J;cases J;show#[N,hN,?_,λm Z=>?_];change (SetTable.insertAt t.place i j)[i]?=_;rw[zc1,yr,zf0 (by right)];right;obtain⟨I,q',e,_⟩:=hp m Z;show B e;obtain⟨I,rfl⟩:∃I,i=I+1:=#[i - 1,by lia];rw[zf1 F (by lia)] at J;obtain⟨n,h1,h2,h3⟩:=T.reach I q J;show#[n,h1,?_,λm Z=>?_];have:=zf3 (j:=j) U h2;rw[if_neg (by lia)] at this;show this;obtain⟨I,e⟩:=h3 m Z;show B e
end
theorem zd7:∀ (n:Nat) {l:AR},l.Nodup->(∀x∈l,x<n)->l.length<=n
 | 0,l,_,h=>by
  cases l with
  | nil=>show ai _
  | cons a _=>show absurd (h a am) (dg _)
 | n+1,l,hn,h=>by
  by_cases B:n∈l
  have h1:=zd7 n (hn.erase n) λx q=>by
   grind
  grind
  have:=zd7 n hn λx q=>by
   grind
  lia
theorem zem {α:Type}[BEq α][LawfulBEq α]:∀ {l l':List α},l.Nodup->l'.Nodup->(∀x,x∈l↔x∈l')->l.Perm l'
 | [],l',_,_,h=>by
  cases l' with
  | nil=>show .nil
  | cons a _=>show absurd ((h a).mpr am) (by simp)
 | a::l,l',hn,q,h=>by grind
def St0 (q:Nat)(h:Int)(K:Nat):SetTable.Probe:=#[(lp q h K).1,SetTable.runEnd q (lp q h K).1 - (lp q h K).1,(lp q h K).1,(lp q h K).2,none]
def zjo {q:Nat}{h:Int}{T K:Nat}(e:stp q h T=St0 q h K):stp q h (T+(SetTable.runEnd q (lp q h K).1 - (lp q h K).1)+1)=St0 q h (K+1):=by change (tm q).advance (stp q h (T+_))=_;rw[zeA q h e _ (ai _),zdK q _ (Nat.sub_self _)];rfl
theorem zrG (q:Nat)(h:Int):∀K,(lp q h K).1<=q
 | 0=>dh (gf _ (fV _))
 | K+1=>dh (gf _ (fV _))
def zcL {q i:Nat}(h:i<=q):SetTable.runEnd q i<=q/\i<=SetTable.runEnd q i:=by unfold SetTable.runEnd;split <;> lia
theorem zeU{h:Int}{owner:Array (Option Nat)}(hs:owner.size=q+1):∀ (B K T:Nat),T<=10 * K->stp q h T=St0 q h K->(∀m,m<T->∃F,owner[wk q h m]?=some (some F))->
  (∃K',K<=K'/\K'<K+B/\owner[(lp q h K').1]?=some none)->
  ∃N,SetTable.layClean.free q owner B (lp q h K).1 (lp q h K).2=some (wk q h N)/\N<10 * (K+B)/\wk q h N<=q/\owner[wk q h N]?=some none/\∀m,m<N->∃F,owner[wk q h m]?=some (some F)
 | 0,K,T,_,_,_,⟨K',h1,h2,_⟩=>by lia
 | B+1,K,T,hT,eT,ad,⟨K',h1,h2,h3⟩=>by
  have as:=zrG q h K;obtain⟨r1,r2⟩:=zcL as;have r9:=znH q (lp q h K).1;have I:∀k,k<=SetTable.runEnd q (lp q h K).1 - (lp q h K).1->wk q h (T+k)=(lp q h K).1+k:=λk Y=>by change (stp q h (T+k)).j=_;rw[zeA q h eT k Y]
  have inR:∀k,k<=SetTable.runEnd q (lp q h K).1 - (lp q h K).1->∃u,owner[(lp q h K).1+k]?=some u/\owner.getD ((lp q h K).1+k) (some 0)=u:=λk Y=>by
   have a4:(lp q h K).1+k<owner.size:=by lia
   right
  change ∃N,(match (List.range (SetTable.runEnd q (lp q h K).1+1 - (lp q h K).1)).find? λk=>(owner.getD ((lp q h K).1+k) (some 0)).isNone with
   | some k=>some ((lp q h K).1+k)
   | none=>SetTable.layClean.free q owner B (lp q h (K+1)).1 (lp q h (K+1)).2)=some (wk q h N)/\_
  cases hf:(List.range (SetTable.runEnd q (lp q h K).1+1 - (lp q h K).1)).find? λk=>(owner.getD ((lp q h K).1+k) (some 0)).isNone with
  | some k=>
   obtain⟨hp,i,hi,ag,al⟩:=List.find?_eq_some_iff_getElem.mp hf;rw[cj] at ag;subst ag;rw[aA] at hi;have Y:i<=SetTable.runEnd q (lp q h K).1 - (lp q h K).1:=by lia
   obtain⟨u,J,O⟩:=inR i Y;rw[O] at hp
   have a0:u=none:=by
    cases u with
    | none=>rfl
    | some z=>show absurd hp (by simp)
   subst a0;show#[T+i,by rw[I i Y],by lia,by rw[I i Y];lia,by rw[I i Y];show J,λm hm=>?_];by_cases ac:m<T;show ad m ac;obtain⟨U,rfl⟩:∃U,m=T+U:=#[m - T,by lia];obtain⟨u,J,O⟩:=inR U (by lia);have:=al U (by lia);rw[cj,O] at this;rw[I U (by lia),J]
   cases u with
   | none=>simp at this
   | some F=>show#[F,BB]
  | none=>
   have an:=List.find?_eq_none.mp hf
   have Z:∀k,k<=SetTable.runEnd q (lp q h K).1 - (lp q h K).1->∃F,owner[(lp q h K).1+k]?=some (some F):=λk Y=>by
    obtain⟨u,J,O⟩:=inR k Y;have:=an k (aK.mpr (by lia));rw[O] at this
    cases u with
    | none=>simp at this
    | some F=>show#[F,J]
   have a5:K≠K':=λz=>by
    subst z;obtain⟨F,e⟩:=Z 0 (aI _);grind
   have ap:∀m,m<T+(SetTable.runEnd q (lp q h K).1 - (lp q h K).1)+1->∃F,owner[wk q h m]?=some (some F):=λm hm=>by
    by_cases ac:m<T;show ad m ac;obtain⟨U,rfl⟩:∃U,m=T+U:=#[m - T,by lia];rw[I U (by lia)];show Z U (by lia)
   obtain⟨N,a1,a2,a3⟩:=zeU hs B (K+1) _ (by lia) (zjo eT) ap #[K',by lia,by lia,h3];show#[N,a1,by lia,a3]
structure Own (mask:Nat)(hs:AG)(n:Nat)(owner:Array (Option Nat)):Prop where
 size:owner.size=mask+1
 lt:∀ (j i:Nat),owner[j]?=some (some i)->i<n
 inj:∀ (j j' i:Nat),owner[j]?=some (some i)->owner[j']?=some (some i)->j=j'
 reach:∀ (i:Nat) (h:Int),i<n->hs[i]?=some h->∃N,N<10 * SetTable.turns mask/\owner[wk mask h N]?=some (some i)/\∀m,m<N->∃i',owner[wk mask h m]?=some (some i')
def Own.gap{hs:AG}(o:Own q hs n owner)(hn:n<=q):∃j,j<=q/\owner[j]?=some none:=by
 show bR λJ=>?_
 have all:∀j,j<q+1->∃i,owner[j]?=some (some i):=λj F=>by
  have O:j<owner.size:=by rw[o.size];show F
  cases e:owner[j] with
  | none=>show absurd #[j,dh F,by right] J
  | some i=>show#[i,by right]
 have U:=zd7 n (l:=(List.range (q+1)).map λj=>((owner[j]?).join).getD 0) ?_ ?_;rw[ab,aA] at U;lia;show b6.mpr (List.Pairwise.imp_of_mem ?_ dS);intro a b Y Z I e;show I ?_;obtain⟨i,hi⟩:=all a (aK.mp Y);obtain⟨i',B⟩:=all b (aK.mp Z);rw[hi,B] at e;have:i=i':=e;subst this;show o.inj _ _ _ hi B;intro x hx;obtain⟨j,F,rfl⟩:=aF.mp hx;obtain⟨i,hi⟩:=all j (aK.mp F);rw[hi];show o.lt _ _ hi
def Own.step{hs:AG}{h:Int}(o:Own B hs n owner)(hr:Ring (B+1))(hn:n<=B)(hh:hs[n]?=some h) :
  ∃j,SetTable.layClean.free B owner (SetTable.turns B) (SetTable.bits h % (B+1)) (SetTable.bits h)=some j/\Own B hs (n+1) (owner.setIfInBounds j (some n)):=by
 obtain⟨g,hg,eg⟩:=o.gap hn;have hb:(lp B h 13).1<B+1:=gg (zrG B h 13);obtain⟨k,hk,e⟩:=hr.reach hb (gg hg);obtain⟨N,h1,h2,h3,h4,h5⟩:=zeU o.size (SetTable.turns B) 0 0 (ai _) (h:=h) BB (λm Y=>absurd Y (dg _)) #[13+k,aI _,by unfold SetTable.turns;lia,by rw[zjv,e];show eg];have hj:wk B h N<owner.size:=by rw[o.size];lia
 have I:(owner.setIfInBounds (wk B h N) (some n))[wk B h N]?=some (some n):=by right
 have F:∀j,j≠wk B h N->(owner.setIfInBounds (wk B h N) (some n))[j]?=owner[j]?:=λj ac=>by rw[Array.getElem?_setIfInBounds];rw[if_neg (λz=>ac z.symm)]
 have J:∀j i,owner[j]?=some (some i)->(owner.setIfInBounds (wk B h N) (some n))[j]?=some (some i):=λj i e=>by
  by_cases q:j=wk B h N;rw[q,h4] at e;cases e;rw[F j q];show e
 show#[wk B h N,h1,by simp[o.size],λj i e=>?_,λj j' i e U=>?_,λi h' hi O=>?_];by_cases q:j=wk B h N;right;rw[F j q] at e;have:=o.lt _ _ e;lia;by_cases q:j=wk B h N;subst q;rw[I] at e;cases e;by_cases Z:j'=wk B h N;show Z.symm;rw[F j' Z] at U;have:=o.lt _ _ U;lia;rw[F j q] at e;by_cases Z:j'=wk B h N;subst Z;rw[I] at U;cases U;have:=o.lt _ _ e;lia;rw[F j' Z] at U;show o.inj _ _ _ e U;by_cases q:i=n;subst q;rw[hh] at O;cases O;show#[N,by lia,I,λm Y=>?_];obtain⟨i',e⟩:=h5 m Y;show#[i',J _ _ e];obtain⟨M,m1,m2,m3⟩:=o.reach i h' (by lia) O;show#[M,m1,J _ _ m2,λm Y=>?_];obtain⟨i',e⟩:=m3 m Y;show#[i',J _ _ e]
def zl4 (q:Nat)(hs:AG):Own q hs 0 (Array.replicate (q+1) none):=by
 have B:∀j i,(Array.replicate (q+1) (none:Option Nat))[j]?≠some (some i):=λj i e=>by
  rw[Array.getElem?_replicate] at e;grind
 show#[by simp,λj i e=>absurd e (B j i),λj F i e=>absurd e (B j i),λi h hi=>absurd hi (dg _)]
theorem zgO(J:Ring (B+1)):∀ (zx q:AG) (owner:Array (Option Nat)),(q++zx).length<=B->Own B (q++zx) q.length owner->
  ∃F,zx.foldl (λ(acc:Option (Array (Option Nat)×Nat)) h=>acc.bind λx=>(SetTable.layClean.free B x.1 (SetTable.turns B) (SetTable.bits h % (B+1)) (SetTable.bits h)).bind λj=>some (x.1.setIfInBounds j (some x.2),x.2+1)) (some (owner,q.length))=some (F,(q++zx).length)/\Own B (q++zx) (q++zx).length F
 | [],q,owner,_,o=>by right
 | h::zx,q,owner,I,o=>by
  have U:q.length+(zx.length+1)<=B:=by rw[aj,aJ] at I;show I
  obtain⟨j,e,o'⟩:=o.step J (by lia) (h:=h) (by simp);have O:q++h::zx=(q++[h])++zx:=by rw[aE];rfl
  have Y:q.length+1=(q++[h]).length:=by rw[aj];rfl
  rw[O,Y] at o';obtain⟨F,Z,f2⟩:=zgO J zx (q++[h]) _ (by rw[<- O];show I) o';grind
def ze2(B:Ring (q+1))(hs:Array Int)(F:hs.size<=q):∃owner,SetTable.layClean q hs=some owner/\Own q hs.toList hs.size owner:=by
 obtain⟨owner,h1,h2⟩:=zgO B hs.toList [] (Array.replicate (q+1) none) (by right) (zl4 q _);rw[List.nil_append,aG] at h2;show#[owner,?_,h2];unfold SetTable.layClean;right
def yX (q:Nat)(owner:Array (Option Nat)):List (Nat×Nat):=(List.range (q+1)).filterMap λj=>(owner.getD j none).map (j,·)
def xB{hs:AG}(o:Own q hs n owner):(j,i)∈yX q owner↔owner[j]?=some (some i):=by
 unfold yX;rw[dw];constructor;rintro⟨O,F,e⟩;obtain⟨U,I,J⟩:=aH.mp e;cases J;have B:j<owner.size:=by rw[o.size];show aK.mp F
 right;intro e;obtain⟨B,I⟩:=cT.mp e;show#[j,aK.mpr (by rw[<- o.size];show B),?_];right
def zjs (q:Nat)(owner:Array (Option Nat)):(yX q owner).Pairwise λa b=>a.1<b.1:=by
 unfold yX;show List.pairwise_filterMap.mpr ((List.pairwise_lt_range).imp ?_);right
def zjr{hs:AG}(o:Own q hs hs.length owner):((yX q owner).map (·.2)).Perm (List.range hs.length):=by
 show zem ?_ dS λi=>?_;show b6.mpr (List.Pairwise.imp_of_mem ?_ (zjs q owner));intro a b B F I e;have h1:=(xB o).mp B;have h2:=(xB o).mp F;rw[e] at h1;have:=o.inj _ _ _ h1 h2;lia;rw[aK];constructor;intro h;obtain⟨⟨j,J⟩,h1,rfl⟩:=aF.mp h;show o.lt _ _ ((xB o).mp h1);intro h;obtain⟨N,_,e,_⟩:=o.reach i hs[i] h (ak h);show aF.mpr #[(_,i),(xB o).mpr e,BB]
def zcI {α:Type}(l:List α):(List.range l.length).filterMap (λi=>l[i]?)=l:=by
 have:∀ (n:Nat) (l:List α),n=l.length->(List.range n).filterMap (λi=>l[i]?)=l:=by
  intro n
  induction n with
  | zero=>intro l h;cases l with | nil=>rfl | cons _ _=>simp at h
  | succ n q=>
   intro l h
   cases l with
   | nil=>simp at h
   | cons a l=>
    rw[List.range_succ_eq_map,cr];change a::_=_;rw[fR];congr 1;show q l (by simpa using h)
 show this _ l BB
section
variable {prog:Aa}{w:Ab}{t:SetTable}{es:Array (Int×Value)}{xs:List (List Key×Addr)}
def Tb.laid(T:Tb prog w t es xs)(hm:zao B)(hl:xs.length<=B)(O Y:Nat) :
  ∃t' F ac,SetTable.laid B O Y t.led true (es.map (·.1))=some (t',F)/\(F.filterMap (es[·]?)).size=es.size/\Tb prog w t' (F.filterMap (es[·]?)) ac/\ac.Perm xs/\t'.mask=B:=by
 obtain⟨owner,e,o⟩:=ze2 hm.ring (es.map (·.1)) (by rw[Array.size_map,T.size];show hl);have hh:(es.map (·.1)).toList=xs.map λq=>(tk prog w).hash q.1:=by rw[gC,T.eq,aO];rfl
 have hsz:(es.map (·.1)).size=xs.length:=by rw[Array.size_map,T.size]
 rw[hh,hsz] at o;have o':Own B (xs.map λq=>(tk prog w).hash q.1) (xs.map λq=>(tk prog w).hash q.1).length owner:=by rw[ab];show o
 have hp:=zjr o';rw[ab] at hp;have ad:((((yX B owner).map (·.2)).toArray).filterMap (es[·]?)).toList=((yX B owner).map (·.2)).filterMap (es.toList[·]?):=by right
 have J:(((yX B owner).map (·.2)).filterMap (xs[·]?)).Perm xs:=by have:=hp.filterMap (xs[·]?);rw[zcI] at this;show this
 have ag:((yX B owner).map (·.2)).filterMap (es.toList[·]?)=(((yX B owner).map (·.2)).filterMap (xs[·]?)).map λq=>((tk prog w).hash q.1,Value.ref q.2):=by rw[List.map_filterMap];congr 1;funext i;rw[T.eq,aC]
 have Z:∀ {c:Nat} {q:List Key×Addr},(((yX B owner).map (·.2)).filterMap (xs[·]?))[c]?=some q->∃j i,(yX B owner)[c]?=some (j,i)/\xs[i]?=some q:=by
  have as:∀ (l:List (Nat×Nat)),(∀p∈l,p.2<xs.length)->∀ {c:Nat} {q:List Key×Addr},((l.map (·.2)).filterMap (xs[·]?))[c]?=some q->∃j i,l[c]?=some (j,i)/\xs[i]?=some q:=by
   intro l
   induction l with
   | nil=>intro _ c q h;simp at h
   | cons p l ih=>
    intro al c q h;have a0:=al p am;rw[aD,cr,ak a0] at h
    cases c with
    | zero=>
     show#[p.1,p.2,BB,?_];right
    | succ c=>show ih (λp' a1=>al p' (ar _ a1)) (by simpa using h)
  intro c q h;show as _ (λp hp=>?_) h;obtain⟨j,i⟩:=p;show o.lt _ _ ((xB o).mp hp)
 have I:∀ {c j i:Nat},(yX B owner)[c]?=some (j,i)->(((yX B owner).map (·.1)).toArray)[c]?=some j:=λ{c j i} h=>by right
 show#[_,_,((yX B owner).map (·.2)).filterMap (xs[·]?),by unfold SetTable.laid;rw[e];rfl,?_,#[?_,?_,BB,?_,?_,?_,hm,?_,BB,by show T.led,?_],J,BB];change ((((yX B owner).map (·.2)).toArray).filterMap (es[·]?)).size=es.size;rw[<- aG,ad,ag,ab,J.length_eq,T.size];show ad.trans ag;rw[(J.map (·.1)).nodup_iff];show T.nd;intro i j an hj
 have ap:j<(yX B owner).length:=by
  have:(((yX B owner).map (·.1)).toArray).size=(yX B owner).length:=by simp
  rw[<- this];show hj
 have a2:i<(yX B owner).length:=Nat.lt_trans an ap;have:=bv.mp (zjs B owner) i j a2 ap an;change (((yX B owner).map (·.1)).toArray).getD i 0<(((yX B owner).map (·.1)).toArray).getD j 0;right;intro c j hc;have U:((yX B owner).map (·.1))[c]?=some j:=by rw[zc1] at hc;show hc
 rw[aC] at U;obtain⟨⟨j',i'⟩,h1,rfl⟩:=aH.mp U;have h2:=(xB o).mp (aM h1);have:=(cT.mp h2).1;rw[o.size] at this;change j'<=B;lia;change (((yX B owner).map (·.1)).toArray).size=_;have h1:(((yX B owner).map (·.1)).toArray).size=(yX B owner).length:=by simp
 rw[h1,J.length_eq];have:=hp.length_eq;grind;rw[J.length_eq];show hl;intro c q hq;obtain⟨j,i,h1,h2⟩:=Z hq;have hi:=(ah.mp h2).1;obtain⟨N,n1,n2,n3⟩:=o.reach i ((tk prog w).hash q.1) hi (by right);have hj:=o.inj _ _ _ ((xB o).mp (aM h1)) n2;subst hj;show#[N,n1,I h1,λm a3=>?_];obtain⟨i',e'⟩:=n3 m a3;obtain⟨c',U,a4⟩:=ck.mp ((xB o).mpr e');show#[c',I (by rw[ak U,a4])]
variable {A:Ae}{E:AA}{s:AZ}
def zb4 (prog:Aa)(w:Ab)(h:Heap)(a:Addr)(xs:List (List Key×Addr)):Prop:=∃o es q t,h.get? a=some o/\o.ExactSet/\o.data = .set es q t/\Tb prog w t es xs/\xs.length * 5<t.mask * 3
def zbN{ns:AG}(Z:(tk prog w).is s.heap (ns.map Sum.inl) b)(h:Q true s):Ag prog w A (hashByValue 8 (.ref b)) Q E s:=by
 have I:IsTupleKey (zY prog w) s.heap (ns.map Sum.inl) b:=Z;have hT:=I.typeIs;obtain⟨o,items,n,ho,_,hd,hi⟩:=I
 have B:∀ {ns:AG} {vs:AN},ItemsAre (zY prog w) (ns.map Sum.inl) vs->∀v∈vs,∃i t,v=Value.int i t:=by
  intro ns
  induction ns with
  | nil=>intro vs h v J;cases h;simp at J
  | cons n ns ih=>
   intro vs h v J
   cases h with
   | cons h1 h2=>
    rcases ay.mp J with rfl | J
    ·have O:zf8 (Sum.inl n) v=true:=h1;rcases zX O with ⟨i,t,_,e⟩ | ⟨x,t,z,_⟩
     all_goals right
    show ih h2 v J
 unfold hashByValue;show aa (wpAny_specialOf hT F.slot_tuple_hash.lookup ?_);dsimp only;show aa (cJ ho hd ?_);show aa ?_;change wpAny _ _ (forIn items _ _) _ _ s;rw[<- Array.forIn_toList];show gD _ (λzx r s'=>r.1=none/\s'=s/\∀v∈zx,∃i t,v=Value.int i t) _ ?_ ?_ _ _ #[BB,BB,B hi];rintro v zx r s' ⟨U,rfl,q⟩;obtain⟨i,t,rfl⟩:=q v am;have e:hashByValue 7 (Value.int i t)=pure true:=rfl;rw[e];show aa (af ?_);simp only[gx,aV,if_false];show af #[BB,BB,λu Y=>q u (ar _ Y)];rintro⟨r1,r2⟩ s' ⟨U,rfl,_⟩;simp only at U;subst U;show af h
def zdz{h:Heap}{a:Addr}{o:Obj}{es:Array (Int×Value)}{es':Array (Int×Value)}(F:h.get? a=some o)(B:o.data = .set es q t) :
  (h.update a (Obj.putSet es' t')).get? a=some { o with data:=.set es' (q+1) t' }:=by
 have:=bu (Obj.putSet es' t') F (by rw[putSet_of es' t' B];rfl);rw[putSet_of es' t' B] at this;show this
def zmu(T:Tb prog w t es xs)(ho:s.heap.get? a=some o)(hx:o.ExactSet)(hd:o.data = .set es ep t)(hw:SetTable.sizeAbove wanted=mask+1)(hm:zao mask)(hl:xs.length * 5<mask * 3)(h:∀h' xs',Heap.SameBut a s.heap h'->zb4 prog w h' a xs'->xs'.Perm xs->Q () { s with heap:=h' }):Ag prog w A (setRelay a wanted) Q E s:=by
 unfold setRelay;show aa (bF ho hd T.fits ?_);dsimp only;have:=hm.le;rw[if_neg (by rw[hw,ce];lia)];obtain⟨t',order,xs',e,hsz,T',hp,hmk⟩:=T.laid hm (by lia) t.finger (t.movedTo mask);have e':t.relaid (es.map (·.1)) wanted=some (t',order):=by unfold SetTable.relaid;rw[hw,T.plain];show e
 have core:∀ {R:Array (Int×Value)×SetTable->AZ->Prop},R (order.filterMap (es[·]?),t') s->Ag prog w A (do
   let some (t,order):=t.relaid (es.map (·.1)) wanted | unsupported "internal:set-table-without-room"
   let es':=order.filterMap (es[·]?)
   if es'.size != es.size then unsupported "internal:set-table-lost-an-element"
   pure (es',t)) R E s:=λ{R} hR=>by
  rw[e'];dsimp only;rw[hsz];simp only[ge,aV,if_false]
  first | show af hR | show aa (by grind)
 show aa (core ?_);show wpAny_storeSet_of ho hd ?_ (by rw[hsz,T.size,ce];lia);show h _ xs' (bq _ a _) #[_,_,_,t',zdz ho hd,hx,BB,T',?_] hp;rw[hp.length_eq,hmk];show hl
def Tb.out(T:Tb prog w t es xs)(Z:N<10 * SetTable.turns t.mask)(J:∀i:Nat,t.place[i]?≠some (wk t.mask ((tk prog w).hash k) N))(O:zeH t xs ((tk prog w).hash k) k N):k∉xs.map (·.1):=λz=>by
 obtain⟨q,U,B⟩:=aF.mp z;obtain⟨i,hi⟩:=List.mem_iff_getElem?.mp U;obtain⟨n,h1,h2,I⟩:=T.reach i q hi;rw[B] at h2 I;rcases cL N n with z | z | z;obtain⟨F,e⟩:=I N z;show J F e;right;obtain⟨F,q',Y,e2,e3⟩:=O n z
 have:F=i:=by
  have a1:=za2 T.ris Y;have a2:=za2 T.ris h2;right
 grind
def zqW{ns:AG}(hu:A.units<cLine)(S:zb4 prog w s.heap a xs)(hk:(tk prog w).is s.heap (ns.map Sum.inl) b)(a0:∀q∈xs,(tk prog w).is s.heap q.1 q.2)(hn:xs.length<300)(h:∀r h' n Y,Heap.SameBut a s.heap h'->zb4 prog w h' a Y->((ns.map Sum.inl)∈xs.map (·.1)->Y=xs)->((ns.map Sum.inl)∉xs.map (·.1)->Y.Perm ((ns.map Sum.inl,b)::xs))->Q r { s with heap:=h',toks:=n }) :
  Ag prog w A (setAdd a (.ref b)) Q E s:=by
 obtain⟨o,es,ep,t,ho,hx,hd,T,B⟩:=S;unfold setAdd;show bS (aa ((tk prog w).pyHash hu hk ?_));unfold setAddHashed;show bS ?_;rw[show (100000:Nat)=99999+1 from rfl];unfold setAddHashedIn;show aa (bF (s:={ s with toks:=s.toks+(tk prog w).draws (ns.map Sum.inl) }) ho hd T.fits ?_);dsimp only;rw[show byScan (.ref b) es=false from rfl];simp only[aV,if_false];unfold setSearch;have hm:=T.msk.le;have ba:t.fill=xs.length:=by unfold SetTable.fill;rw[T.sz,T.dm];rfl
 show aa (zfq (s:={ s with toks:=s.toks+(tk prog w).draws (ns.map Sum.inl) }) hu T hk a0 ho hd ?found ?free 100000 0 none BB (by unfold SetTable.turns;lia) (aI _) (λm hm=>absurd hm (dg _)))
 case found=>
  intro r i q hq a1 _;dsimp only;have ag:(ns.map Sum.inl)∈xs.map (·.1):=aF.mpr #[q,aM hq,a1];show af (h false s.heap _ xs (Heap.SameBut.refl a s.heap) #[o,es,ep,t,ho,hx,hd,T,B] (λ_=>rfl) (λz=>absurd ag z))
 case free=>
  intro N hN he hp;have Z:=T.out hN he hp;dsimp only;show aa (bF (s:={ s with toks:=s.toks+(tk prog w).draws (ns.map Sum.inl) }) ho hd T.fits ?_);dsimp only
  have al:wk t.mask ((tk prog w).hash (ns.map Sum.inl)) N<=t.mask:=by
   have:∀ (h:Int) (n:Nat),wk t.mask h n<=t.mask/\(stp t.mask h n).j+(stp t.mask h n).more<=t.mask:=by
    intro h n
    induction n with
    | zero=>
     have h0:SetTable.bits h % (t.mask+1)<=t.mask:=dh (gf _ (fV _));obtain⟨r1,r2⟩:=zcL h0;show#[h0,?_];change SetTable.bits h % (t.mask+1)+(SetTable.runEnd t.mask (SetTable.bits h % (t.mask+1)) - SetTable.bits h % (t.mask+1))<=t.mask;lia
    | succ n ih=>
     change ((tm t.mask).advance (stp t.mask h n)).j<=t.mask/\((tm t.mask).advance (stp t.mask h n)).j+((tm t.mask).advance (stp t.mask h n)).more<=t.mask;by_cases a2:0<(stp t.mask h n).more;rw[zgB _ _ a2];grind;rw[zdK _ _ (by lia)];have h0:((stp t.mask h n).i * 5+1+(stp t.mask h n).perturb / 32) % (t.mask+1)<=t.mask:=dh (gf _ (fV _));obtain⟨r1,r2⟩:=zcL h0;grind
   show (this _ _).1
  obtain⟨a3,T1,ac⟩:=T.put (b:=b) hN he hp Z (by lia) al;generalize an:t.put (wk t.mask ((tk prog w).hash (ns.map Sum.inl)) N)=tp at T1;obtain⟨J,p⟩:=tp;dsimp only at T1 ⊢
  have ap:J.mask=t.mask:=by
   have:J=(t.put (wk t.mask ((tk prog w).hash (ns.map Sum.inl)) N)).1:=by rw[an]
   rw[this];rfl
  rw[T1.plain];simp only[if_true];show aa (zbN (s:={ s with toks:=s.toks+(tk prog w).draws (ns.map Sum.inl) }) hk ?_);simp only[if_true];have ad:=ac.length_eq;rw[aJ] at ad;show aa (wpAny_storeSet_of (s:={ s with toks:=s.toks+(tk prog w).draws (ns.map Sum.inl) }) ho hd ?_ (by rw[T1.size,ce];lia));have g1:=zdz (es':=SetTable.insertAt es p ((tk prog w).hash (ns.map Sum.inl),.ref b)) (t':=J) ho hd;have as:=bq s.heap a (Obj.putSet (SetTable.insertAt es p ((tk prog w).hash (ns.map Sum.inl),.ref b)) J);simp only[Bool.not_false,Bool.true_and];have O:J.fill=xs.length+1:=by unfold SetTable.fill;rw[T1.sz,T1.dm,ad];rfl
  by_cases U:J.tooFull=true
  ·rw[if_pos U];unfold SetTable.tooFull at U;rw[O,ap] at U;have I:=bK U;rw[T.size]
   have next:∃F,SetTable.sizeAbove (SetTable.grown (xs.length+1))=F+1/\zao F/\(xs.length+1) * 5<F * 3:=by
    rcases T.msk with e | e | e | e;rw[e] at I B;have:xs.length=4:=by lia
    rw[this];show#[31,by ext,.inr (.inl rfl),by lia];rw[e] at I B;have:xs.length=18:=by lia
    rw[this];show#[127,by ext,.inr (.inr (.inl rfl)),by lia];rw[e] at I B;have:xs.length=76:=by lia
    rw[this];show#[511,by ext,.inr (.inr (.inr rfl)),by lia];rw[e] at I B;lia
   obtain⟨F,m1,m2,m3⟩:=next;show aa (zmu (s:={ s with heap:=s.heap.update a (Obj.putSet (SetTable.insertAt es p ((tk prog w).hash (ns.map Sum.inl),.ref b)) J),toks:=s.toks+(tk prog w).draws (ns.map Sum.inl) }) T1 g1 hx BB m1 m2 (by rw[ad];show m3) λh' a4 a5 S2 a7=>?_);show af (h true h' _ a4 (as.trans a5) S2 (λz=>absurd z Z) λ_=>a7.trans ac)
  rw[if_neg U];unfold SetTable.tooFull at U;rw[O,ap] at U;have I:¬ ((xs.length+1) * 5 ≥ t.mask * 3):=λz=>U (aY z);show af (h true _ _ a3 as #[_,_,_,J,g1,hx,BB,T1,?_] (λz=>absurd z Z) λ_=>ac);right
end
open PySem.W
def zQ:Slot "set_iterator" "__next__" "set_iterator.__next__" :=
 .of (owner := "set_iterator") (n := "__next__") (by rw[typeLookup_type,builtinLookup_eq_fast];kernel_rfl) (by decide +kernel) (by decide +kernel) (by decide +kernel)
  (by first | show .inl (by decide +kernel) | show .inr (by decide +kernel)) (by rw[isSubtype_type];kernel_rfl)
def uc:Slot "set_iterator" "__iter__" "set_iterator.__iter__" :=
 .of (owner := "set_iterator") (n := "__iter__") (by rw[typeLookup_type,builtinLookup_eq_fast];kernel_rfl) (by decide +kernel) (by decide +kernel) (by decide +kernel)
  (by first | show .inl (by decide +kernel) | show .inr (by decide +kernel)) (by rw[isSubtype_type];kernel_rfl)
def xy:entryFor table "set_iterator.__next__" = some Builtin.«set_iterator.__next__»:=entryFor_of_tree (by kernel_rfl)
def zaF:entryFor table "set_iterator.__iter__" = some Builtin.«dict_keyiterator.__iter__»:=entryFor_alias (id' := "dict_keyiterator.__iter__") (by kernel_rfl) BB (by decide +kernel) (by kernel_rfl)
def zc2:entryFor table "set.__iter__" = some Builtin.«frozenset.__iter__»:=entryFor_alias (id' := "frozenset.__iter__") (by kernel_rfl) BB (by decide +kernel) (by kernel_rfl)
def xV (a:Value):argsOk "set_iterator.__next__" #[[a],[]]:=by unfold argsOk;kernel_rfl
def zbb (a:Value):argsOk "set_iterator.__iter__" #[[a],[]]:=by unfold argsOk;kernel_rfl
theorem ziY {α:Type}(next:Nat->Nat):∀ (n k:Nat) (left:List α) (out:Array α),left.length=n->(pickOrder.go next n k left out).toList.Perm (out.toList++left)
 | 0,k,left,out,h=>by
  have:left=[]:=aU h;subst this;change out.toList.Perm (out.toList++[]);right
 | n+1,k,left,out,h=>by
  have q:next k % left.length<left.length:=gf _ (by lia)
  change (match left[next k % left.length]? with
   | some x=>pickOrder.go next n (k+1) (left.eraseIdx (next k % left.length)) (out.push x)
   | none=>out).toList.Perm _
  rw[ak q];show (ziY next n (k+1) _ _ (by grind)).trans ?_;rw[bM,aE];show eQ _ ?_;have e:left=left.take (next k % left.length)++left[next k % left.length]::left.drop (next k % left.length+1):=by right
  rw[List.eraseIdx_eq_take_drop_succ];show List.Perm.trans ?_ (List.Perm.of_eq e.symm);rw[List.singleton_append];show List.perm_middle.symm
def zfj {α:Type}(next:Nat->Nat)(xs:Array α):(pickOrder next xs).toList.Perm xs.toList:=by
 change (pickOrder.go next xs.size 0 xs.toList #v[]).toList.Perm _;have:=ziY next xs.size 0 xs.toList #v[] (aG);grind
section
variable {prog:Aa}{w:Ab}{t:SetTable}{es:Array (Int×Value)}{xs:List (List Key×Addr)}{A:Ae}{E:AA}{s:AZ}
def zl3 (w:Ab)(a:Addr)(q:Nat)(es:Array (Int×Value)):Array (Int×Value):=if w.params.followText "set-order" then pickOrder (w.params.setOrder a q) es else es
def zfh (a:Addr)(q:Nat):(zl3 w a q es).toList.Perm es.toList:=by
 unfold zl3;split;show zfj _ _;right
def yp (h:Heap)(B a:Addr)(q i n F:Nat):Prop:=∃o,h.get? B=some o/\o.cls = .type "set_iterator" /\ o.data = .fields #v[.int q 0,.int i 0,.ref a,.int n 0,.int F 0]
def yp.typeIs(x:yp s.heap B a q i n F):s.TypeIs (.ref B) "set_iterator" := let ⟨o,ho,hc,_⟩:=x;#[o,ho,hc]
structure SetIs (prog:Aa)(w:Ab)(h:Heap)(a:Addr)(es:Array (Int×Value))(ep:Nat)(t:SetTable)(xs:List (List Key×Addr)):Prop where
 ob:∃o,h.get? a=some o/\o.ExactSet/\o.data = .set es ep t
 tb:Tb prog w t es xs
def zjM{e:Int×Value}(hit:yp s.heap it a slot i es.size ep)(S:SetIs prog w s.heap a es ep t xs)(hs:w.params.followText "set-order" = true\/SetTable.below t.place slot=i)(hx:(zl3 w a ep es)[i]?=some e)(hQ:∀h' slot',yp h' it a slot' (i+1) es.size ep->(w.params.followText "set-order" = true\/SetTable.below t.place slot'=i+1)->Heap.SameBut it s.heap h'->Q (some e.2) { s with heap:=h' }):Ag prog w A (pyNext (.ref it)) Q E s:=by
 obtain⟨o,ho,hc,hd⟩:=id hit;obtain⟨⟨os,hos,_,hds⟩,T⟩:=S;have hf:=T.fits;unfold pyNext
 show aa (cG (wpAny_callSpecial?_slot (name:=Str.ofString "__next__") hit.typeIs zQ
  (aW zQ hit.typeIs xy ?_ (xV _))))
 show aa (af ?_);show aa (fZ ho hd ?_);dsimp only;show aa (fM hos hds hf ?_);rw[if_neg (by simp)]
 have upd2:∀slot':Nat,∃h',yp h' it a slot' (i+1) es.size ep/\Heap.SameBut it s.heap h'/\∀ {A':Ae} {E':AA} {α:Type} {f:Sem α} {R:α->AZ->Prop},Ag prog w A' f R E' { s with heap:=h' }->Ag prog w A' (do setField (.ref it) 0 (rawInt slot');setField (.ref it) 1 (rawInt ((i:Int)+1));f) R E' s:=by
  intro slot';have h1:(s.heap.update it (Obj.mapFields (·.setIfInBounds 0 (rawInt slot')))).get? it=some (Obj.mapFields (·.setIfInBounds 0 (rawInt slot')) o):=bu _ ho (dC (ci hd _));have hd1:(Obj.mapFields (·.setIfInBounds 0 (rawInt slot')) o).data = .fields #v[.int slot' 0,.int i 0,.ref a,.int es.size 0,.int ep 0]:=by rw[ci hd];simp[rawInt]
  show#[(s.heap.update it (Obj.mapFields (·.setIfInBounds 0 (rawInt slot')))).update it (Obj.mapFields (·.setIfInBounds 1 (rawInt ((i:Int)+1)))),#[_,bu _ h1 (dC (ci hd1 _)),?_,?_],(bq ..).trans (bq ..),λ{A' E' α f R} hR=>?_];rw[eE,eE];show hc;rw[ci hd1];simp[rawInt];show aa (bJ ho hd (by simp) (aa (bJ (s:={ s with heap:=s.heap.update it (Obj.mapFields (·.setIfInBounds 0 (rawInt slot'))) }) h1 hd1 (by simp) hR)))
 unfold setNext
 cases hb:w.params.followText "set-order" with
 | true=>
  have hx':(pickOrder (w.params.setOrder a ep) es)[i]?=some e:=by
   unfold zl3 at hx;right
  obtain⟨h',hi',sb',step⟩:=upd2 slot;show aa ?_;show aa (bF hos hds hf ?_);dsimp only;unfold setsByText;show aa (aa (bU (af ?_)));rw[show (model prog w).w=w from rfl,hb];simp only[if_true];rw[if_neg (by simp)];unfold setWalk;show aa ?_;show aa (bF hos hds hf ?_);dsimp only;unfold setsByText;show aa (aa (bU (af ?_)));rw[show (model prog w).w=w from rfl,hb];simp only[if_true];show aa (bU (af ?_));show af ?_;rw[show (model prog w).w=w from rfl];simp only[aQ];rw[hx'];dsimp only[Option.map];show step (af #[_,BB,af (hQ h' slot hi' (.inl hb) sb')])
 | false=>
  have hx':es[i]?=some e:=by
   unfold zl3 at hx;grind
  have hsl:SetTable.below t.place slot=i:=by grind
  have hi:i<es.size:=(cT.mp hx').1;have hpl:t.place[i]?=some (t.place.getD i 0):=zfX (by rw[T.sz,<- T.size];show hi);obtain⟨h',hi',sb',step⟩:=upd2 (t.place.getD i 0+1);show aa ?_;show aa (bF hos hds hf ?_);dsimp only;unfold setsByText;show aa (aa (bU (af ?_)));rw[show (model prog w).w=w from rfl,hb];simp only[aV,if_false];rw[if_neg (by change ¬ ((!t.plain&&decide (es.size > 1))=true);rw[T.plain];simp)];show aa ?_;change wpAny _ _ (if (!t.led&&!es.isEmpty)=true then unsupported "set:maker-not-led" else pure ()) _ _ s;rw[if_neg (by rw[T.led,hb];simp)];show af ?_;simp only[aQ];rw[hsl,hx',hpl];show af ?_;dsimp only;show step (af #[_,BB,af (hQ h' _ hi' (.inr ?_) sb')]);obtain⟨b1,b2,b3⟩:=xW T.ris (t.place.getD i 0+1);have hi2:=(xN hpl).1;rcases cL (SetTable.below t.place (t.place.getD i 0+1)) (i+1) with z | z | z;have:=b3 i (by lia) hi2;lia;show z;have h1:=b2 (i+1) z;have h2:=T.ris i (i+1) (eW i) (by lia);lia
def zlZ(hh:A.handled=none)(B:yp s.heap J a q es.size es.size O)(S:SetIs prog w s.heap a es O t xs)(hs:w.params.followText "set-order" = true\/SetTable.below t.place q=es.size)(hQ:∀h',Heap.ExtBut J s.heap h'->Q none { s with heap:=h' }):Ag prog w A (pyNext (.ref J)) Q E s:=by
 obtain⟨o,U,hc,Y⟩:=id B;obtain⟨⟨os,F,_,I⟩,T⟩:=S;have Z:=T.fits;unfold pyNext
 show aa (cG (wpAny_callSpecial?_slot (name:=Str.ofString "__next__") B.typeIs zQ
  (aW zQ B.typeIs xy ?_ (xV _))))
 show aa (af ?_);show aa (fZ U Y ?_);dsimp only;show aa (fM F I Z ?_);rw[if_neg (by simp)];unfold setNext;show aa ?_;show aa (bF F I Z ?_);dsimp only;unfold setsByText;show aa (aa (bU (af ?_)))
 cases hb:w.params.followText "set-order" with
 | true=>
  rw[show (model prog w).w=w from rfl,hb];simp only[if_true];rw[if_neg (by simp)];unfold setWalk;show aa ?_;show aa (bF F I Z ?_);dsimp only;unfold setsByText;show aa (aa (bU (af ?_)));rw[show (model prog w).w=w from rfl,hb];simp only[if_true];show aa (bU (af ?_));show af ?_;rw[show (model prog w).w=w from rfl];simp only[aQ];have hn:(pickOrder (w.params.setOrder a O) es)[es.size]?=none:=by rw[zc1];show eS ?_;rw[(zfj _ es).length_eq,aG];show ai _
  rw[hn];dsimp only[Option.map];show aa (bJ U Y (by simp) ?_);show wpAny _ _ (newExc (.type "StopIteration") [] >>= _) _ _ _;show aa ?_;simp only[newExc,newTuple];show aa (bn ?_ (by size_fits));show aa (m:=firstArgMember _ _) (wpAny_of_eq (a:=Value.none) (by first | rfl | (simp only[firstArgMember];rfl)) ?_);show bn ?_ (by size_fits);simp only[raiseNew];show aa (gr ?_);rw[show A.in1.handled=none from hh];show aa (af (wpAny_throw ?_));show aa (cU (T := "StopIteration") (b:=true) #[_,av _ BB,BB] dP ?_);show af (hQ _ (((bq ..).extBut.push _).push _))
 | false=>
  have ac:SetTable.below t.place q=es.size:=by grind
  rw[show (model prog w).w=w from rfl,hb];simp only[aV,if_false];rw[if_neg (by change ¬ ((!t.plain&&decide (es.size > 1))=true);rw[T.plain];simp)];show aa ?_;change wpAny _ _ (if (!t.led&&!es.isEmpty)=true then unsupported "set:maker-not-led" else pure ()) _ _ s;rw[if_neg (by rw[T.led,hb];simp)];show af ?_;simp only[aQ];rw[ac,Array.getElem?_eq_none (ai _)];show af ?_;dsimp only;show aa (bJ U Y (by simp) ?_);show wpAny _ _ (newExc (.type "StopIteration") [] >>= _) _ _ _;show aa ?_;simp only[newExc,newTuple];show aa (bn ?_ (by size_fits));show aa (m:=firstArgMember _ _) (wpAny_of_eq (a:=Value.none) (by first | rfl | (simp only[firstArgMember];rfl)) ?_);show bn ?_ (by size_fits);simp only[raiseNew];show aa (gr ?_);rw[show A.in1.handled=none from hh];show aa (af (wpAny_throw ?_));show aa (cU (T := "StopIteration") (b:=true) #[_,av _ BB,BB] dP ?_);show af (hQ _ (((bq ..).extBut.push _).push _))
def zjd(q:yp s.heap F a B i n I)(h:Q (.ref F) s):Ag prog w A (pyIter (.ref F)) Q E s:=by show gh q.typeIs uc (aW uc q.typeIs zaF ?_ (zbb _));change wpAny _ _ (ret (.ref F)) _ _ s;show af #[_,BB,"set_iterator",_,q.typeIs,zQ.lookup,h]
def SetIs.typeIs(S:SetIs prog w s.heap a es q t xs):s.TypeIs (.ref a) "set" := let ⟨o,ho,hc,_⟩:=S.ob;#[o,ho,hc.1]
def zly(S:SetIs prog w s.heap a es J t xs)(h:Q (.ref s.heap.objs.size) { s with heap:=s.heap.push { cls:=.type "set_iterator",data:=.fields #v[.int 0 0,.int 0 0,.ref a,.int es.size 0,.int J 0] } }):Ag prog w A (pyIter (.ref a)) Q E s:=by
 have O:=S.typeIs;obtain⟨⟨U,q,Y,B⟩,T⟩:=S;have I:=T.fits;show gh O F.slot_set_iter (aW F.slot_set_iter O zc2 ?_ (F.args_set_iter_1 _));unfold Builtin.«frozenset.__iter__»;show aa (m:=Builtin.Frozenset.slot0 "__iter__" #[[.ref a],[]]) (af ?_);show aa ?_;unfold Builtin.Frozenset.sizeOf;show aa (fM q B I (af ?_));show aa ?_;unfold setDrawn;show aa (bF q B I ?_);dsimp only;unfold setsByText;show aa (aa (bU (af ?_)));show af ?_;rw[if_neg (by change ¬ ((!_&&(!t.plain&&decide (es.size > 1)))=true);rw[T.plain];simp)];show aa (af ?_);show aa (wpAny_setEpoch_of q B I ?_);show aa (bn (af #[_,BB,"set_iterator",_,#[_,av _ BB,BB],zQ.lookup,?_]));simpa [rawInt] using h
open PySem.W PySem.Calls
def zmA(I:s.TypeIs (.ref r) "set")(h:Q false s):Ag prog w A (Builtin.List.listLengthHint (.ref r)) Q E s:=by
 unfold Builtin.List.listLengthHint;show aa (wpAny_specialOf I PySem.F.slot_set_len.lookup ?_);generalize B:("set.__len__" : String)=id0
 wp_delta
 rw[show splitId id0=some ("set","__len__") from by subst B;decide +kernel];subst B;show aa (cU (T := "set") (b:=true) I (by rw[isSubtype_type];kernel_rfl) ?_);show wpAny_ite_split (λq=>absurd q (by ext)) (λ_=>?_);show wpAny_ite_split (λ_=>?_) (λq=>absurd (by decide +kernel) q);show aa (dY I ?_);show af h
def SetIs.keep(S:SetIs prog w h a es q t xs)(k:∀o,h.get? a=some o->h'.get? a=some o):SetIs prog w h' a es q t xs:=let ⟨⟨o,ho,r⟩,T⟩:=S;#[#[o,k o ho,r],T]
def yp.keep(S:yp h B a q i n F)(k:∀o,h.get? B=some o->h'.get? B=some o):yp h' B a q i n F:=let ⟨o,ho,r⟩:=S;#[o,k o ho,r]
def SetIs.lt(S:SetIs prog w h a es q t xs):a<h.objs.size:=let ⟨⟨o,ho,_⟩,_⟩:=S;aw ho
def zks (hh:A.handled=none)(I a:Addr)(ac:a≠I)(J:Nat) :
  Walks prog w A I [I,a] [I] es.size (λi v=>∃e,(zl3 w a J es)[i]?=some e/\v=e.2) (λi h=>(∃q,yp h I a q i es.size J/\(w.params.followText "set-order" = true\/SetTable.below t.place q=i))/\SetIs prog w h a es J t xs) where
 sub:=λb O=>by simp at O;simp[O]
 frame:=λ_ _ _ st hk=>#[let ⟨sl,x,y⟩:=st.1;#[sl,x.keep λo e=>hk I (by simp) o e,y],st.2.keep λo e=>hk a (by simp) o e]
 item:=λi s Q E hi st U=>by
  obtain⟨⟨sl,B,hs⟩,S⟩:=st
  have Y:i<(zl3 w a J es).size:=by
   have:=(zfh (w:=w) (es:=es) a J).length_eq;grind
  show zjM B S hs (e:=(zl3 w a J es)[i]) (aR Y) λh' F Z ad sb=>?_;show U _ h' s.toks #[_,aR Y,BB] #[#[F,Z,ad],S.keep λo e=>(sb.2 a ac).trans e] λb o O e=>sb.extBut b o (λh=>O (by simp[h])) e
 done:=λs Q E st U=>by obtain⟨⟨sl,B,hs⟩,S⟩:=st;show zlZ hh B S hs λh' ag=>U h' s.toks λb o O e=>ag b o (λh=>O (by simp[h])) e
 self:=λ_ _ _ _ st U=>let ⟨sl,x,_⟩:=st.1;zjd x U
def zqi (a:Addr)(q:Nat):KdlSrc prog w "set" a a es.size (λi v=>∃e,(zl3 w a q es)[i]?=some e/\v=e.2) (λh=>SetIs prog w h a es q t xs) where
 type:=λs S=>S.typeIs
 there:=λ_ S=>#[S.lt,S.lt]
 keep:=λ_ _ S F=>S.keep λo e=>F a (.inl BB) o e
 notList:=by ext
 notTuple:=by ext
 hint:=λ_ _ _ _ S B=>zmA S.typeIs B
 iter:=λA s I S=>#[_,_,(λ_ _ B=>zly S B),zks I _ a (aN S.lt) q,#[#[0,#[_,av _ BB,BB,BB],.inr ?_],S.keep λo e=>ae _ e]]
where finally
 have b:=xW S.tb.ris 0;rcases Nat.eq_zero_or_pos (SetTable.below t.place 0) with z | z;show z;show absurd (b.2.1 0 z) (dg _)
end
def zeI (h:Heap)(L BH:Addr)(v:Value)(st:AG):Prop:=∃ (a:Addr) (items:AN),v = .ref a/\IsTup h a items.toArray/\zR (st.map V.int) items/\a≠L/\a≠BH
def zeI.keep{st:AG}(r:zeI h L BH v st)(q:∀b o,b≠L->b≠BH->h.get? b=some o->h'.get? b=some o):zeI h' L BH v st:=by obtain⟨a,items,e,⟨o,B,F⟩,I,h1,h2⟩:=r;show#[a,items,e,#[o,q a o h1 h2 B,F],I,h1,h2]
theorem zdr:∀ {vs:AN} {BF:AF},Paired (zeI h L BH) vs BF->(∀st∈BF,1<=st.length)->∃fs,W.KatTups h vs fs/\fs.length=BF.length/\∀f∈fs,∃a t,f=Value.int a t
 | _,_,.nil,_=>#[[],trivial,BB,λ_ h=>by simp at h]
 | _,_,.cons (b:=st) r I,h1=>by
  obtain⟨a,items,rfl,⟨o,J,O,n,U⟩,q,_⟩:=r;obtain⟨fs,Y,f2,f3⟩:=zdr I λz Z=>h1 z (ar _ Z);have B:=h1 st am
  match st,q,B with
  | z::zs,q,_=>
   cases q with
   | cons q1 qq=>
    obtain⟨t,rfl⟩:=q1;show#[_::fs,#[#[a,o,_,n,BB,J,O,U,BB],Y],by right,λf F=>?_];rcases ay.mp F with rfl | F
    all_goals right
theorem x9 {α q:Type}{R:α->q->Prop}:∀ {l:List α} {l':List q},Paired R l l'->∀ {i:Nat} (d:α) (d':q),i<l'.length->R (l.getD i d) (l'.getD i d')
 | _,_,.nil,i,_,_,h=>by simp at h
 | _,_,.cons r _,0,_,_,_=>r
 | _,_,.cons _ t,i+1,d,d',h=>by have:=x9 t (i:=i) d d' (by simpa using h);simpa using this
theorem zdy {α q:Type}{R:α->q->Prop}:∀ {l:List α} {l':List q},Paired R l l'->l.length=l'.length
 | _,_,.nil=>rfl
 | _,_,.cons _ t=>by rw[aJ,aJ,zdy t]
section
variable {prog:Aa}{w:Ab}{A:Ae}{E:AA}{s:AZ}
def zlP{BF:AF}(ap:s.heap.Ns L m0)(as:BH≠L)(ho:s.heap.get? BH=some (seqObj "list" vs.toArray n))(hv:Paired (zeI s.heap L BH) vs BF)(hz:BF.length<=sizeLine)(a5:1<=m)(hm:∀st∈BF,st.length=m)(a0:BF.Nodup)(h:∀h' c p,List.Perm p (List.range BF.length)->((p.map λi=>BF.getD i []).Pairwise λa b=>HT.lexLt a b=true)->(∀b o,b≠L->b≠BH->s.heap.get? b=some o->h'.get? b=some o)->h'.Ns L m0->
   h'.get? BH=some (seqObj "list" (p.map λi=>vs.getD i .none).toArray c)->Q .none { s with heap:=h' }) :
  Ag prog w A (call (.builtin "list.sort") [.ref BH]) Q E s:=by
 have a7:=zdy hv;by_cases h2:2<=BF.length
 ·have B:∀p∈(zbB s.heap L).filter (λq=>decide (q.1≠BH)),s.heap.get? p.1=some p.2/\p.1≠L/\p.1≠BH:=λp hp=>by
   have h1:=cB.mp hp;have h2:=zP.mp (show (p.1,p.2)∈zbB s.heap L from h1.1);right
  have J:∀b,(#[#v[],{}]:Heap).get? b=none:=λb=>by
   cases e:(#[#v[],{}]:Heap).get? b with
   | none=>rfl
   | some o'=>
    have:=aw e;simp at this
  show aW fX #[_,ho,BB] fL ?_ (fY _);show za5 (h₀:=(#[#v[],{}]:Heap)) (L:=L) (m:=m0) (news:=(zbB s.heap L).filter (λq=>decide (q.1≠BH))) #[ap,λb o e=>?_,aI _] (λp hp=>?_) ho as (J _) (λp hp=>(B p hp).2.2) (by lia) (by lia) λe1 h' F N=>?_;right;show#[(B p hp).1,(B p hp).2.1,J _]
  ·have kp:∀b o,b≠L->b≠BH->s.heap.get? b=some o->h'.get? b=some o:=λb o hb hD e=>(N (b,o) (ar _ (cB.mpr #[zP.mpr #[hb,e],aY hD]))).1;have O:Paired (zeI h' L BH) vs BF:=Paired.mapP hv λv st r=>r.keep kp;obtain⟨fs,k1,k2,k3⟩:=zdr O λst ba=>by rw[hm st ba];show a5
   show W.kat_kind (T:=.type "int") (s:={ s with heap:=h' }) k1 (by lia) (λf hf=>?_) (by ext) ?_;obtain⟨a,t,rfl⟩:=k3 f hf;intro A' Q' E' s' _ hq;show dY (fD s' a t) hq
   ·have hu:zif BF.length (zcq BF):=λi j hi I e=>by
     have e1:=yW hm hi I;have e2:=yW hm I hi;rw[e,a6 (gv _)] at e1;rw[e,a6 (gv _)] at e2;have gi:BF.getD i []=BF[i]:=by simp[hi]
     have gj:BF.getD j []=BF[j]:=by simp[I]
     rcases uO (a:=BF.getD i []) (b:=BF.getD j []) (by right) with h | h | h;rw[gi,gj] at h;show (du a0).mp h
     all_goals grind
    have U:vs.length=BF.length:=by lia
    show#[zcq BF,by rw[U];show hu,λi j hi I e=>?_,λi j hi I C E hC=>?_,λp Y=>?_];rw[U] at hi I;obtain⟨a1,ad,b1,c1,d1,_⟩:=x9 O .none [] hi;obtain⟨a2,ag,b2,c2,d2,_⟩:=x9 O .none [] I;rw[b1,b2] at e;cases e;obtain⟨o1,al,_,n1,an⟩:=c1;obtain⟨o2,Z,_,n2,ac⟩:=c2;rw[al] at Z;cases Z;rw[an] at ac;have ei:ad=ag:=by injection ac with q1;show List.toArray_inj q1
    subst ei;have es:=zbq d1 d2;have gi:BF.getD i []=BF[i]:=by simp[hi]
    have gj:BF.getD j []=BF[j]:=by simp[I]
    rw[gi,gj] at es;show (du a0).mp es;rw[U] at hi I;obtain⟨a1,ad,b1,c1,d1,_⟩:=x9 O .none [] hi;obtain⟨a2,ag,b2,c2,d2,_⟩:=x9 O .none [] I;obtain⟨o1,al,_,n1,an⟩:=c1;obtain⟨o2,Z,_,n2,ac⟩:=c2;rw[b1,b2];have gi:(BF.getD i []).length=m:=by right
    have gj:(BF.getD j []).length=m:=by right
    have l1:=d1.length;have l2:=d2.length;rw[ab] at l1 l2;show W.kat_lt (s:={ s with heap:=h' }) al an Z ac ?_;rw[show decide (ad.toArray.size<ag.toArray.size)=false from a6 (by simp;lia)];show zd2 0 d1 d2 (by rw[gi,gj]) ?_;rw[yW hm hi I] at hC;show hC;rw[U] at Y;have a3:p.toList.Perm (List.range BF.length):=by have:=Y.perm.toList;simpa using this
    have a4:∀i∈p.toList,i<BF.length:=λi hi=>aK.mp ((a3.mem_iff).mp hi);show W.KasFin.intro F N (W.UpdF.head λq' bb=>(B q' bb).2.2) λbc c F'' N''=>?_;show#[_,BB,h bc c p.toList a3 ?_ (λb o hb hD e=>(N'' (b,o) (ar _ (cB.mpr #[zP.mpr #[hb,e],aY hD]))).1) F''.ns (N'' (BH,_) am).1];have be:p.size=BF.length:=zfi Y.perm;rw[bv];intro i j hi I bd;rw[ab,aG] at hi I;have hk:=Y.lt_of bd (by lia);rw[cD,cD,dO,dO];have e1:p.getD i 0=p[i]:=by simp[hi]
    have e2:p.getD j 0=p[j]:=by simp[I]
    unfold key at hk;rw[e1,e2] at hk;rw[<- yW hm (a4 _ (by simp)) (a4 _ (by simp))];right
 show aW fX #[_,ho,BB] fL ?_ (fY _);show u5 ho (by lia) λh' c kp hD=>#[_,BB,?_];show h h' c (List.range BF.length) (eM _) ?_ (λb o _ hb e=>kp b o hb e) ?_ ?_;grind;obtain⟨o,es,ep,g,k⟩:=ap;show#[o,es,ep,kp _ _ (Ne.symm as) g,k];rw[<- a7,zbm];show hD
end
def zby {α O:Type}{f:α->O}{l m:List O}(h:l.Perm m):∀ {xs:List α},m=xs.map f->∃q:List α,q.Perm xs/\l=q.map f:=by
 induction h with
 | nil=>
  right
 | cons x _ U=>
  intro xs e
  cases xs with
  | nil=>cases e
  | cons y ys=>
   rw[aD] at e;injection e with Y F;obtain⟨q,h1,h2⟩:=U F;show#[y::q,h1.cons y,by right]
 | swap x y l=>
  intro xs e
  match xs,e with
  | [],e=>cases e
  | [_],e=>cases e
  | a::b::r,e=>
   rw[aD,aD] at e;injection e with Y F;injection F with F e3;show#[b::a::r,.swap _ _ _,by grind]
 | trans _ _ I J=>
  intro xs e;obtain⟨q,h1,h2⟩:=J e;obtain⟨B,Z,h4⟩:=I h2;show#[B,Z.trans h1,h4]
def zib (P:Aa)(w:Ab)(a:Addr)(xs:List (List Key×Addr)):HO:=.ext λh=>zb4 P w h a xs
def uN (xs:AE):List (List Key×Addr):=xs.map λq=>(q.1.map Sum.inl,q.2)
def zkr(S:zb4 P w h a xs):yk P w H h a (zib P w a xs):=by
 show#[S,?_,λh1 h2 q k=>?_];obtain⟨o,_,_,_,B,_⟩:=S;show#[o,B];obtain⟨o,es,F,t,B,r⟩:=q;show#[o,es,F,t,k o B,r]
def zp8(h:(#[Array.replicate (n+1) o,{}]:Heap).get? d=some u):u=o:=by
 unfold Heap.get? at h;simp only[Array.getElem?_replicate] at h;split at h;cases h;split at h;show (b8 h).symm;cases h
def zqh(hs:∃h:Heap,h.get? d=some ob):(λh=>zb4 P w h a xs)≠λh=>h.get? d=some ob:=λe=>by
 obtain⟨B,F⟩:=hs;have h1:zb4 P w B a xs:=by rw[show zb4 P w B a xs=_ from congrFun e B];show F
 obtain⟨o,es,O,t,U,I,Y,T,J⟩:=h1;have k:∀q:Nat,({ o with data:=.set es q t }:Obj)=ob:=λq=>by have h2:zb4 P w (#[Array.replicate (a+1) { o with data:=.set es q t },{}]:Heap) a xs:=#[{ o with data:=.set es q t },es,q,t,by simp[Heap.get?],I,BB,T,J];rw[show zb4 P w _ a xs=_ from congrFun e _] at h2;show (zp8 h2).symm
 have:=congrArg Obj.data ((k 0).trans (k 1).symm);cases this
def zg3:∀BD,pnK (zib P w a xs)=some BD->uE BD (Sum.inr "at" : Key)=none:=λBD e=>by
 unfold zib pnK at e;dsimp only at e;rw[if_neg] at e;cases e;rintro⟨d,ob,hs,z⟩;show zqh hs z
def zeF (P:Aa)(w:Ab)(H:Hp)(a:Addr)(ks:AF):Prop:=∃xs:AE,H a=some (zib P w a (uN xs))/\(∀q∈xs,H q.2=some (.tup (q.1.map V.int)))/\ks=xs.map (·.1)/\ks.Nodup
def zeF.stay{ks:AF}(S:zeF P w H a ks)(h:zy H H'):zeF P w H' a ks:=by obtain⟨xs,h1,h2,B,F⟩:=S;show#[xs,h _ _ h1 zg3,λq I=>h.tup (h2 q I),B,F]
theorem zch:∀ns:AG,(ns.map Sum.inl).map kV=ns.map V.int
 | []=>rfl
 | n::ns=>by rw[aD,aD,aD,zch ns];rfl
section
variable {X:Cx}
def zjj{BC:AB}{G:St}{H:Hp}{s:AZ}(I:Inv X BC G H s){ns:AG}(h:H b=some (.tup (ns.map V.int))):(tk X.prog X.w).is s.heap (ns.map Sum.inl) b:=by
 obtain⟨q,F,⟨o,J,O,n,U⟩,_⟩:=I.tuple (.of h);show#[o,q.toArray,n,J,O,U,?_]
 have B:∀ {ns:AG} {q:AN},zR (ns.map V.int) q->ItemsAre (zY X.prog X.w) (ns.map Sum.inl) q:=by
  intro ns
  induction ns with
  | nil=>intro q r;cases r;show .nil
  | cons n ns Y=>
   intro q r
   cases r with
   | cons Z r2=>
    obtain⟨t,rfl⟩:=Z;show .cons (ze0 n t) (Y r2)
 show B F
def zsF (P:Aa)(w:Ab):AT->Hp->VK->Prop:=λxs H Q=>∃ (a:Addr) (ks:AF) (m:Nat),xs=[.ref a]/\zeF P w H a ks/\ks.length<64/\1<=m/\(∀st∈ks,st.length=m)/\
 ∀ (ys:AT) (q:AF),IsL H (q.map stD) ys->q.Perm ks->(q.Pairwise λa b=>HT.lexLt a b=true)->New H (.lst ys) Q
theorem zdX:∀ {xs:AE},(∀q∈xs,H q.2=some (.tup (q.1.map V.int)))->IsL H ((xs.map (·.1)).map stD) (xs.map λq=>V.ref q.2)
 | [],_=>rfl
 | q::xs,h=>#[_,_,BB,#[q.2,_,BB,h q am,IsL.ints],zdX λr B=>h r (ar _ B)]
theorem zcZ:∀ (xs:AE),zR (xs.map λq=>V.ref q.2) (xs.map λq=>Value.ref q.2)
 | []=>.nil
 | q::xs=>.cons BB (zcZ xs)
def zle (hc:X.calm=true):CallQ X (.builtin "sorted") (zsF X.prog X.w):=#[by
 intro BC s G H xs us Q I r h;obtain⟨a,ks,m,rfl,⟨xs,hH,a4,rfl,a5⟩,a7,ba,hm,q⟩:=h;obtain⟨u,rfl,ru⟩:=za7 r;cases ru;obtain⟨⟨o,es,ep,t,ho,hx,hd,T,_⟩,_⟩:=(show yk X.prog X.w H s.heap a (zib X.prog X.w a (uN xs)) from I.hok a _ hH);have S:SetIs X.prog X.w s.heap a es ep t (uN xs):=#[#[o,ho,hx,hd],T];obtain⟨m0,al,_⟩:=id I.loc;have hsz:es.size=xs.length:=by rw[T.size];unfold uN;rw[ab]
 rw[ab] at a7
 have bb:∀b,(#[#v[],{}]:Heap).get? b=none:=λb=>by
  cases e:(#[#v[],{}]:Heap).get? b with
  | none=>rfl
  | some o'=>
   have:=aw e;simp at this
 have an:=zfh (w:=X.w) (es:=es) a ep;have bc:es.toList=xs.map λq=>((tk X.prog X.w).hash (q.1.map Sum.inl),Value.ref q.2):=by rw[T.eq];unfold uN;rw[aO];rfl
 rw[bc] at an;obtain⟨B,J,bd⟩:=zby an BB;show kdu_sorted (h₀:=(#[#v[],{}]:Heap)) (L:=X.env.locals) (m:=m0) (news:=zbB s.heap X.env.locals) (zqi (t:=t) (xs:=uN xs) a ep) (I.ok.hd hc) #[al,λb o e=>(by right),aI _] (λp hp=>?_) S (by rw[hsz,ce];lia) λBH h' ap vs F N be hl hP=>?_;obtain⟨b,o⟩:=p;have:=zP.mp hp;right
 have bk:vs=B.map λq=>Value.ref q.2:=by
  have b4:=J.length_eq;show eZ (by right) λj h1 h2=>?_;obtain⟨e,he,hv⟩:=hP j vs[j] (ak h1);rw[zc1,bd,aC] at he;rw[ab] at h2;rw[ak h2] at he;rw[hv,cD,<- b8 he]
 have kp:∀b o,b≠X.env.locals->s.heap.get? b=some o->h'.get? b=some o:=λb o hb e=>(N (b,o) (ar _ (zP.mpr #[hb,e]))).1;have as:BH≠X.env.locals:=(N (BH,_) am).2.1
 have bl:s.heap.get? BH=none:=by
  cases e:s.heap.get? BH with
  | none=>rfl
  | some o=>show absurd (be (BH,o) (zP.mpr #[as,e])) (cV _)
 have Y:H BH=none:=by
  cases e:H BH with
  | none=>rfl
  | some o=>
   obtain⟨o',a0⟩:=zaR (I.hok BH o e);grind
 have U:∀q∈B,H q.2=some (.tup (q.1.map V.int)):=λq Z=>a4 q ((J.mem_iff).mp Z)
 have rows:Paired (zeI h' X.env.locals BH) vs (B.map (·.1)):=by
  rw[bk]
  have bo:∀ (l:AE),(∀q∈l,H q.2=some (.tup (q.1.map V.int)))->Paired (zeI h' X.env.locals BH) (l.map λq=>Value.ref q.2) (l.map (·.1)):=by
   intro l
   induction l with
   | nil=>intro _;show .nil
   | cons q l ih=>
    intro hl;have Z:=hl q am;obtain⟨items,rv,⟨o',a0,bs⟩,_⟩:=I.tuple (.of Z);have a1:=zc Z I.free;show .cons #[q.2,items,BB,#[o',kp _ _ a1 a0,bs],rv,a1,zc Z Y] (ih λr hr=>hl r (ar _ hr))
  show bo B U
 have ac:=J.map (·.1);show zlP (s:={ s with heap:=h',toks:=ap }) F.ns as (N (BH,_) am).1 rows (by rw[ab,J.length_eq,ce];lia) ba (λst bx=>hm st ((ac.mem_iff).mp bx)) (ac.nodup_iff.mpr a5) λb5 c p hp a2 b0 b1 a3=>?_;have b2:∀i∈p,i<B.length:=λi hi=>by have:=aK.mp ((hp.mem_iff).mp hi);rwa[ab] at this
 have O:(p.map λi=>(B.map (·.1)).getD i [])=(p.map λi=>B.getD i ([],0)).map (·.1):=by right
 have ad:(p.map λi=>vs.getD i .none)=(p.map λi=>B.getD i ([],0)).map λq=>Value.ref q.2:=by right
 have b3:∀q∈(p.map λi=>B.getD i ([],0)),H q.2=some (.tup (q.1.map V.int)):=λq Z=>by
  obtain⟨i,hi,rfl⟩:=aF.mp Z;have h1:=b2 i hi;have:B.getD i ([],0)=B[i]:=by simp[h1]
  rw[this];show U _ (bz h1)
 rw[ad] at a3;rw[O] at a2;have ag:p.length=xs.length:=by rw[hp.length_eq,aA,ab,J.length_eq]
 have I':=zdW I al (ys:=(p.map λi=>B.getD i ([],0)).map λq=>V.ref q.2) (λb o hb e=>b0 b o hb (by grind) (kp b o hb e)) b1 bl Y a3 (zcZ _) (by rw[ab,ab,ag,ce];lia) ap;show#[.ref BH,_,I',BB,(q _ ((p.map λi=>B.getD i ([],0)).map (·.1)) (zdX b3) ?_ a2).at Y];show List.Perm.trans ?_ ac;rw[<- O];have:=hp.map λi=>(B.map (·.1)).getD i [];rwa[zbm] at this]
end
def zeP (elt target iter:Expr)(ifs:AO)(scope:Scope)(pos:Pos)(it acc:Value)(env:Env) :
  compTurn (.SetComp elt [#[target,iter,ifs,0]] scope pos) 0 it acc env=(do
   standAt iter.pos
   match <- pyNext it with
   | none=>pure (.done .next)
   | some v=>
    letOwnedTupleGo target it v
    assign target env v
    let mut ok:=true
    for c in ifs do
     if ok then ok <- isTrue c env (eval c env)
    if ok then
     (do let v <- eval elt env;standAt elt.pos;let _ <- call (.builtin "set.add") [acc,v])
    again (.compLoop (.SetComp elt [#[target,iter,ifs,0]] scope pos) 0 it acc env)):=by rfl
section
variable {prog:Aa}{w:Ab}{A:Ae}{E:AA}{R:Result->AZ->Prop}{s:AZ}
def uI {elt target iter ifs zx scope pos it acc env}
  (h0:codeAny (model prog w) A (.compLoop (.SetComp elt (#[target,iter,ifs,0]::zx) scope pos) 0 it acc env) R s)
  (h:Ag prog w A (pyIter it) (λit' s'=>codeAny (model prog w) A (.compLoop (.SetComp elt (#[target,iter,ifs,0]::zx) scope pos) 0 it' acc env) R s')
   (notedBy (model prog w) A env λx s'=>R (.error x) s') s) :
  codeAny (model prog w) A (.compStart (.SetComp elt (#[target,iter,ifs,0]::zx) scope pos) 0 it acc env) R s:=by
 show codeAny_of_tree ?_;change wpAny _ _ ((compStart (.SetComp elt (#[target,iter,ifs,0]::zx) scope pos) 0 it acc env).onRaise (λx=>do noteFrame x env;standAt theWindowsPlace)) _ _ s;show wpAny_notedAt ?_;unfold compStart;change wpAny _ _ (ask >>= _) _ _ s;show aa (bU (wpAny_ite ?_));split
 first
  | show aa (by grind)
  | show af (And.intro BB h0)
 first
  | show aa (by grind)
  | (show aa (cZ ?_);change wpAny _ _ (standAt iter.pos >>= _) _ _ s;show aa (dE (aa (bC h (λit' s' h'=>af (And.intro BB h')) λ_ _ x=>x))))
def zbL(I:Nat->AZ->Prop)(turn:∀n s,I n s->Ag prog w A (pyNext it) (λr s₁=>match r with
   | none=>R (.ok .next) s₁
   | some v=>Ag prog w A (letOwnedTupleGo target it v) (λ_ s₂=>Ag prog w A (assign target env v) (λ_ s₃=>
     Ag prog w A (forIn ifs true λc r=>if r=true then do let ok <- isTrue c env (eval c env);pure (ForInStep.yield ok) else pure (ForInStep.yield r)) (λok s₄=>
      if ok=true then Ag prog w A (eval elt env) (λx s₅=>
       Ag prog w A (call (.builtin "set.add") [acc,x]) (λ_ s₆=>∃m,m<n/\I m s₆) (λ_ _=>False) s₅) (λ_ _=>False) s₄
      else ∃m,m<n/\I m s₄) (λ_ _=>False) s₃) (λ_ _=>False) s₂) (λ_ _=>False) s₁) (λ_ _=>False) s)(n:Nat)(h:I n s) :
  codeAny (model prog w) A (.compLoop (.SetComp elt [#[target,iter,ifs,0]] scope pos) 0 it acc env) R s:=by
 show codeAny_loop BB I (λn s hI=>?_) n h;change wpAny _ A ((compTurn (.SetComp elt [#[target,iter,ifs,0]] scope pos) 0 it acc env).onRaise (λx=>do noteFrame x env;theTreesLotGoes x)) _ _ s;show wpAny_noted ?_;rw[zeP];show aa (dE (aa (bC (turn n s hI) (λr s₁ h₁=>?_) λ_ _ h'=>h'.elim)))
 cases r with
 | none=>show af h₁
 | some v=>
  show aa (bC h₁ (λ_ s₂ h₂=>?_) λ_ _ h'=>h'.elim);show aa (bC h₂ (λ_ s₃ h₃=>aa (bC h₃ (λok s₄ h₄=>?_) λ_ _ h'=>h'.elim)) λ_ _ h'=>h'.elim)
  cases ok with
  | false=>show af #[BB,h₄]
  | true=>
   show aa (aa (bC h₄ (λx s₅ h₅=>aa (dE (aa (bC h₅ (λ_ s₆ h₆=>af (af #[BB,h₆])) λ_ _ h'=>h'.elim)))) λ_ _ h'=>h'.elim))
def zjJ(h:Q (.ref s.heap.objs.size) { s with heap:=s.heap.push { cls:=.type "set",dict:=none,data:=.set #v[] 0 (.fresh 0 0 (!w.params.followText "set-order")) } }):Ag prog w A (newSet (.type "set")) Q E s:=by unfold newSet setsByText;show aa (aa (bU (af ?_)));dsimp only;simp only[newObj];show aa (wpAny_alloc (af h))
def zkq (h:Heap):zb4 prog w (h.push { cls:=.type "set",dict:=none,data:=.set #v[] 0 (.fresh 0 0 (!w.params.followText "set-order")) }) h.objs.size []:=by
 show#[_,#v[],0,_,av _ BB,#[BB,BB,BB],BB,#[BB,List.nodup_nil,BB,λi j _ B=>?_,λi j e=>?_,BB,.inl BB,aI _,BB,BB,λi q e=>?_],by change 0 * 5<7 * 3;decide];show absurd B (dg _);simp[SetTable.fresh] at e;simp at e
end
theorem um:∀ {ns q:AG},ns.map (Sum.inl:Int->Key)=q.map Sum.inl->ns=q
 | [],[],_=>rfl
 | [],_::_,e=>by cases e
 | _::_,[],e=>by cases e
 | n::ns,m::q,e=>by rw[aD,aD] at e;injection e with B F;rw[Sum.inl.inj B,um F]
section
variable {X:Cx}
def zhU {BC:AB}{G:St}{H:Hp}{s:AZ}{acc b:Addr}{ns:AG}{ks:AF}{Q:AA}(hu:X.A.units+1<cLine)(I:Inv X BC G H s)(S:zeF X.prog X.w H acc ks)(hb:H b=some (.tup (ns.map V.int)))(hn:ks.length<300)
  (h:∀o ks' s',zeF X.prog X.w (upd H acc o) acc ks'->(∀x,x∈ks'↔x=ns\/x∈ks)->ks'.length<=ks.length+1->Inv X BC G (upd H acc o) s'->Q .none s') :
  Af X (call (.builtin "set.add") [.ref acc,.ref b]) Q X.xe s:=by
 obtain⟨xs,hH,hel,rfl,hnd⟩:=S;have hS:=(show yk X.prog X.w H s.heap acc (zib X.prog X.w acc (uN xs)) from I.hok acc _ hH).1;obtain⟨o,es,ep,t,ho,hx,hd,T,hroom⟩:=id hS;show aW F.slot_set_add #[o,ho,hx.1] F.entry_set_add ?_ (F.args_set_add_2 _ _);unfold Builtin.«set.add»;show aa (m:=Builtin.Frozenset.oneOther "add" #[[.ref acc,.ref b],[]]) (af ?_);have hba:b≠acc:=zlY hb hH (by intro z;cases z);have hea:∀q∈xs,q.2≠acc:=λq hq=>zlY (hel q hq) hH (by intro z;cases z);rw[ab] at hn;show aa (zqW (A:=X.A.in1) (xs:=uN xs) (ns:=ns) (bg (ai _) hu) hS (zjj I hb) (λq hq=>?_) (by unfold uN;rw[ab];show hn) λr h' n xs' sb S' hin hout=>?_);unfold uN at hq;obtain⟨q',hq',rfl⟩:=aF.mp hq;show zjj I (hel q' hq')
 ·
  have mem_key:∀ {l:AE},(ns.map Sum.inl)∈(uN l).map (·.1)↔ns∈l.map (·.1):=by
   intro l;unfold uN;rw[aO,aF,aF];constructor;rintro⟨q,hq,e⟩;show#[q,hq,?_];have e':q.1.map (Sum.inl:Int->Key)=ns.map Sum.inl:=e;show um e';rintro⟨q,hq,rfl⟩;show#[q,hq,BB]
  have fin:∀xs2:AE,xs'=uN xs2->(∀q∈xs2,q∈xs\/q=(ns,b))->(∀x,x∈xs2.map (·.1)↔x=ns\/x∈xs.map (·.1))->(xs2.map (·.1)).Nodup->xs2.length<=xs.length+1->wpAny (model X.prog X.w) X.A.in1 (do ret .none) (λfin s'=>∃v,fin = .done (.ret v)/\Q v s') X.xe { s with heap:=h',toks:=n }:=by
   rintro xs2 rfl hsub hmem hnd2 hlen
   have hel2:∀q∈xs2,H q.2=some (.tup (q.1.map V.int)):=λq hq=>by
    rcases hsub q hq with z | z;show hel q z;rw[z];show hb
   have hea2:∀q∈xs2,q.2≠acc:=λq hq=>zlY (hel2 q hq) hH (by intro z;cases z);show af #[.none,BB,h (zib X.prog X.w acc (uN xs2)) (xs2.map (·.1)) _ #[xs2,zi,λq hq=>by rw[zf (hea2 q hq)];show hel2 q hq,BB,hnd2] hmem (by right) ?_];show I.write (e:=acc) (by rw[hH];trivial) (.inl BB) (λc u hc q=>sb.extBut c u hc q) ?_ (zkr S');obtain⟨o',_,_,_,ho',_⟩:=S';show#[o',ho']
  by_cases hm:ns∈xs.map (·.1);have:=hin (mem_key.mpr hm);show fin xs this (λq hq=>.inl hq) (λx=>#[.inr,λz=>z.elim (λe=>e ▸ hm) id]) hnd (gn _);have hp:=hout λz=>hm (mem_key.mp z);have hk:((ns.map Sum.inl,b)::uN xs)=uN ((ns,b)::xs):=rfl;rw[hk] at hp;obtain⟨xs2,hp2,e2⟩:=zby hp BB;show fin xs2 e2 (λq hq=>?_) (λx=>?_) ?_ ?_;grind;rw[(hp2.map (·.1)).mem_iff,aD,ay];rw[(hp2.map (·.1)).nodup_iff,aD,c7];show#[hm,hnd];rw[hp2.length_eq,aJ];show ai _
end
def zeT(elt gens scope pos):eval (.SetComp elt gens scope pos) env=comprehension (.SetComp elt gens scope pos) scope env (firstIterPos gens pos) (newSet (.type "set")) (firstAsync gens) (firstIter gens env):=rfl
def setT (P:Aa)(w:Ab)(g:TG)(ti:TT)(te:TE)(acc:Addr)(N:St->Hp->Prop)(x:V)(G:St)(H:Hp):Prop:=
 g x G H λq H3=>ti q H3 λF H4=>if F=true then te q H4 λv H5=>∃b ns ks,v = .ref b/\H5 b=some (.tup (ns.map V.int))/\zeF P w H5 acc ks/\ks.length<300/\
  (∀o B,zeF P w (upd H5 acc o) acc B->(∀x,x∈B↔x=ns\/x∈ks)->B.length<=ks.length+1->N q (upd H5 acc o)) else N q H4
def setG (P:Aa)(w:Ab)(J:It)(g:TG)(ti:TT)(te:TE)(acc:Addr)(Q:VK)(G:St)(H:Hp):Prop:=∃W:Nat->Nat->St->Hp->Prop,(∃m,W 0 m G H)/\
 ∀i m q H',W i m q H'->(J.stop i H'/\Q (.ref acc) H')\/(J.go i H'/\∃N:St->Hp->Prop,(∀ B H2,N B H2->∃F,F<m/\W (i+1) F B H2)/\∀x H2,J.yld i H' x H2->setT P w g ti te acc N x q H2)
def ztd (P:Aa)(w:Ab)(wi:TI)(g:TG)(ti:TT)(te:TE)(BE:List (Option Nat)):TE:=λG H Q=>wi G H λJ H1=>∀acc,H1 acc=none->zeF P w (upd H1 acc (zib P w acc [])) acc []->setG P w J g ti te acc Q (zeO G BE) (upd H1 acc (zib P w acc []))
section
variable {X:Cx}{Fam:Cx->Prop}{scope:Scope}{N:AM}{BE:List (Option Nat)}{z:Str}{use:Option (Value->Sem Unit)}{Qp:AA}{elt ke ve tg iter tg2 iter2:Expr}{ifs ifs2:AO}{pos ipos spos px:Pos}{wi wi2:TI}{g g2:TG}{ti ti2:TT}{te tk tv:TE}{BC:AB}{G:St}{H:Hp}{s:AZ}{Q:VK}{o0:HO}
def zmz (hu:X.A.units+1<cLine)(O:Opn X scope BE Fam)(hc:X.calm=true)(hi:PI X tg iter wi)(hg:∀X',Fam X'->PG X' tg g)(ht:∀X',Fam X'->PTs X' ifs ti)(he:∀X',Fam X'->PE X' elt te)(hs:∀x,foldedSetIterable iter X.env x=pure x)(I:Inv X BC G H s)
  (h:ztd X.prog X.w wi g ti te BE G H Q) (U:EndK X BC G use Qp Q) :
  Af X (comprehension (.SetComp elt [#[tg,iter,ifs,0]] scope pos) scope X.env ipos (newSet (.type "set")) false (eval iter X.env) use) Qp X.xe s:=
 zeQ (ob:={ cls:=.type "set",dict:=none,data:=.set #v[] 0 (.fresh 0 0 (!X.w.params.followText "set-order")) }) (o0:=λa=>zib X.prog X.w a []) (Fin:=λacc H=>Q (.ref acc) H) (B:=λX' acc P s=>wpAny (model X'.prog X'.w) X'.A (eval elt X'.env) (λx s5=>wpAny (model X'.prog X'.w) X'.A (call (.builtin "set.add") [.ref acc,x]) (λ_ s6=>P s6) (λ_ _=>False) s5) (λ_ _=>False) s) (tb:=λacc Nx G H=>te G H λv H5=>∃ (b:Addr) (ns:AG) (ks:AF),v = .ref b/\H5 b=some (.tup (ns.map V.int))/\zeF X.prog X.w H5 acc ks/\ks.length<300/\(∀o F,zeF X.prog X.w (upd H5 acc o) acc F->(∀x,x∈F↔x=ns\/x∈ks)->F.length<=ks.length+1->Nx G (upd H5 acc o))) O hc BB hs (λ_ _ _ _ _ h0 h1=>uI h0 h1) (λ_ _ _ _ _ _ I Y n h=>zbL I Y n h) (λs Q h=>zjJ h) (λ_ _=>zkr (zkq _)) hi hg ht (λX' hF pX wX AX _ xX acc pl s G H Nx P I q k=>by have e9:=he X' hF pl s G H _ I q;rw[xX] at e9;show thn e9 ?_;rintro u2 ad ⟨v,H10,I10,ac,b,ns,ks,rfl,hb,S,hn,nx⟩;cases ac;have Z:=zhU (X:=X') (Q:=λ_ s'=>P s') (by rw[AX];show hu) I10 (by right) hb hn λo F s' S' hm hl I'=>k _ _ _ I' (nx o F (by right) hm hl);rw[xX] at Z;show Z) I h (λJ H1 acc q hn=>q acc hn #[[],zi,λq hq=>by simp at hq,BB,List.nodup_nil]) U
end
def zhQ(B:X.A.units+1<cLine)(F:X.calm=true)(c:CompOk X scope N BE)(hi:QI X tg iter wi)(J:∀C s H ex,QG (z5 X scope N C s H ex) tg g)(O:∀C s H ex,QTs (z5 X scope N C s H ex) ifs ti)(U:∀C s H ex,QE (z5 X scope N C s H ex) elt te)(hs:∀x,foldedSetIterable iter X.env x=pure x:=by intro _;rfl):QE X (.SetComp elt [#[tg,iter,ifs,0]] scope pos) (ztd X.prog X.w wi g ti te BE):=#[λBC s G H Q I h=>by
 rw[zeT];show zmz B (zcB c) F hi.run (zlp λC s H ex=>(J C s H ex).run) (zlp λC s H ex=>(O C s H ex).run) (zlp λC s H ex=>(U C s H ex).run) hs I h λ_ _ _ _ _ Y Z q=>zgM Y Z q]
section
variable {P:Aa}{w:Ab}{K:AH}{a acc:Addr}{xs:AT}{g:TG}{ti:TT}{te:TE}{G:St}{H:Hp}{Q:VK}
def zmC(B:H acc=none)(S0:zeF P w (upd H acc o) acc [])(Pv:Nat->St->Hp->Prop)(I:∀H',zeF P w H' acc []->yT H H'->Pv 0 G H')(J:∀i G H,i<=xs.length->Pv i G H->SqT K H a xs)(hs:∀i x G H,xs[i]?=some x->Pv i G H->setT P w g ti te acc (Pv (i+1)) x G H)(O:∀ G H,Pv xs.length G H->Q (.ref acc) H):setG P w (Itt K a) g ti te acc Q G (upd H acc o):=by
 show#[λi m G H=>m=xs.length - i/\i<=xs.length/\Pv i G H,#[xs.length,by simp,aI _,I _ S0 (yT.upd B)],?_];rintro i m G H ⟨rfl,hi,p⟩;have q:=J i G H hi p;by_cases F:i<xs.length;show .inr #[#[xs,xs[i],q,by simp[F]],Pv (i+1),λU H' Y=>#[xs.length - (i+1),by lia,BB,F,Y],λx H' y=>?_];obtain⟨e,y⟩:=y;subst e;show hs i x G _ (y xs q) p;have e:i=xs.length:=by lia
 subst e;show .inl #[#[xs,q,ai _],O G H p]
end
def zqG(s:yT A B)(h:A b=some o):B b=some o:=s _ _ h
def zkO(s:zy A B)(h:A b=some (.tup xs)):B b=some (.tup xs):=s.tup h
def zkM(s:zy A B)(h:A b=some (.lst xs)):B b=some (.lst xs):=s.lst h
def uD(s:zy A B)(h:A b=some o)(n:∀BD,pnK o=some BD->uE BD (Sum.inr "at" : Key)=none):B b=some o:=s _ _ h n
def zh7(s:zy A B)(h:Is A d v):Is B d v:=h.stay s
def zdH(s:zy A B)(h:IsL A d v):IsL B d v:=h.stay s
def zbp(s:zy A B){rm:AG}(h:RoomAt A ra rm):RoomAt B ra rm:=h.stay s
def zbo(s:zy A B){rm:AG}(h:BookAt A rm q xs bk):BookAt B rm q xs bk:=h.stay s
def zdG(s:zy A B)(h:zid A R xs):zid B R xs:=h.stay s
def zdI(s:zy A B){ks:AF}(h:zeF P w A a ks):zeF P w B a ks:=h.stay s
def zkN(s:yT A B){ns:AG}(h:Pen A p c ns n):Pen B p c ns n:=h.same s
def xj(h:yT A B):zy A B:=zy.same h
def zpa:∀BD,pnK (HO.dT xs)=some BD->uE BD (Sum.inr "at" : Key)=none:=by grind
def zjN:∀BD,pnK (zib P w a xs)=some BD->uE BD (Sum.inr "at" : Key)=none:=zg3
def zjO:∀BD,pnK (HO.ins C dx fs)=some BD->uE BD (Sum.inr "at" : Key)=none:=by grind
def zfo (H:Hp):yT H H:=λ_ _ z=>z
structure FunD (K:AH)(x qual:Str)(st:Stmt)(f:Addr)(fd:Ac):Prop where
 ex:∃ (oc:Value) (od:Option Addr) (dV kV doc pm:Value) (an:Option Addr) (cdv ct:Value) (osl:Array AJ),
  fd=PySem.W.fnOf x qual (yb st) (zC st) (zd st) dV kV doc pm an cdv ct/\K.lookup f=some #[oc,od,.func fd,osl]/\PySem.W.codeIn K cdv qual=true
 kp:PySem.W.keepIn K (.ref f)=true
def FunD.okQ{P:Aa}{w:Ab}{K:AH}{mg:AI}{base:Heap}{x I:Str}{st:Stmt}{f:Addr}{fd:Ac}{N ps:AM}{sp:Sp}(F:FunD K x I st f fd)(S:FnScope N ps (zd st))(U:∀vs H Q E,sp vs H Q E->vs.length=ps.length)(O:∀ (J:Value) (A:Ae) (B:List Env) (s:AZ) (H:Hp) (vs:AT) (Q:VK) (E:XK),Room k (A.deeper (envOfC I (zd st) s.heap.objs.size f J))->sp vs H Q E->
   ∃t,QSs (zeG CX0 P w K mg base N I (zd st) f J A B s H E).nox (zC st) t/\t { nx:=λ_ H'=>Q .non H',rt:=Q } (xx N vs) H):FnOk P w K mg base CX0 (k+1) f fd ps sp:=by
 obtain⟨oc,od,dV,kV,ac,pm,an,J,ct,ad,rfl,lk,Y⟩:=F.ex;show zro lk Y S U λA B s H vs Q E hr Z=>?_;obtain⟨t,h,q⟩:=O J A B s H vs Q E hr Z;show#[t,h.run.nox,q]
structure DfnD (K:AH)(mg:AI)(x:Str)(st:Stmt)(ps:AM)(ds:AN)(f:Addr)(fd:Ac):Prop where
 F:FunD K x x st f fd
 b:zad K fd ps []
 bd:zad K fd ps ds
 m:mg x=some (.ref f)
section
variable {X:Cx}
def zny{x:Str}{st:Stmt}{ps:AM}{ds:AN}{f:Addr}{fd:Ac}{sp:Sp}{es:AO}{p pos:Pos}(BH:DfnD X.K X.mg x st ps ds f fd)(BG:FnOk X.prog X.w X.K X.mg X.base CX0 j f fd ps sp)(J:Room k X.A)(O:QA X (e::es) t)(q:j<=k:=by ext)(U:Gl X x:=by rfl)(B:Ah x:=by ext)(Y:starEach (e::es) X.env=(false,eval e X.env)::starEach es X.env:=by rfl)(I:(backTo pos (starEach es X.env)).any (·.1)=false:=by rfl) :
  QE X (.Call (.Name x p) (e::es) [] pos) (zdd sp [] E0 t):=
 #[zgd BG (J.mono q) U BH.m BH.F.kp BH.b .nil zjY O.run B Y I]
def zsw{x:Str}{st:Stmt}{ps:AM}{ds:AN}{dv:AT}{f:Addr}{fd:Ac}{sp:Sp}{es:AO}{p pos:Pos}(BH:DfnD X.K X.mg x st ps ds f fd)(J:zR dv ds)(BG:FnOk X.prog X.w X.K X.mg X.base CX0 j f fd ps sp)(O:Room k X.A)(U:QA X (e::es) t)(q:j<=k:=by ext)(Y:Gl X x:=by rfl)(B:Ah x:=by ext)(Z:starEach (e::es) X.env=(false,eval e X.env)::starEach es X.env:=by rfl)(I:(backTo pos (starEach es X.env)).any (·.1)=false:=by rfl) :
  QE X (.Call (.Name x p) (e::es) [] pos) (zdd sp dv E0 t):=
 #[zgd BG (O.mono q) Y BH.m BH.F.kp BH.bd J zjY U.run B Z I]
end
def ziU{K:AH}{x q:Str}{st:Stmt}{f:Addr}{Z J:Option Addr}{O kV F U B ct:Value}(l:K.lookup f=some #[Y,Z,.func (PySem.W.fnOf x q (yb st) (zC st) (zd st) O kV F U J B ct),I])(c:PySem.W.codeIn K B q=true)(k:PySem.W.keepIn K (.ref f)=true):FunD K x q st f (PySem.W.fnOf x q (yb st) (zC st) (zd st) O kV F U J B ct):=#[#[Y,Z,O,kV,F,U,J,B,ct,I,BB,l,c],k]
def zgE{K:AH}{fd:Ac}{f:Addr}(l:K.lookup f=some #[F,q,.func fd,B]){ps:AM}{items:AK}{O:Array AJ}(U:fd.defaults = .ref T)(Y:K.lookup T=some #[I,J,.seq items n,O])(h:∀us:AN,(us++ds).length=ps.length->∃k:Option AK->Sem (List (Str×Value)),bindArgs fd #[us,[]]=seqItems? fd.defaults >>= k/\k (some items)=pure (ps.zip (us++ds))):zad K fd ps ds:=λs us KX Z=>by
 obtain⟨k,h1,h2⟩:=h us Z;show .of_defaults U (KX _ _ Y) BB h1 h2
open PySem.W PySem.Calls
section
variable {prog:Aa}{w:Ab}{A:Ae}{E:AA}{s:AZ}{es:Array DictEntry}
def zas (h:Heap)(d:Addr)(es:Array DictEntry)(q:Nat):Prop:=∃o,h.get? d=some o/\o.ExactDict/\o.data = .dict es q
def zas.keep(x:zas h d es q)(k:∀o,h.get? d=some o->h'.get? d=some o):zas h' d es q:=let ⟨o,ho,r⟩:=x;#[o,k o ho,r]
def zas.typeIs(x:zas s.heap d es q):s.TypeIs (.ref d) "dict" := let ⟨o,ho,hc,_⟩:=x;#[o,ho,hc.1]
def zas.lt(x:zas h d es q):d<h.objs.size:=let ⟨o,ho,_⟩:=x;aw ho
def zjc(Y:(d==sysModules)=false)(J:zas s.heap d es I)(U:Q (.ref s.heap.objs.size) { s with heap:=s.heap.push { cls:=.type "dict_keyiterator",data:=.fields #v[.ref d,.int 0 0,.int es.size 0,.int I 0] } }) :
  Ag prog w A (pyIter (.ref d)) Q E s:=by
 obtain⟨o,O,Z,q⟩:=id J;have B:=J.typeIs;show gh B PySem.F.slot_dict_iter (aW PySem.F.slot_dict_iter B PySem.F.entry_dict_iter ?_ (PySem.F.args_dict_iter_1 _));unfold Builtin.«dict.__iter__»;show aa ?_;unfold Builtin.Dict.dictSlotNone;show aa (wpAny_notOrdered_dict B ?_);change wpAny _ _ (pure (Value.ref d)) _ _ s;show af ?_;change wpAny _ _ (Builtin.Dict.showsAll d >>= _) _ _ s;unfold Builtin.Dict.showsAll;rw[if_neg (by right)];show aa (af ?_);show aa (gk O q ?_);show aa (wpAny_dictEpoch O q ?_);show aa (bn (af #[_,BB,"dict_keyiterator",_,#[_,av _ BB,BB],PySem.F.slot_dict_keyiterator_next.lookup,?_]));simpa [rawInt] using U
def zlK(q:s.heap.IsKeyIter B d i es.size U)(hm:zas s.heap d es U)(hx:es[i]?=some e)(hQ:∀h',h'.IsKeyIter B d (i+1) es.size U->Heap.SameBut B s.heap h'->Q (.done (.ret e.key)) { s with heap:=h' }):Ag prog w A (Builtin.«dict_keyiterator.__next__» { pos:=[Value.ref B] }) Q E s:=by
 obtain⟨o,Z,hc,Y⟩:=id q;obtain⟨od,I,ac,J⟩:=id hm;show aa (af ?_);show aa ?_;show aa ?_
 first | show aa (cE q.typeIs (af ?_)) | show aa (by grind)
 show aa (fZ Z Y ?_);have O:Builtin.Dict_items.ownsTuple "dict_keyiterator" = false:=by ext
 simp only[O,aV,if_false];show wpAny _ _ (if (Value.ref d==Value.none)=true then _ else _) _ _ s;rw[if_neg (by grind)];show aa (af ?_);show aa (gk I J ?_);rw[if_neg (by simp)];show aa (af ?_);show aa (wpAny_dictEpoch I J ?_);rw[if_neg (by simp)];show af ?_;simp only[show ¬ ((i:Int)<0) from by lia,if_false,aQ,hx];show aa ?_
 first | show aa (cE q.typeIs (af ?_)) | show aa (by grind)
 show aa (wpAny_isOneOf_keyiter q.typeIs ?_);change wpAny _ _ (setField (.ref B) 1 (rawInt ((i:Int)+1)) >>= _) _ _ s;show aa (bJ Z Y (by simp) ?_)
 have F:(s.heap.update B (Obj.mapFields (·.setIfInBounds 1 (rawInt ((i:Int)+1))))).IsKeyIter B d (i+1) es.size U:=
  #[_,bu _ Z (dC (ci Y _)),(eE ..).trans hc,by rw[ci Y];simp[rawInt]]
 show aa (bS ?_);show aa (wpAny_isOneOf_keyiter (s:={ s with heap:=s.heap.update B (Obj.mapFields (·.setIfInBounds 1 (rawInt ((i:Int)+1)))) }) F.typeIs ?_);change wpAny _ _ (pure e.key) _ _ _;show af (af (hQ _ F (bq ..)))
def zhJ(q:s.heap.IsKeyIter B d i es.size F)(I:zas s.heap d es F)(J:es[i]?=some e)(O:∀h',h'.IsKeyIter B d (i+1) es.size F->Heap.SameBut B s.heap h'->Q (some e.key) { s with heap:=h' }):Ag prog w A (pyNext (.ref B)) Q E s:=by
 unfold pyNext
 show aa (cG (wpAny_callSpecial?_slot (name:=Str.ofString "__next__") q.typeIs b7
  (aW b7 q.typeIs dW (zlK q I J λh' a b=>#[_,BB,af (O h' a b)]) (dQ _))))
def zoP(Z:A.handled=none)(q:s.heap.IsKeyIter J d es.size es.size O)(hm:zas s.heap d es O)(hE:∀h' x,Heap.ExtBut J s.heap h'->(∃o,h'.get? x=some o/\o.cls = .type "StopIteration")->E (.ref x) { s with heap:=h' }):Ag prog w A (Builtin.«dict_keyiterator.__next__» { pos:=[Value.ref J] }) Q E s:=by
 obtain⟨o,U,hc,Y⟩:=id q;obtain⟨od,B,ac,F⟩:=id hm;show aa (af ?_);show aa ?_;show aa ?_
 first | show aa (cE q.typeIs (af ?_)) | show aa (by grind)
 show aa (fZ U Y ?_);have I:Builtin.Dict_items.ownsTuple "dict_keyiterator" = false:=by ext
 simp only[I,aV,if_false];show wpAny _ _ (if (Value.ref d==Value.none)=true then _ else _) _ _ s;rw[if_neg (by grind)];show aa (af ?_);show aa (gk B F ?_);rw[if_neg (by simp)];show aa (af ?_);show aa (wpAny_dictEpoch B F ?_);rw[if_neg (by simp)];show af ?_;simp only[show ¬ ((es.size:Int)<0) from by lia,if_false,aQ,Array.getElem?_eq_none (ai es.size)];show aa ?_
 first | show aa (cE q.typeIs (af ?_)) | show aa (by grind)
 change wpAny _ _ (setField (.ref J) 0 .none >>= _) _ _ s;show aa (bJ U Y (by simp) ?_);change wpAny _ _ (newExc (.type "StopIteration") [] >>= _) _ _ _;show aa ?_;simp only[newExc,newTuple];show aa (bn ?_ (by size_fits));show aa (m:=firstArgMember _ _) (wpAny_of_eq (a:=Value.none) (by first | rfl | (simp only[firstArgMember];rfl)) ?_);show bn ?_ (by size_fits);simp only[raiseNew];show aa (gr ?_);rw[Z];show aa (af (wpAny_throw ?_));show hE _ _ (((bq ..).extBut.push _).push _) #[_,av _ BB,BB]
def zjK(I:A.handled=none)(q:s.heap.IsKeyIter B d es.size es.size F)(J:zas s.heap d es F)(O:∀h',Heap.ExtBut B s.heap h'->Q none { s with heap:=h' }):Ag prog w A (pyNext (.ref B)) Q E s:=by
 unfold pyNext
 show aa (cG (wpAny_callSpecial?_slot (name:=Str.ofString "__next__") q.typeIs b7
  (aW b7 q.typeIs dW (zoP I q J λh' x a b=>?_) (dQ _))))
 show aa (cU (T := "StopIteration") (b:=true) b dP (af (O _ a)))
def zhy (hh:A.handled=none)(I d:Addr)(J:d≠I)(U:Nat) :
  Walks prog w A I [I,d] [I] es.size (λi v=>∃e,es[i]?=some e/\v=e.key) (λi h=>h.IsKeyIter I d i es.size U/\zas h d es U) where
 sub:=λb q=>by simp at q;simp[q]
 frame:=λ_ _ _ st Y=>#[let ⟨o,ho,r⟩:=st.1;#[o,Y I (by simp) o ho,r],st.2.keep λo e=>Y d (by simp) o e]
 item:=λi s Q E hi st B=>by show zhJ st.1 st.2 (aR hi) λh' F Z=>?_;show B _ h' s.toks #[_,aR hi,BB] #[F,st.2.keep λo e=>(Z.2 d J).trans e] λb o q e=>Z.extBut b o (λh=>q (by simp[h])) e
 done:=λs Q E st B=>zjK hh st.1 st.2 λh' O=>B h' s.toks λb o q e=>O b o (λh=>q (by simp[h])) e
 self:=λ_ _ _ _ st B=>wpAny_pyIter_keyiter st.1 B
def zlg (d:Addr)(B:Nat)(lo:(d==sysModules)=false):KdlSrc prog w "dict" d d es.size (λi v=>∃e,es[i]?=some e/\v=e.key) (λh=>zas h d es B) where
 type:=λs S=>S.typeIs
 there:=λ_ S=>#[S.lt,S.lt]
 keep:=λ_ _ S F=>S.keep λo e=>F d (.inl BB) o e
 notList:=by ext
 notTuple:=by ext
 hint:=λ_ _ _ _ S q=>kdl_hint_dict S.typeIs q
 iter:=λA s I S=>#[_,_,(λ_ _ q=>zjc lo S q),zhy I _ d (aN S.lt) B,#[#[_,av _ BB,BB,BB],S.keep λo e=>ae _ e]]
variable {X:Cx}
end
def zds (BD:List (AG×V)):List (List Key×V):=BD.map λq=>(q.1.map Sum.inl,q.2)
def dtO (BD:List (AG×V)):HO:=.dT (zds BD)
def zgV (BD:List (AG×V))(st:AG):uE (zds BD) (st.map Sum.inl)=uE BD st:=by
 unfold zds
 induction BD with
 | nil=>rfl
 | cons q r B=>
  rw[aD];by_cases e:q.1=st;rw[yd (p:=q) e,yd (p:=(q.1.map Sum.inl,q.2)) (by rw[e])];rw[yc (p:=q) e,yc (p:=(q.1.map Sum.inl,q.2)) (λz=>e (um z)),B]
def zlJ (BD:List (AG×V))(st:AG)(v:V):zah (zds BD) (st.map Sum.inl) v=zds (zah BD st v):=by
 have B:∀q:AG×V,decide ((q.1.map (Sum.inl:Int->Key))=st.map Sum.inl)=decide (q.1=st):=λq=>by rw[cb,cz,cz];show#[um,λz=>by rw[z]]
 have F:((zds BD).any λkv=>decide (kv.1=st.map Sum.inl))=BD.any λkv=>decide (kv.1=st):=by unfold zds;rw[List.any_map];congr 1;funext q;show B q
 unfold zah;rw[F];by_cases h:(BD.any λkv=>decide (kv.1=st))=true;rw[if_pos h,if_pos h];unfold zds;rw[aO,aO];show cP λq _=>?_;grind;rw[if_neg h,if_neg h];unfold zds;right
def zc0.i{BD:List (AG×V)}{st:AG}(e:H a=some (dtO BD))(q:H b=some (.tup (st.map V.int))):zc0 H a (.ref b) (uE BD st):=by have:=zc0.t (k:=st.map Sum.inl) e (by rw[zch];show q);rwa[zgV] at this
def zfE.i{BD:List (AG×V)}{st:AG}(e:H a=some (dtO BD))(q:H b=some (.tup (st.map V.int)))(B:BD.length<sizeLine):zfE H a (.ref b) v (upd H a (dtO (zah BD st v))):=by have:=zfE.t (k:=st.map Sum.inl) (v:=v) e (by rw[zch];show q) (by unfold zds;rw[ab];show B);rwa[zlJ] at this
def zqr:TE:=λ_ H Q=>New H (dtO []) Q
section
variable {X:Cx}
def zmi:QE X (.Dict [] [] pos) zqr:=#[λBC s G H Q I h=>zha BC s G H Q I λp q=>h.at q]
def zlk {BC:AB}{G:St}{H:Hp}{s:AZ}(I:Inv X BC G H s){a:Addr}{BD:List (AG×V)}(h:Rd H a (dtO BD)) :
  (a==sysModules)=false/\∃ (es:Array DictEntry) (B:Nat) (ys:AE),zas s.heap a es B/\ys.map (·.1)=BD.map (·.1)/\(∀q∈ys,H q.2=some (.tup (q.1.map V.int)))/\es.toList.map (·.key)=ys.map (λq=>Value.ref q.2)/\BD.length<=sizeLine/\(BD.map (·.1)).Nodup:=by
 obtain⟨z,lo,xs,r,o,es,B,h1,h2,h3,h4,Y⟩:=(show yk X.prog X.w H s.heap a (.dT (zds BD)) from zp7 I.hok h)
 have F:∀ {BD:List (AG×V)} {xs:List (List Key×Addr×Value)},Paired (λ(p:List Key×V) (q:List Key×Addr×Value)=>p.1=q.1/\H q.2.1=some (.tup (p.1.map kV))/\yo p.2 q.2.2) (zds BD) xs->
   ∃ys:AE,ys.map (·.1)=BD.map (·.1)/\(∀q∈ys,H q.2=some (.tup (q.1.map V.int)))/\xs.map (λq=>Value.ref q.2.1)=ys.map (λq=>Value.ref q.2)/\xs.map (·.1)=BD.map (λq=>q.1.map Sum.inl):=by
  intro BD
  induction BD with
  | nil=>intro xs r;cases r;show#[[],BB,λ_ h=>by simp at h,BB,BB]
  | cons q BD ih=>
   intro xs r
   cases r with
   | cons r1 r2=>
    rename_i x ac;obtain⟨ys,Z,J,e3,e4⟩:=ih r2;show#[(q.1,x.2.1)::ys,by right,λy O=>?_,by right,by right];rcases ay.mp O with rfl | O
    have:=r1.2.1;rwa[show ((q.1.map Sum.inl,q.2):List Key×V).1=q.1.map Sum.inl from rfl,zch] at this;show J y O
 obtain⟨ys,Z,J,e3,e4⟩:=F r;show#[lo,es,B,ys,#[o,h1,h2,h3],Z,J,?_,?_,?_];rw[h4,aO,<- e3];rfl;unfold zds at z;right;rw[e4] at Y;have U:((BD.map (·.1)).map λst:AG=>st.map (Sum.inl:Int->Key)).Nodup:=by rw[aO];show Y
 show (b6.mp U).imp λh z=>h (by rw[z])
def zkf:AT->Hp->VK->Prop:=λxs H Q=>∃ (a:Addr) (BD:List (AG×V)),xs=[.ref a]/\H a=some (dtO BD)/\((BD.map (·.1)).Nodup->∀ys:AT,IsL H ((BD.map (·.1)).map stD) ys->New H (.lst ys) Q)
def zlb (Y:X.calm=true):CallQ X (.type "list") zkf:=#[by
 intro BC s G H xs us Q I r h;obtain⟨a,BD,rfl,Z,q⟩:=h;obtain⟨u,rfl,ru⟩:=za7 r;cases ru;obtain⟨lo,es,ep,ys,E,O,e2,U,hz,J⟩:=zlk I (.inl Z)
 have hl:es.size=ys.length:=by
  have:=congrArg List.length U;grind
 have ac:ys.length=BD.length:=by
  have:=congrArg List.length O;grind
 show kdl_call (zlg (es:=es) a ep lo) (I.ok.hd Y) E (by right) λh' tk acc c kp hg B=>?_
 have F:acc.toList=ys.map λq=>Value.ref q.2:=by
  rw[<- U];show eZ (by rw[aG,B.1,ab,aG]) λj h1 h2=>?_;obtain⟨e,he,hv⟩:=B.2 j acc.toList[j] (by simp);rw[hv,cD];rw[zc1] at he;rw[ab] at h2;right
 show#[.ref s.heap.objs.size,_,I.laid (t':=tk) (o:=.lst (ys.map λq=>V.ref q.2)) kp (ai _) #[by right,ys.map (λq=>Value.ref q.2),c,zcZ ys,?_],BB,(q J _ ?_).at (I.hok.fresh (ai _))];rw[<- F,Array.toArray_toList];show hg;rw[<- O];show zdX e2]
end
abbrev Up' (l:AF):Prop:=l.Pairwise λa b=>HT.lexLt a b=true
def zoA (x:AG):AF->AF
 | []=>[x]
 | y::r=>if HT.lexLt x y then x::y::r else if x=y then y::r else y::zoA x r
def zgv (l:AF):AF:=l.foldr zoA []
theorem zdT {x z:AG}:∀ {l:AF},z∈zoA x l↔z=x\/z∈l
 | []=>by change z∈[x]↔_;simp
 | y::r=>by
  unfold zoA;split;simp;split;right;rw[ay,zdT,ay];grind
theorem u6 {z:AG}:∀ {l:AF},z∈zgv l↔z∈l
 | []=>Iff.rfl
 | x::l=>by change z∈zoA x (zgv l)↔_;rw[zdT,u6,ay]
theorem zi3 {x:AG}{m:Nat}(F:x.length=m):∀ {l:AF},(∀y∈l,y.length=m)->Up' l->Up' (zoA x l)
 | [],_,_=>et _ _
 | y::r,I,B=>by
  have J:=I y am;rw[Up',a8] at B;unfold zoA;split
  ·rename_i h;show a8.mpr #[λz q=>?_,a8.mpr B];rcases ay.mp q with rfl | q
   show h;show zaN (F.trans J.symm) (by grind) h (B.1 z q)
  ·rename_i h;split
   show a8.mpr B
   ·rename_i O;show a8.mpr #[λz q=>?_,zi3 F (λz q=>I z (ar _ q)) B.2];rcases zdT.mp q with rfl | q
    ·rcases uO (a:=z) (b:=y) (F.trans J.symm) with e | e | e
     all_goals right
    show B.1 z q
def zkv{l:AF}(h:∀y∈l,y.length=m):∀y∈zgv l,y.length=m:=λy q=>h y (u6.mp q)
theorem zew:∀ {l:AF},(∀y∈l,y.length=m)->Up' (zgv l)
 | [],_=>.nil
 | x::l,h=>zi3 (h x am) (zkv λy q=>h y (ar _ q)) (zew λy q=>h y (ar _ q))
theorem zkP:∀ {l l':AF},(∀y∈l,y.length=m)->Up' l->Up' l'->(∀z,z∈l↔z∈l')->l=l'
 | [],[],_,_,_,_=>rfl
 | [],y::r,_,_,_,h=>absurd ((h y).mpr am) (by simp)
 | x::l,[],_,_,_,h=>absurd ((h x).mp am) (by simp)
 | x::l,y::r,F,I,q,h=>by
  rw[Up',a8] at I q;have B:∀z∈y::r,z.length=m:=λz J=>F z ((h z).mpr J)
  have e:x=y:=by
   rcases ay.mp ((h x).mp am) with e | e;show e;rcases ay.mp ((h y).mpr am) with O | O;show O.symm;have h1:=q.1 x e;have h2:=I.1 y O;have Y:=zaN ((F x am).trans (B y am).symm) ((B y am).trans (F x am).symm) h2 h1;rw[xk] at Y;cases Y
  subst e;have U:∀ {l:AF},(∀z∈l,HT.lexLt x z=true)->x∉l:=λZ z=>by have:=Z x z;rw[xk] at this;cases this
  congr 1;show zkP (λz J=>F z (ar _ J)) I.2 q.2 λz=>?_;grind
def zhk{l l':AF}(q:∀y∈l,y.length=m)(B:Up' l')(h:∀z,z∈l'↔z∈l):l'=zgv l:=
 zkP (λy F=>q y ((h y).mp F)) B (zew q) λz=>(h z).trans u6.symm
def zmQ {l:AF}(h:Up' l):l.Nodup:=h.imp λ{a b} q e=>by subst e;rw[xk] at q;cases q
def xY (bk:AW)(st hs:AG):AF:=(bk.filter λx=>zbd st x&&!hs.contains x.b).map λx=>chg st x.b x.r
def zbr (bk:AW)(st hs:AG):AF:=zgv (xY bk st hs)
def uL{st hs z:AG}:z∈xY bk st hs↔∃x∈bk,zbd st x=true/\x.b∉hs/\z=chg st x.b x.r:=by
 unfold xY;grind
def zce{rm:AG}{st hs:AG}(q:∀x∈bk,WishOk rm x)(F:st.length=rm.length):∀z∈xY bk st hs,z.length=rm.length:=λz I=>by obtain⟨x,B,_,_,rfl⟩:=uL.mp I;have h1:=(q x B).b1;rw[zim (q x B).b0 (by lia)];show F
def zaC (H:Hp)(v:V)(hs:AG):Prop:=(v = .non/\hs=[])\/∃p,v = .ref p/\H p=some (.tup (hs.map V.int))
def zaC.stay{hs:AG}(h:zaC H v hs)(s:zy H H'):zaC H' v hs:=by
 rcases h with h | ⟨p,e,h⟩;show .inl h;show .inr #[p,e,s.tup h]
def zab(s:zy A B){hs:AG}(h:zaC A v hs):zaC B v hs:=h.stay s
def zhs (H:Hp)(l:Addr)(BF:AF):Prop:=∃ys,H l=some (.lst ys)/\IsL H (BF.map stD) ys
def zhs.stay{BF:AF}(h:zhs H l BF)(s:zy H H'):zhs H' l BF:=let ⟨ys,h1,h2⟩:=h;#[ys,s.lst h1,h2.stay s]
def zac(s:zy A B){BF:AF}(h:zhs A l BF):zhs B l BF:=h.stay s
def znK:Sp:=λvs H Q _=>∃ (F q:V) (B a:Addr) (rm:AG) (xs:AT) (bk:AW) (st hs:AG),vs=[F,.ref B,.ref a,q]/\1<=rm.length/\rm.length<=8/\BookAt H rm B xs bk/\(∀r∈rm,2<=r/\r<=4)/\H a=some (.tup (st.map V.int))/\st.length=rm.length/\zaC H q hs/\
 ∀ (l:Addr) (H':Hp),H l=none->zhs H' l (zbr bk st hs)->yT H H'->Q (.ref l) H'
theorem zaQ {α:Type}[BEq α][LawfulBEq α]:∀ {l l':List α},l.Nodup->(∀x∈l,x∈l')->l.length<=l'.length
 | [],_,_,_=>aI _
 | a::l,l',hn,h=>by
  rw[c7] at hn;have q:=h a am;have:=zaQ (l:=l) (l':=l'.erase a) hn.2 λx B=>by grind
  grind
def zcd{rm:AG}{st hs:AG}{ks:AF}(q:∀x∈bk,WishOk rm x)(U:rm.length<=8)(B:∀r∈rm,2<=r/\r<=4)(hn:ks.Nodup)(F:∀z∈ks,z∈xY bk st hs):ks.length<=32:=by
 have:=zaQ (l':=(List.range 32).map λc=>chg st ((c / 4:Nat):Int) ((c % 4:Nat):Int)) hn λz I=>by obtain⟨x,J,_,_,rfl⟩:=uL.mp (F z I);have o:=q x J;have h1:=o.b1;have h2:=o.b0;have O:=o.r0;have Y:=o.r1;have Z:=(xt B h2 h1).2;show aF.mpr #[4 * x.b.toNat+x.r.toNat,aK.mpr (by lia),?_];rw[show (4 * x.b.toNat+x.r.toNat) / 4=x.b.toNat by lia,show (4 * x.b.toNat+x.r.toNat) % 4=x.r.toNat by lia,fN h2,fN O]
 right
def zn2{rm:AG}{st hs:AG}(q:∀x∈bk,WishOk rm x)(B:rm.length<=8)(F:∀r∈rm,2<=r/\r<=4)(I:st.length=rm.length):(zbr bk st hs).length<=32:=
 zcd (hs:=hs) q B F (zmQ (zew (zce q I))) λz J=>u6.mp J
end L2
namespace L2
open PyProof.Rows PySem.SeqAt
theorem zb3:∀ds:AS,Dt.toWs ds=ds.map Dt.toW
 | []=>rfl
 | d::ds=>by rw[Dt.toWs,aD,zb3 ds]
theorem ze1:∀ds:List PySem.W.Dat,PySem.W.kqdPs ds=ds.map PySem.W.kqdP
 | []=>by simp[PySem.W.kqdPs]
 | d::ds=>by rw[aD,<- ze1 ds];simp[PySem.W.kqdPs]
def zvv (q:Bool):R2:=λx y H Q=>∃d ds,Is H d x/\(Is H (.lst ds) y\/Is H (.tup ds) y)/\d.eqOk/\(Dt.lst ds).eqOk/\∀b:Bool,(b=true↔d∈ds)->Q (.bl (if q then !b else b)) H
section
variable {X:Cx}
def zdY(h:(Dt.lst ds).eqOk):∀d∈ds,PySem.W.kqdOk 7 d.toW=true:=λd q=>by
 have h':PySem.W.kqdOk 8 (Dt.lst ds).toW=true:=h;simp only[Dt.toW,PySem.W.kqdOk,bT,zb3] at h';right
def zfI(q:d.eqOk)(hs:(Dt.lst ds).eqOk):((PySem.W.kqdPs (Dt.toWs ds)).any λy=>PyData.eqv y (PySem.W.kqdP d.toW))=true↔d∈ds:=by
 rw[ze1,zb3,aO,List.any_map,List.any_eq_true];constructor;rintro⟨e,B,h⟩;have:=(PySem.W.kqd_eqv 7 e.toW d.toW 8 (zdY hs e B) q).mp h;rw[<- zgx this];show B;intro h;show#[d,h,(PySem.W.kqd_eqv 7 d.toW d.toW 8 (zdY hs d h) q).mpr BB]
def zlM(h:PySem.W.kqdOk 7 d=true):PySem.W.kqdOk 8 d=true:=by
 have q:∀ (n:Nat) (d:PySem.W.Dat),PySem.W.kqdOk n d=true->PySem.W.kqdOk (n+1) d=true:=by
  intro n
  induction n with
  | zero=>intro d h;cases d <;> simp_all [PySem.W.kqdOk]
  | succ n B=>
   intro d h;cases d <;> simp_all [PySem.W.kqdOk]
 show q 7 d h
def znj {d:Dt}{ds:AS}{u:Nat}(I:d.eqOk)(hs:(Dt.lst ds).eqOk)(U:u+64<cLine):PyData.canLayAll0 (PySem.W.kqdPs (Dt.toWs ds))=true/\(PySem.W.kqdP d.toW).canLay0=true/\u+1+min (PyData.depthAll (PySem.W.kqdPs (Dt.toWs ds))) (PySem.W.kqdP d.toW).depth<cLine:=by
 have B:=PySem.W.kqd_lay 8 _ I;have J:=PySem.W.kqd_layL (ds:=Dt.toWs ds) λe F=>by rw[zb3] at F;obtain⟨O,q,rfl⟩:=aF.mp F;show zlM (zdY hs O q)
 show#[J.1,B.1,?_];have:min (PyData.depthAll (PySem.W.kqdPs (Dt.toWs ds))) (PySem.W.kqdP d.toW).depth<=8:=aq (Nat.min_le_right _ _) B.2;lia
def zjW (Z:X.A.units+64<cLine):OpQ X (compareOp .NotIn) (zvv true):=#[by
 intro BC s G H x y v u Q I rx J h;obtain⟨d,ds,hd,B,F,ks,q⟩:=h;obtain⟨as,ra⟩:=xg I.hok 8 hd rx F;obtain⟨O,U,Y⟩:=znj F ks Z;rcases B with B | B;obtain⟨bs,rb⟩:=xg I.hok 8 B J ks;show notIn_list_reads rb ra O U Y #[.bl _,H,I,BB,q _ (zfI F ks)];obtain⟨bs,rb⟩:=xg I.hok 8 B J (show (Dt.tup ds).eqOk from ks);show notIn_tuple_reads rb ra O U Y #[.bl _,H,I,BB,q _ (zfI F ks)]]
end
def zr2 (bk:AW)(q:Int)(st:AG):AF:=(bk.filter λx=>decide (x.b=q)&&x6 st x.g).map λx=>[x.w,x.r]
def lpF (bk:AW)(q:Int)(st:AG):AF:=zgv (zr2 bk q st)
def zmK (C:Nat->Nat->Bool)(w j:Nat):AF:=((List.range j).filter (C w)).map λb:Nat=>[(w:Int),(b:Int)]
def zvK (C:Nat->Nat->Bool)(n:Nat):Nat->AF
 | 0=>[]
 | i+1=>zvK C n i++zmK C i n
def zbn {a b:AG}(h:stD a=stD b):a=b:=by have:=congrArg (List.map Dt.val) (Dt.tup.inj h);rwa[uu,uu] at this
open PySem.W PySem.Calls
section
variable {prog:Aa}{w:Ab}{A:Ae}{E:AA}{s:AZ}{R:Result->AZ->Prop}
variable {X:Cx}
variable {e st:Expr}{te tk:TE}{pos p2:Pos}
end
def unlike (one z hs:AG):AG:=hs.filter λb=>decide (zN one b≠zN z b)
section
variable {X:Cx}{pos:Pos}
end
def zo8 {z:AG}{l:AF}:stD z∈l.map stD↔z∈l:=by rw[aF];show#[by rintro⟨y,q,e⟩;show zbn e ▸ q,λh=>#[z,h,BB]]
end L2
namespace L2
open PyProof.Rows
end L2
namespace L2
open PyProof.Rows
section
variable {M:Model}{A:Ae}{E:AA}{s:AZ}
variable {X:Cx}{BC:AB}{G:St}{H:Hp}{scope:Scope}{N:AM}{z:Str}{BE:List (Option Nat)}
end
end L2
namespace L2
open PyProof.Rows
end L2
namespace L2
open PyProof.Rows
section
variable {prog:Aa}{w:Ab}{A:Ae}{E:AA}{s:AZ}{R:Result->AZ->Prop}{Kt:Type}[DecidableEq Kt]{knd:KeyKind prog w Kt}{κ:Int->Kt}
end
end L2
namespace L2
open PyProof.Rows
def zaz {X:Cx}{BC:AB}{G:St}{H:Hp}{s:AZ}{a:Addr}{xs:AT}(I:Inv X BC G H s)(h:SqL X.K H a xs):∃q:AN,zR xs q/\s.heap.IsList a q.toArray/\xs.length<=sizeLine:=by obtain⟨q,r,⟨o,n,e,c,_,d⟩,z⟩:=I.list h;show#[q,r,#[o,e,c,n,d],z]
def Izl (K:AH)(a b:Addr):It:=
 #[λi H=>∃xs ys x y,SqL K H a xs/\SqL K H b ys/\xs[i]?=some x/\ys[i]?=some y,λi H v H'=>∃T x y,v = .ref T/\H T=none/\H'=upd H T (.tup [x,y])/\(∀xs,SqL K H a xs->xs[i]?=some x)/\∀ys,SqL K H b ys->ys[i]?=some y,λi H=>∃xs ys,SqL K H a xs/\SqL K H b ys/\(xs.length<=i\/ys.length<=i)]
def zkK{P:Aa}{w:Ab}{K:AH}{a5:AO}{x1}(z TI TO U Y a b:Addr)(BH:ZipApart z TI TO U Y a b) :
  Turn P w K (.Tuple a5 x1 tpos) (Izl K a b) [z,TI,TO,U,Y] z (λi h=>IsZip h z TI TO .none/\IsPair h TI (.ref U) (.ref Y)/\(∃c d,IsPair h TO c d)/\h.IsListIter U a i/\h.IsListIter Y b i) where
 mem:=by simp
 obj:=λi h st c J=>by
  obtain⟨hz,Z,⟨u,v,ad⟩,⟨o1,e1,c1,d1⟩,⟨o2,e2,c2,d2⟩⟩:=st;grind
 keep:=λi h h' st k=>by obtain⟨hz,Z,⟨u,v,ad⟩,⟨o1,e1,r1⟩,⟨o2,e2,r2⟩⟩:=st;show#[k z (by simp) _ hz,k TI (by simp) _ Z,#[u,v,k TO (by simp) _ ad],#[o1,k U (by simp) _ e1,r1],#[o2,k Y (by simp) _ e2,r2]]
 item:=by
  intro X hP hw hK J i BC s G H E I hf st hg;subst hP hw hK;obtain⟨xs,ys,x,y,an,ap,hx,hy⟩:=hg;obtain⟨a7,a1,p1,cn⟩:=zaz I an;obtain⟨ba,a2,p2,co⟩:=zaz I ap;obtain⟨u1,bs,bx⟩:=a1.get hx;obtain⟨u2,b0,b1⟩:=a2.get hy;have fz:=hf z (by simp);have B:=hf TO (by simp);have f1:=hf U (by simp);have f2:=hf Y (by simp);obtain⟨hz,Z,⟨c0,d0,ad⟩,as,a0⟩:=st;have hT:s.TypeIs (.ref z) "zip" := #[_,hz,BB];unfold pyNext
  show aa (cG (wpAny_callSpecial?_slot (name:=Str.ofString "__next__") hT cQ
   (aW cQ hT ff (zip_next_item (A:=X.A.in1) BH hz Z ad as a0 p1 p2 (x:=u1) (y:=u2) (by simpa using bs) (by simpa using b0) λh' gz b2 b3 b4 gT cp hk=>?_) (eJ _))))
  show af #[_,BB,?_];show wpAny_letOwnedTupleGo_zip (s:={ s with heap:=h' }) gz λal bb ac=>?_;have nz:∀b' o',s.heap.get? b'=some o'->s.heap.objs.size≠b':=λb' o' e=>dy (aw e);have bc:s.heap.objs.size≠z:=nz z _ hz;have bd:s.heap.objs.size≠TO:=nz TO _ ad;have b5:s.heap.objs.size≠U:=by obtain⟨o,ho,_⟩:=as;show nz U _ ho
  have ca:s.heap.objs.size≠Y:=by obtain⟨o,ho,_⟩:=a0;show nz Y _ ho
  have be:s.heap.objs.size≠TI:=nz TI _ Z;have F:=I.hok.fresh (ai s.heap.objs.size);have kp:∀c o,c≠z->c≠TO->c≠U->c≠Y->s.heap.get? c=some o->al.get? c=some o:=λc o h1 h2 h3 h4 hb=>(ac.2 c h1).trans (hk c o h1 h2 h3 h4 hb);have bk:al.get? s.heap.objs.size=some { cls:=.type "tuple",data:=.seq #v[u1,u2] }:=(ac.2 _ bc).trans gT;have cd:∀b' u',H b'=some u'->b'≠z/\b'≠TO/\b'≠U/\b'≠Y:=λb' u' hb=>#[zc hb fz.1,zc hb B.1,zc hb f1.1,zc hb f2.1]
  have bl:HOk X.prog X.w (upd H s.heap.objs.size (.tup [x,y])) al:=by
   intro b' u' hb;by_cases bo:b'=s.heap.objs.size;subst bo;rw[zi] at hb;cases hb;show#[by change 2<=sizeLine;decide,[u1,u2],.cons bx (.cons b1 .nil),_,bk,BB,#[0,BB],BB]
   ·rw[zf bo] at hb;show (I.hok b' u' hb).stay (λc v O q=>?_) (λc q=>?_) (λc ys q=>?_)
    ·have:c≠z/\c≠TO/\c≠U/\c≠Y:=by
      rcases O with rfl | O
      all_goals right
     right
    rw[zf (zc q F)];show q;rw[zf (zc q F)];show q
  have ag:∀c o,c∉[z,TO,U,Y]->s.heap.get? c=some o->al.get? c=some o:=λc o J e=>kp c o (λq=>J (by simp[q])) (λq=>J (by simp[q])) (λq=>J (by simp[q])) (λq=>J (by simp[q])) e
  have I1:Inv X BC G (upd H s.heap.objs.size (.tup [x,y])) { s with heap:=al,toks:=s.toks }:=by
   show Inv.step (ch:=[z,TO,U,Y]) (g':=s.gens) (d':=s.drawn) (t':=s.toks) I (λc J=>?_) (λc o h1 h2 h3 h4 h5=>?_) (λc o h1 h2 h3 h4 h5=>?_) (λc o h3 h4 h5=>?_) (λc o h3 h4=>?_) (λc ys q=>?_) (λc o u' q=>?_) (λc ps q=>?_) (λm hm=>?_) bl I.bare;simp only[ay,bB,or_false] at J;rcases J with rfl | rfl | rfl | rfl;show#[fz.2.2.2.1,fz.2.1,fz.2.2.2.2.1,fz.2.2.2.2.2];show#[B.2.2.2.1,B.2.1,B.2.2.2.2.1,B.2.2.2.2.2];show#[f1.2.2.2.1,f1.2.1,f1.2.2.2.2.1,f1.2.2.2.2.2];show#[f2.2.2.2.1,f2.2.1,f2.2.2.2.2.1,f2.2.2.2.2.2];show ag c o h3 h4;show#[o.slots,ag c o h3 h4];rw[zf (aN (aw h4))];show h5;show#[o,ag c o h3 h4];rw[zf (zc q F)];show q;rw[zf (zc q F)];show q;show#[#v[],by rw[zf (zc q F),em];show q];obtain⟨o,es,ep,a3,r1⟩:=hm;show#[o,es,ep,kp _ o (Ne.symm fz.2.1) (Ne.symm B.2.1) (Ne.symm f1.2.1) (Ne.symm f2.2.1) a3,r1]
  show#[.ref s.heap.objs.size,_,I1,BB,#[s.heap.objs.size,x,y,BB,F,BB,λzs a4=>by rw[I.list_inj a4 an];show hx,λzs a4=>by rw[I.list_inj a4 ap];show hy],#[bb,?_,#[_,_,(ac.2 TO BH.TOz).trans b2],?_,?_],λc J=>?_];show kp TI _ BH.TIz BH.TITO BH.TIi1 BH.TIi2 Z;obtain⟨o,ho,r⟩:=b3;show#[o,(ac.2 U BH.i1z).trans ho,r];obtain⟨o,ho,r⟩:=b4;show#[o,(ac.2 Y BH.i2z).trans ho,r];simp only[ay,bB,or_false] at J;rcases J with rfl | rfl | rfl | rfl | rfl;rw[zf (Ne.symm bc)];show fz.1;rw[zf (Ne.symm be)];show (hf _ (by simp)).1;rw[zf (Ne.symm bd)];show B.1;rw[zf (Ne.symm b5)];show f1.1;rw[zf (Ne.symm ca)];show f2.1
 done:=by
  intro X hP hw hK J i BC s G H E I hf st hg;subst hP hw hK;obtain⟨xs,ys,an,ap,hx⟩:=hg;obtain⟨a7,a1,p1,cs⟩:=zaz I an;obtain⟨ba,a2,p2,cl⟩:=zaz I ap;have fz:=hf z (by simp);have B:=hf TO (by simp);have f1:=hf U (by simp);have f2:=hf Y (by simp);obtain⟨hz,Z,⟨c0,d0,ad⟩,as,a0⟩:=st;have cu:=a1.length;have cv:=a2.length;have hT:s.TypeIs (.ref z) "zip" := #[_,hz,BB];unfold pyNext
  show aa (cG (wpAny_callSpecial?_slot (name:=Str.ofString "__next__") hT cQ
   (aW cQ hT ff (zip_next_end (A:=X.A.in1) (I.ok.hd J) BH hz Z ad as a0 p1 p2 (hx.elim (λz=>.inl (by simp;lia)) λz=>.inr (by simp;lia)) λh' e ko he=>?_) (eJ _))))
  obtain⟨o,ho,cc⟩:=he;show aa (cU (T := "StopIteration") (b:=true) #[o,ho,cc] dP ?_);show af #[BB,?_];have ag:∀c o,c∉[z,TO,U,Y]->s.heap.get? c=some o->h'.get? c=some o:=λc o J e=>ko c o (λq=>J (by simp[q])) (λq=>J (by simp[q])) (λq=>J (by simp[q])) (λq=>J (by simp[q])) e;show Inv.step (ch:=[z,TO,U,Y]) (g':=s.gens) (d':=s.drawn) (t':=s.toks) I (λc J=>?_) (λc o h1 h2 h3 h4 h5=>ag c o h3 h4) (λc o h1 h2 h3 h4 h5=>#[o.slots,ag c o h3 h4]) (λc o h3 h4 h5=>h5) (λc o h3 h4=>#[o,ag c o h3 h4]) (λc ys q=>q) (λc o u' q=>q) (λc ps q=>#[#v[],by right]) (λm hm=>?_) (λb' u' hb=>?_) I.bare;simp only[ay,bB,or_false] at J;rcases J with rfl | rfl | rfl | rfl;show#[fz.2.2.2.1,fz.2.1,fz.2.2.2.2.1,fz.2.2.2.2.2];show#[B.2.2.2.1,B.2.1,B.2.2.2.2.1,B.2.2.2.2.2];show#[f1.2.2.2.1,f1.2.1,f1.2.2.2.2.1,f1.2.2.2.2.2];show#[f2.2.2.2.1,f2.2.1,f2.2.2.2.2.1,f2.2.2.2.2.2];obtain⟨o,es,ep,a3,r1⟩:=hm;show#[o,es,ep,ko _ o (Ne.symm fz.2.1) (Ne.symm B.2.1) (Ne.symm f1.2.1) (Ne.symm f2.2.1) a3,r1];show (I.hok b' u' hb).stay (λc v O q=>?_) (λc q=>q) (λc ys q=>q)
  have:c≠z/\c≠TO/\c≠U/\c≠Y:=by
   rcases O with rfl | O;show#[zc hb fz.1,zc hb B.1,zc hb f1.1,zc hb f2.1];show#[zc O fz.1,zc O B.1,zc O f1.1,zc O f2.1]
  show ko c v this.1 this.2.1 this.2.2.1 this.2.2.2 q
 self:=λA i s Q E st h=>by obtain⟨hz,_⟩:=st;show fg hz h
def zrt (K:AH)(ta:TA):TI:=λG H R=>ta G H λvs H1=>∃a b,vs=[.ref a,.ref b]/\(∃xs,SqL K H1 a xs)/\(∃ys,SqL K H1 b ys)/\R (Izl K a b) H1
def zpC {X:Cx}{F:AO}{x1}{tpos:Pos}{a b:Expr}{ta:TA}{p pos:Pos}(hg:Gl X "zip")(hm:X.mg "zip" = none)(ha:PA X [a,b] ta)(hs:starEach [a,b] X.env=[(false,eval a X.env),(false,eval b X.env)]:=by rfl)(J:starEach [b] X.env=[(false,eval b X.env)]:=by rfl) :
  PI X (.Tuple F x1 tpos) (.Call (.Name "zip" p) [a,b] [] pos) (zrt X.K ta):=by
 intro BC s G H R I h;show Call_ (zco I hg hm boot_zip (b9 (thn (ha pos BC s G H _ I h) λus B ⟨vs,H1,I1,r1,q1⟩=>?_) (by rw[hs,J]) (by rw[J];rfl)));obtain⟨c,d,e,⟨xs,Y⟩,⟨ys,Z⟩,q⟩:=q1;subst e
 cases r1 with
 | cons r rr=>
  cases rr with
  | cons r' rr=>
   cases rr;cases r;cases r';obtain⟨O,as,p1,a0⟩:=zaz I1 Y;obtain⟨U,a1,p2,a2⟩:=zaz I1 Z;have ac:c<B.heap.objs.size:=by obtain⟨o,ho,_⟩:=id p1;show aw ho
   have ad:d<B.heap.objs.size:=by obtain⟨o,ho,_⟩:=id p2;show aw ho
   show call_zip_2 (show B.heap.IsList c O.toArray from p1) (show B.heap.IsList d U.toArray from p2) λh' gz ag al an ap hsz hk=>?_;have I2:Inv X BC G H1 { B with heap:=h',toks:=B.toks }:=I1.kept (t':=B.toks) hk;show fg gz ?_;show#[B.heap.objs.size+4,[B.heap.objs.size+4,B.heap.objs.size+2,B.heap.objs.size+3,B.heap.objs.size,B.heap.objs.size+1],_,_,H1,BB,I2,zkK _ _ _ _ _ c d (zipApart_new ac ad),#[gz,ag,#[_,_,al],an,ap],λe he=>?_,q];simp only[ay,bB,or_false] at he;rcases he with rfl | rfl | rfl | rfl | rfl;show I1.fpOk (by lia) (I1.hok.fresh (by lia));show I1.fpOk (by lia) (I1.hok.fresh (by lia));show I1.fpOk (by lia) (I1.hok.fresh (by lia));show I1.fpOk (ai _) (I1.hok.fresh (ai _));show I1.fpOk (by lia) (I1.hok.fresh (by lia))
def zpY {X:Cx}{q:AO}{x1}{tpos:Pos}{a b:Expr}{ta:TA}{p pos:Pos}(F:Gl X "zip")(I:X.mg "zip" = none)(J:QA X [a,b] ta)(hs:starEach [a,b] X.env=[(false,eval a X.env),(false,eval b X.env)]:=by rfl)(B:starEach [b] X.env=[(false,eval b X.env)]:=by rfl) :
  QI X (.Tuple q x1 tpos) (.Call (.Name "zip" p) [a,b] [] pos) (zrt X.K ta):=#[zpC F I J.run hs B]
abbrev nmS (b:Bool):String:=match b with | true => "tuple" | false => "list"
abbrev nmI (b:Bool):String:=match b with | true => "tuple_iterator" | false => "list_iterator"
def SqH (b:Bool)(h:Heap)(l:Addr)(xs:AK):Prop:=∃o,h.get? l=some o/\o.cls = .type (nmS b)/\∃n,o.data = .seq xs n
def ItH (b:Bool)(h:Heap)(i l:Addr)(k:Nat):Prop:=∃o,h.get? i=some o/\o.cls = .type (nmI b)/\o.data = .fields #v[.ref l,.int k 0]
abbrev SqV (b:Bool) (K:AH) (H:Hp) (a:Addr) (xs:AT):Prop:=match b with | true=>SqT K H a xs | false=>SqL K H a xs
def zge{X:Cx}{BC:AB}{G:St}{H:Hp}{s:AZ}{a:Addr}{xs:AT}(I:Inv X BC G H s)(h:SqV b X.K H a xs):∃q:AN,zR xs q/\SqH b s.heap a q.toArray:=by
 cases b;obtain⟨q,r,p,_⟩:=zaz I h;show#[q,r,p];obtain⟨q,r,p,_⟩:=I.tuple h;show#[q,r,p]
def zuE{X:Cx}{BC:AB}{G:St}{H:Hp}{a:Addr}(I:Inv X BC G H s)(h:SqV b X.K H a xs)(h':SqV b X.K H a ys):xs=ys:=by
 cases b;show I.list_inj h h';show I.tuple_inj h h'
section
variable {prog:Aa}{w:Ab}{A:Ae}{E:AA}{s:AZ}
def zhK(q:ItH k s.heap B t i)(F:SqH k s.heap t items)(I:items[i]?=some x)(J:∀h',ItH k h' B t (i+1)->Heap.SameBut B s.heap h'->Q x { s with heap:=h' }):Ag prog w A (Builtin.SmallTypes.nextOf (.ref B)) Q E s:=by
 cases k;show wpAny_nextOf_list_item q F I J;show yS q F I J
def zjL(F:A.handled=none)(q:ItH k s.heap B t i)(I:SqH k s.heap t items)(J:items[i]?=none)(O:∀h' e,Heap.ExtBut B s.heap h'->(∃o,h'.get? e=some o/\o.cls = .type "StopIteration")->E (.ref e) { s with heap:=h' }):Ag prog w A (Builtin.SmallTypes.nextOf (.ref B)) Q E s:=by
 cases k;show wpAny_nextOf_list_end F q I J O;show y9 F q I J O
def zuF(h:SqH k s.heap l items)(q:Q (.ref s.heap.objs.size) { s with heap:=s.heap.push { cls:=.type (nmI k),data:=.fields #v[.ref l,.int 0 0] } }):Ag prog w A (pyIter (.ref l)) Q E s:=by
 cases k;show gb h q;show cW h q
def zde{z TI TO Z F t1 t2:Addr}{xs ys:AK}{x y a b:Value}{Q:AA}(BH:ZipApart z TI TO Z F t1 t2)(hz:IsZip s.heap z TI TO .none)(b2:IsPair s.heap TI (.ref Z) (.ref F))(b3:IsPair s.heap TO a b)(h1:ItH kb s.heap Z t1 k1)(h2:s.heap.IsTupleIter F t2 k2)(hx:SqH kb s.heap t1 xs)(hy:s.heap.IsTuple t2 ys)(ex:xs[k1]?=some x)(ey:ys[k2]?=some y)(hQ:∀h',IsZip h' z TI TO (rawInt s.heap.objs.size)->IsPair h' TO x y->ItH kb h' Z t1 (k1+1)->h'.IsTupleIter F t2 (k2+1)->IsPair h' s.heap.objs.size x y->h'.objs.size=s.heap.objs.size+1->
   (∀c o,c≠z->c≠TO->c≠Z->c≠F->s.heap.get? c=some o->h'.get? c=some o)->Q (.ref s.heap.objs.size) { s with heap:=h' }) :
  Ag prog w A (Builtin.«zip.__next__» #[[.ref z],[]]) (λfin s'=>∃v,fin = .done (.ret v)/\Q v s') E s:=by
 change wpAny _ _ (field (.ref z) 2 >>= _) _ _ s;show aa (bW hz BB (x:=.bool false) BB ?_);change wpAny _ _ (field (.ref z) 3 >>= _) _ _ s;show aa (bW hz BB (x:=.ref TI) BB ?_);change wpAny _ _ (seqItems? (.ref TI) >>= _) _ _ s;show aa (cJ b2 BB ?_);change wpAny _ _ (Builtin.SmallTypes.ownedTupleIsFree (.ref z) >>= _) _ _ s;show aa ?_;change wpAny _ _ (field (.ref z) 0 >>= _) _ _ s;show aa (bW hz BB (x:=.none) BB ?_);show af ?_;change wpAny _ _ (rule "zip.__next__.owned-tuple-again" >>= _) _ _ s;show aa (cZ ?_);change wpAny _ _ (field (.ref z) 4 >>= _) _ _ s;show aa (bW hz BB (x:=.ref TO) BB ?_);change wpAny _ _ (setField (.ref z) 0 .ellipsis >>= _) _ _ s;show aa (bJ hz BB (by simp) ?_);have a3:(s.heap.update z (Obj.mapFields λx=>x.setIfInBounds 0 Value.ellipsis)).get? z=some { cls:=.type "zip",data:=.fields #v[.ellipsis,.bool false,.bool false,.ref TI,.ref TO] }:=bu _ hz BB;have B:∀c,c≠z->(s.heap.update z (Obj.mapFields λx=>x.setIfInBounds 0 Value.ellipsis)).get? c=s.heap.get? c:=λc q=>bG _ _ (Ne.symm q);have a4:(s.heap.update z (Obj.mapFields λx=>x.setIfInBounds 0 Value.ellipsis)).objs.size=s.heap.objs.size:=by simp[Heap.update]
 generalize s.heap.update z (Obj.mapFields λx=>x.setIfInBounds 0 Value.ellipsis)=H1 at a3 B a4;change wpAny _ _ (forIn ([(Value.ref Z,0),(Value.ref F,1)]:List (Value×Nat)) ((none,()):Option PySem.Fin×Unit) _ >>= _) _ _ _;rw[fH];show aa (aa ?_);show aa (wpAny_onRaise ?_);change wpAny _ _ (if (Value.bool false==Value.bool true)=true then _ else (Builtin.SmallTypes.nextOf (.ref Z) >>= λx=>pure (some x))) _ _ _;rw[if_neg (by ext)];have b4:ItH kb H1 Z t1 k1:=by obtain⟨o,I,r⟩:=h1;show#[o,(B _ BH.i1z).trans I,r]
 have b5:SqH kb H1 t1 xs:=by obtain⟨o,I,r⟩:=hx;show#[o,(B _ BH.l1z).trans I,r]
 show aa (zhK (s:={ s with heap:=H1 }) b4 b5 ex λH2 a5 a7=>?_);show af ?_;have J:∀c,c≠Z->H2.get? c=H1.get? c:=λc q=>a7.2 c q;have ag:IsPair H2 TO a b:=(J _ BH.TOi1).trans ((B _ BH.TOz).trans b3);change wpAny _ _ (seqItems? (.ref TO) >>= _) _ _ _;show aa (cJ (s:={ s with heap:=H2 }) ag BB ?_);show aa (wpAny_updateSeq_pair (s:={ s with heap:=H2 }) ag λH3 ba bb=>?_);show aa (wpAny_letGo ?_);show af ?_;have ap:IsPair H3 TO x b:=ba;have O:∀c,c≠TO->H3.get? c=H2.get? c:=λc q=>bb.2 c q;change wpAny _ _ (forIn ([(Value.ref F,1)]:List (Value×Nat)) ((none,()):Option PySem.Fin×Unit) _) _ _ _;rw[fH];show aa ?_;show aa (wpAny_onRaise ?_);change wpAny _ _ (if (Value.bool false==Value.bool true)=true then _ else (Builtin.SmallTypes.nextOf (.ref F) >>= λx=>pure (some x))) _ _ _;rw[if_neg (by ext)];have ca:H3.IsTupleIter F t2 k2:=by obtain⟨o,I,r⟩:=h2;show#[o,(O _ (Ne.symm BH.TOi2)).trans ((J _ (Ne.symm BH.i12)).trans ((B _ BH.i2z).trans I)),r]
 have cc:H3.IsTuple t2 ys:=by obtain⟨o,I,r⟩:=hy;show#[o,(O _ BH.l2TO).trans ((J _ BH.l2i1).trans ((B _ BH.l2z).trans I)),r]
 show aa (yS (s:={ s with heap:=H3 }) ca cc ey λH4 bc bd=>?_);show af ?_;have ac:∀c,c≠F->H4.get? c=H3.get? c:=λc q=>bd.2 c q;have al:IsPair H4 TO x b:=(ac _ BH.TOi2).trans ap;change wpAny _ _ (seqItems? (.ref TO) >>= _) _ _ _;show aa (cJ (s:={ s with heap:=H4 }) al BB ?_);show aa (wpAny_updateSeq_pair (s:={ s with heap:=H4 }) al λH5 be bk=>?_);show aa (wpAny_letGo ?_);show af ?_;have U:IsPair H5 TO x y:=be;have ad:∀c,c≠TO->H5.get? c=H4.get? c:=λc q=>bk.2 c q;change wpAny _ _ (forIn ([]:List (Value×Nat)) ((none,()):Option PySem.Fin×Unit) _) _ _ _;rw[List.forIn_nil];show af ?_;change wpAny _ _ (seqItems? (.ref TO) >>= _) _ _ _;show aa (cJ (s:={ s with heap:=H5 }) U BB ?_);show aa (wpAny_newTuple ?_ (by change 2<=sizeLine;decide));have bl:H5.objs.size=s.heap.objs.size:=bk.1.trans (bd.1.trans (bb.1.trans (a7.1.trans a4)));have ko:∀c o,c≠z->c≠TO->c≠Z->c≠F->s.heap.get? c=some o->H5.get? c=some o:=λc o c1 c2 c3 c4 e=>(ad _ c2).trans ((ac _ c4).trans ((O _ c2).trans ((J _ c3).trans ((B _ c1).trans e))));have cd:H5.get? z=some { cls:=.type "zip",data:=.fields #v[.ellipsis,.bool false,.bool false,.ref TI,.ref TO] }:=(ad _ (Ne.symm BH.TOz)).trans ((ac _ (Ne.symm BH.i2z)).trans ((O _ (Ne.symm BH.TOz)).trans ((J _ (Ne.symm BH.i1z)).trans a3)));have Y:=av H5 (o:={ cls:=.type "tuple",data:=.seq #v[x,y] }) BB;change wpAny _ _ (Builtin.SmallTypes.ownedTupleHandOut (.ref z) (.ref H5.objs.size) >>= _) _ _ { s with heap:=H5.push { cls:=.type "tuple",data:=.seq #v[x,y] } };have as:∀c o,H5.get? c=some o->(H5.push { cls:=.type "tuple",data:=.seq #v[x,y] }).get? c=some o:=λc o e=>ae _ e;have bo:(H5.push { cls:=.type "tuple",data:=.seq #v[x,y] }).objs.size=s.heap.objs.size+1:=by rw[cI,bl]
 rw[bl] at Y ⊢;generalize H5.push { cls:=.type "tuple",data:=.seq #v[x,y] }=H6 at Y as bo;have bs:=as _ _ cd;show aa ?_;change wpAny _ _ (setField (.ref z) 0 (rawInt s.heap.objs.size) >>= _) _ _ { s with heap:=H6 };show aa (bJ bs BB (by simp) ?_);have a0:(H6.update z (Obj.mapFields λx=>x.setIfInBounds 0 (rawInt s.heap.objs.size))).get? z=some { cls:=.type "zip",data:=.fields #v[rawInt s.heap.objs.size,.bool false,.bool false,.ref TI,.ref TO] }:=bu _ bs BB;have a1:∀c,c≠z->(H6.update z (Obj.mapFields λx=>x.setIfInBounds 0 (rawInt s.heap.objs.size))).get? c=H6.get? c:=λc q=>bG _ _ (Ne.symm q);have bx:(H6.update z (Obj.mapFields λx=>x.setIfInBounds 0 (rawInt s.heap.objs.size))).objs.size=H6.objs.size:=by simp[Heap.update]
 generalize H6.update z (Obj.mapFields λx=>x.setIfInBounds 0 (rawInt s.heap.objs.size))=H7 at a0 a1 bx;show bJ (s:={ s with heap:=H7 }) a0 BB (by simp) ?_;have b0:(H7.update z (Obj.mapFields λx=>x.setIfInBounds 1 (Value.bool false))).get? z=some { cls:=.type "zip",data:=.fields #v[rawInt s.heap.objs.size,.bool false,.bool false,.ref TI,.ref TO] }:=bu _ a0 BB;have a2:∀c,c≠z->(H7.update z (Obj.mapFields λx=>x.setIfInBounds 1 (Value.bool false))).get? c=H7.get? c:=λc q=>bG _ _ (Ne.symm q);have b1:(H7.update z (Obj.mapFields λx=>x.setIfInBounds 1 (Value.bool false))).objs.size=H7.objs.size:=by simp[Heap.update]
 generalize H7.update z (Obj.mapFields λx=>x.setIfInBounds 1 (Value.bool false))=H8 at b0 a2 b1;have kk:∀c o,c≠z->H5.get? c=some o->H8.get? c=some o:=λc o q e=>(a2 _ q).trans ((a1 _ q).trans (as _ _ e));have an:=aw hz;show af #[_,BB,hQ H8 b0 (kk _ _ BH.TOz U) ?_ ?_ ?_ (by rw[b1,bx,bo]) λc o c1 c2 c3 c4 e=>kk _ _ c1 (ko c o c1 c2 c3 c4 e)];obtain⟨o,I,r⟩:=a5;show#[o,kk _ _ BH.i1z ((ad _ (Ne.symm BH.TOi1)).trans ((ac _ BH.i12).trans ((O _ (Ne.symm BH.TOi1)).trans I))),r];obtain⟨o,I,r⟩:=bc;show#[o,kk _ _ BH.i2z ((ad _ (Ne.symm BH.TOi2)).trans I),r];show (a2 _ (dy an)).trans ((a1 _ (dy an)).trans Y)
def zeE{z TI TO B U I t2:Addr}{xs:AK}{Q:PySem.Fin->AZ->Prop}(BH:ZipApart z TI TO B U I t2)(hh:A.handled=none)(F:IsZip s.heap z TI TO .none)(Z:IsPair s.heap TI (.ref B) (.ref U))(h1:ItH kb s.heap B I Y)(hx:SqH kb s.heap I xs)(ex:xs[Y]?=none)(hE:∀h' e,(∀c o,c≠z->c≠B->s.heap.get? c=some o->h'.get? c=some o)->(∃o,h'.get? e=some o/\o.cls = .type "StopIteration")->E (.ref e) { s with heap:=h' }) :
  Ag prog w A (Builtin.«zip.__next__» #[[.ref z],[]]) Q E s:=by
 change wpAny _ _ (field (.ref z) 2 >>= _) _ _ s;show aa (bW F BB (x:=.bool false) BB ?_);change wpAny _ _ (field (.ref z) 3 >>= _) _ _ s;show aa (bW F BB (x:=.ref TI) BB ?_);change wpAny _ _ (seqItems? (.ref TI) >>= _) _ _ s;show aa (cJ Z BB ?_);change wpAny _ _ (Builtin.SmallTypes.ownedTupleIsFree (.ref z) >>= _) _ _ s;show aa ?_;change wpAny _ _ (field (.ref z) 0 >>= _) _ _ s;show aa (bW F BB (x:=.none) BB ?_);show af ?_;change wpAny _ _ (rule "zip.__next__.owned-tuple-again" >>= _) _ _ s;show aa (cZ ?_);change wpAny _ _ (field (.ref z) 4 >>= _) _ _ s;show aa (bW F BB (x:=.ref TO) BB ?_);change wpAny _ _ (setField (.ref z) 0 .ellipsis >>= _) _ _ s;show aa (bJ F BB (by simp) ?_);have J:(s.heap.update z (Obj.mapFields λx=>x.setIfInBounds 0 Value.ellipsis)).get? z=some { cls:=.type "zip",data:=.fields #v[.ellipsis,.bool false,.bool false,.ref TI,.ref TO] }:=bu _ F BB;have q:∀c,c≠z->(s.heap.update z (Obj.mapFields λx=>x.setIfInBounds 0 Value.ellipsis)).get? c=s.heap.get? c:=λc hc=>bG _ _ (Ne.symm hc);generalize s.heap.update z (Obj.mapFields λx=>x.setIfInBounds 0 Value.ellipsis)=H1 at J q;change wpAny _ _ (forIn ([(Value.ref B,0),(Value.ref U,1)]:List (Value×Nat)) ((none,()):Option PySem.Fin×Unit) _ >>= _) _ _ _;rw[fH];show aa (aa ?_);show aa (wpAny_onRaise ?_);change wpAny _ _ (if (Value.bool false==Value.bool true)=true then _ else (Builtin.SmallTypes.nextOf (.ref B) >>= λx=>pure (some x))) _ _ _;rw[if_neg (by ext)];have ac:ItH kb H1 B I Y:=by obtain⟨o,O,r⟩:=h1;show#[o,(q _ BH.i1z).trans O,r]
 have ad:SqH kb H1 I xs:=by obtain⟨o,O,r⟩:=hx;show#[o,(q _ BH.l1z).trans O,r]
 show aa (zjL (s:={ s with heap:=H1 }) hh ac ad ex λH2 e eb he=>?_);have ag:=eb z _ (Ne.symm BH.i1z) J;show bJ (s:={ s with heap:=H2 }) ag BB (by simp) ?_;have al:e≠z:=by grind
 show hE _ e (λc o c1 c2 e1=>?_) ?_;show (bG _ _ (Ne.symm c1)).trans (eb c o c2 ((q _ c1).trans e1));obtain⟨o,O,hc⟩:=he;show#[o,(bG _ _ (Ne.symm al)).trans O,hc]
def zhr (kb:Bool)(h:Heap)(q B:Addr):Heap:=
 ((((h.push { cls:=.type (nmI kb),data:=.fields #v[.ref q,.int 0 0] }).push { cls:=.type "tuple_iterator",data:=.fields #v[.ref B,.int 0 0] }).push { cls:=.type "tuple",data:=.seq #v[.ref h.objs.size,.ref (h.objs.size+1)] }).push { cls:=.type "tuple",data:=.seq #v[.none,.none] }).push
  { cls:=.type "zip",data:=.fields #v[.none,.bool false,.bool false,.ref (h.objs.size+2),.ref (h.objs.size+3)] }
def zc5 (kb:Bool)(q B:Addr)(xs ys:AK) :
  Meets (Builtin.«zip.__new__» #[[.type "zip",.ref q,.ref B],[]]) (λ_ R s=>SqH kb s.heap q xs/\s.heap.IsTuple B ys/\R (.ok (.ret (.ref (s.heap.objs.size+4)))) { s with heap:=zhr kb s.heap q B }):=
 .of_wp λprog w A R s h=>by
  obtain⟨J,g,d,tk,O⟩:=s;obtain⟨h1,h2,h⟩:=h;have I:=sub_zip;have F:Heap.IsTuple (Shared.heap #[J.push { cls:=.type (nmI kb),data:=.fields #v[.ref q,.int 0 0] },g,d,tk,O]) B ys:=by obtain⟨o,U,r⟩:=h2;show#[o,ae _ U,r]
  wp_walk using zuF h1,cW F
  show#[_,BB,?_];unfold zhr at h;simpa [cI,Builtin.SmallTypes.ownedTupleFields] using h
def zik(h1:SqH kb s.heap q xs)(h2:s.heap.IsTuple I ys)(h:∀h',IsZip h' (s.heap.objs.size+4) (s.heap.objs.size+2) (s.heap.objs.size+3) .none->IsPair h' (s.heap.objs.size+2) (.ref s.heap.objs.size) (.ref (s.heap.objs.size+1))->IsPair h' (s.heap.objs.size+3) .none .none->
   ItH kb h' s.heap.objs.size q 0->h'.IsTupleIter (s.heap.objs.size+1) I 0->h'.objs.size=s.heap.objs.size+5->(∀b o,s.heap.get? b=some o->h'.get? b=some o)->Q (.ref (s.heap.objs.size+4)) { s with heap:=h' }) :
  Ag prog w A (call (.type "zip") [.ref q,.ref I]) Q E s:=by
 show callType_new F.called_zip (by ext) (F.typeCall_zip_2 _ _) (F.newCall_zip_2 _ _) (λJ=>F.args_object_init_3 J _ _) F.entry_zip_new (zc5 kb q I xs ys) #[h1,h2,?_];generalize ac:({ cls:=.type (nmI kb),data:=.fields #v[.ref q,.int 0 0] }:Obj)=o0;have z1:∀o,(s.heap.push o).objs.size=s.heap.objs.size+1:=λo=>cI ..;have z2:∀o o',((s.heap.push o).push o').objs.size=s.heap.objs.size+2:=λo o'=>by rw[cI,z1]
 have z3:∀o o' B,(((s.heap.push o).push o').push B).objs.size=s.heap.objs.size+3:=λo o' B=>by rw[cI,z2]
 have z4:∀o o' B p,((((s.heap.push o).push o').push B).push p).objs.size=s.heap.objs.size+4:=λo o' B p=>by rw[cI,z3]
 have gz:(zhr kb s.heap q I).get? (s.heap.objs.size+4)=some { cls:=.type "zip",data:=.fields #v[.none,.bool false,.bool false,.ref (s.heap.objs.size+2),.ref (s.heap.objs.size+3)] }:=by unfold zhr;rw[<- z4];show av _ BB
 have O:(zhr kb s.heap q I).get? (s.heap.objs.size+3)=some { cls:=.type "tuple",data:=.seq #v[.none,.none] }:=by unfold zhr;show ae _ ?_;rw[<- z3];show av _ BB
 have U:(zhr kb s.heap q I).get? (s.heap.objs.size+2)=some { cls:=.type "tuple",data:=.seq #v[.ref s.heap.objs.size,.ref (s.heap.objs.size+1)] }:=by unfold zhr;show ae _ (ae _ ?_);rw[<- z2];show av _ BB
 have Y:(zhr kb s.heap q I).get? (s.heap.objs.size+1)=some { cls:=.type "tuple_iterator",data:=.fields #v[.ref I,.int 0 0] }:=by unfold zhr;show ae _ (ae _ (ae _ ?_));rw[<- z1];show av _ BB
 have Z:(zhr kb s.heap q I).get? s.heap.objs.size=some { cls:=.type (nmI kb),data:=.fields #v[.ref q,.int 0 0] }:=by unfold zhr;show ae _ (ae _ (ae _ (ae _ (av _ BB))))
 show#[#[_,gz,BB],h _ gz U O #[_,Z,BB,BB] #[_,Y,BB,BB] ?_ λb o x=>?_];unfold zhr;rw[cI,z4];unfold zhr;show ae _ (ae _ (ae _ (ae _ (ae _ x))))
end
def Izg (kb:Bool)(K:AH)(a b:Addr):It:=
 #[λi H=>∃xs ys x y,SqV kb K H a xs/\SqT K H b ys/\xs[i]?=some x/\ys[i]?=some y,λi H v H'=>∃T x y,v = .ref T/\H T=none/\H'=upd H T (.tup [x,y])/\(∀xs,SqV kb K H a xs->xs[i]?=some x)/\∀ys,SqT K H b ys->ys[i]?=some y,λi H=>∃xs,SqV kb K H a xs/\xs.length<=i]
def zkJ{P:Aa}{w:Ab}{K:AH}{a2:AO}{x1}(z TI TO J i2 a b:Addr)(BH:ZipApart z TI TO J i2 a b) :
  Turn P w K (.Tuple a2 x1 tpos) (Izg kb K a b) [z,TI,TO,J,i2] z (λi h=>IsZip h z TI TO .none/\IsPair h TI (.ref J) (.ref i2)/\(∃c d,IsPair h TO c d)/\ItH kb h J a i/\h.IsTupleIter i2 b i) where
 mem:=by simp
 obj:=λi h st c F=>by
  obtain⟨hz,O,⟨u,v,al⟩,⟨o1,e1,c1,d1⟩,⟨o2,e2,c2,d2⟩⟩:=st;grind
 keep:=λi h h' st k=>by obtain⟨hz,O,⟨u,v,al⟩,⟨o1,e1,r1⟩,⟨o2,e2,r2⟩⟩:=st;show#[k z (by simp) _ hz,k TI (by simp) _ O,#[u,v,k TO (by simp) _ al],#[o1,k J (by simp) _ e1,r1],#[o2,k i2 (by simp) _ e2,r2]]
 item:=by
  intro X hP hw hK F i BC s G H E I hf st hg;subst hP hw hK;obtain⟨xs,ys,x,y,a3,a4,hx,hy⟩:=hg;obtain⟨cc,bk,p1⟩:=zge I a3;obtain⟨cd,bl,p2,cn⟩:=I.tuple a4;obtain⟨u1,bo,bs⟩:=bk.get hx;obtain⟨u2,bx,b0⟩:=bl.get hy;have Z:=hf z (by simp);have ac:=hf TO (by simp);have f1:=hf J (by simp);have f2:=hf i2 (by simp);obtain⟨hz,O,⟨c0,d0,al⟩,ap,as⟩:=st;have hT:s.TypeIs (.ref z) "zip" := #[_,hz,BB];unfold pyNext
  show aa (cG (wpAny_callSpecial?_slot (name:=Str.ofString "__next__") hT cQ
   (aW cQ hT ff (zde (A:=X.A.in1) BH hz O al ap as p1 p2 (x:=u1) (y:=u2) (by simpa using bo) (by simpa using bx) λh' gz b1 b2 b3 gT co hk=>?_) (eJ _))))
  show af #[_,BB,?_];show wpAny_letOwnedTupleGo_zip (s:={ s with heap:=h' }) gz λan a5 U=>?_;have nz:∀b' o',s.heap.get? b'=some o'->s.heap.objs.size≠b':=λb' o' e=>dy (aw e);have a7:s.heap.objs.size≠z:=nz z _ hz;have ba:s.heap.objs.size≠TO:=nz TO _ al;have b4:s.heap.objs.size≠J:=by obtain⟨o,ho,_⟩:=ap;show nz J _ ho
  have b5:s.heap.objs.size≠i2:=by obtain⟨o,ho,_⟩:=as;show nz i2 _ ho
  have bb:s.heap.objs.size≠TI:=nz TI _ O;have B:=I.hok.fresh (ai s.heap.objs.size);have kp:∀c o,c≠z->c≠TO->c≠J->c≠i2->s.heap.get? c=some o->an.get? c=some o:=λc o h1 h2 h3 Y hb=>(U.2 c h1).trans (hk c o h1 h2 h3 Y hb);have bc:an.get? s.heap.objs.size=some { cls:=.type "tuple",data:=.seq #v[u1,u2] }:=(U.2 _ a7).trans gT;have cl:∀b' u',H b'=some u'->b'≠z/\b'≠TO/\b'≠J/\b'≠i2:=λb' u' hb=>#[zc hb Z.1,zc hb ac.1,zc hb f1.1,zc hb f2.1]
  have bd:HOk X.prog X.w (upd H s.heap.objs.size (.tup [x,y])) an:=by
   intro b' u' hb;by_cases be:b'=s.heap.objs.size;subst be;rw[zi] at hb;cases hb;show#[by change 2<=sizeLine;decide,[u1,u2],.cons bs (.cons b0 .nil),_,bc,BB,#[0,BB],BB]
   ·rw[zf be] at hb;show (I.hok b' u' hb).stay (λc v ad q=>?_) (λc q=>?_) (λc ys q=>?_)
    ·have:c≠z/\c≠TO/\c≠J/\c≠i2:=by
      rcases ad with rfl | ad
      all_goals right
     right
    rw[zf (zc q B)];show q;rw[zf (zc q B)];show q
  have ag:∀c o,c∉[z,TO,J,i2]->s.heap.get? c=some o->an.get? c=some o:=λc o F e=>kp c o (λq=>F (by simp[q])) (λq=>F (by simp[q])) (λq=>F (by simp[q])) (λq=>F (by simp[q])) e
  have I1:Inv X BC G (upd H s.heap.objs.size (.tup [x,y])) { s with heap:=an,toks:=s.toks }:=by
   show Inv.step (ch:=[z,TO,J,i2]) (g':=s.gens) (d':=s.drawn) (t':=s.toks) I (λc F=>?_) (λc o h1 h2 h3 Y h5=>?_) (λc o h1 h2 h3 Y h5=>?_) (λc o h3 Y h5=>?_) (λc o h3 Y=>?_) (λc ys q=>?_) (λc o u' q=>?_) (λc ps q=>?_) (λm hm=>?_) bd I.bare;simp only[ay,bB,or_false] at F;rcases F with rfl | rfl | rfl | rfl;show#[Z.2.2.2.1,Z.2.1,Z.2.2.2.2.1,Z.2.2.2.2.2];show#[ac.2.2.2.1,ac.2.1,ac.2.2.2.2.1,ac.2.2.2.2.2];show#[f1.2.2.2.1,f1.2.1,f1.2.2.2.2.1,f1.2.2.2.2.2];show#[f2.2.2.2.1,f2.2.1,f2.2.2.2.2.1,f2.2.2.2.2.2];show ag c o h3 Y;show#[o.slots,ag c o h3 Y];rw[zf (aN (aw Y))];show h5;show#[o,ag c o h3 Y];rw[zf (zc q B)];show q;rw[zf (zc q B)];show q;show#[#v[],by rw[zf (zc q B),em];show q];obtain⟨o,es,ep,a0,r1⟩:=hm;show#[o,es,ep,kp _ o (Ne.symm Z.2.1) (Ne.symm ac.2.1) (Ne.symm f1.2.1) (Ne.symm f2.2.1) a0,r1]
  show#[.ref s.heap.objs.size,_,I1,BB,#[s.heap.objs.size,x,y,BB,B,BB,λzs a1=>by rw[zuE I a1 a3];show hx,λzs a1=>by rw[I.tuple_inj a1 a4];show hy],#[a5,?_,#[_,_,(U.2 TO BH.TOz).trans b1],?_,?_],λc F=>?_];show kp TI _ BH.TIz BH.TITO BH.TIi1 BH.TIi2 O;obtain⟨o,ho,r⟩:=b2;show#[o,(U.2 J BH.i1z).trans ho,r];obtain⟨o,ho,r⟩:=b3;show#[o,(U.2 i2 BH.i2z).trans ho,r];simp only[ay,bB,or_false] at F;rcases F with rfl | rfl | rfl | rfl | rfl;rw[zf (Ne.symm a7)];show Z.1;rw[zf (Ne.symm bb)];show (hf _ (by simp)).1;rw[zf (Ne.symm ba)];show ac.1;rw[zf (Ne.symm b4)];show f1.1;rw[zf (Ne.symm b5)];show f2.1
 done:=by
  intro X hP hw hK F i BC s G H E I hf st hg;subst hP hw hK;obtain⟨xs,hq,hx⟩:=hg;obtain⟨cp,rv,p⟩:=zge I hq;have Z:=hf z (by simp);have f1:=hf J (by simp);obtain⟨hz,O,⟨c0,d0,al⟩,ap,as⟩:=st;have hl:=rv.length;have hT:s.TypeIs (.ref z) "zip" := #[_,hz,BB];unfold pyNext
  show aa (cG (wpAny_callSpecial?_slot (name:=Str.ofString "__next__") hT cQ
   (aW cQ hT ff (zeE (A:=X.A.in1) BH (I.ok.hd F) hz O ap p (by simp;lia) λh' e ko he=>?_) (eJ _))))
  obtain⟨o,ho,ca⟩:=he;show aa (cU (T := "StopIteration") (b:=true) #[o,ho,ca] dP ?_);show af #[BB,?_];have ag:∀c o,c∉[z,J]->s.heap.get? c=some o->h'.get? c=some o:=λc o F e=>ko c o (λq=>F (by simp[q])) (λq=>F (by simp[q])) e;show Inv.step (ch:=[z,J]) (g':=s.gens) (d':=s.drawn) (t':=s.toks) I (λc F=>?_) (λc o h1 h2 h3 Y h5=>ag c o h3 Y) (λc o h1 h2 h3 Y h5=>#[o.slots,ag c o h3 Y]) (λc o h3 Y h5=>h5) (λc o h3 Y=>#[o,ag c o h3 Y]) (λc ys q=>q) (λc o u' q=>q) (λc ps q=>#[#v[],by right]) (λm hm=>?_) (λb' u' hb=>?_) I.bare;simp only[ay,bB,or_false] at F;rcases F with rfl | rfl;show#[Z.2.2.2.1,Z.2.1,Z.2.2.2.2.1,Z.2.2.2.2.2];show#[f1.2.2.2.1,f1.2.1,f1.2.2.2.2.1,f1.2.2.2.2.2];obtain⟨o,es,ep,a0,r1⟩:=hm;show#[o,es,ep,ko _ o (Ne.symm Z.2.1) (Ne.symm f1.2.1) a0,r1];show (I.hok b' u' hb).stay (λc v ad q=>?_) (λc q=>q) (λc ys q=>q)
  have:c≠z/\c≠J:=by
   rcases ad with rfl | ad;show#[zc hb Z.1,zc hb f1.1];show#[zc ad Z.1,zc ad f1.1]
  show ko c v this.1 this.2 q
 self:=λA i s Q E st h=>by obtain⟨hz,_⟩:=st;show fg hz h
def zrs (kb:Bool)(K:AH)(ta:TA):TI:=λG H R=>ta G H λvs H1=>∃a b,vs=[.ref a,.ref b]/\(∃xs,SqV kb K H1 a xs)/\(∃ys,SqT K H1 b ys)/\R (Izg kb K a b) H1
def zpB (kb:Bool){X:Cx}{F:AO}{x1}{tpos:Pos}{a b:Expr}{ta:TA}{p pos:Pos}(hg:Gl X "zip")(hm:X.mg "zip" = none)(ha:PA X [a,b] ta)(hs:starEach [a,b] X.env=[(false,eval a X.env),(false,eval b X.env)]:=by rfl)(J:starEach [b] X.env=[(false,eval b X.env)]:=by rfl) :
  PI X (.Tuple F x1 tpos) (.Call (.Name "zip" p) [a,b] [] pos) (zrs kb X.K ta):=by
 intro BC s G H R I h;show Call_ (zco I hg hm boot_zip (b9 (thn (ha pos BC s G H _ I h) λus B ⟨vs,H1,I1,r1,q1⟩=>?_) (by rw[hs,J]) (by rw[J];rfl)));obtain⟨c,d,e,⟨xs,U⟩,⟨ys,Y⟩,q⟩:=q1;subst e
 cases r1 with
 | cons r Z=>
  cases Z with
  | cons r' Z=>
   cases Z;cases r;cases r';obtain⟨as,a0,p1⟩:=zge I1 U;obtain⟨O,a1,p2,a2⟩:=I1.tuple Y;have ac:c<B.heap.objs.size:=by obtain⟨o,ho,_⟩:=id p1;show aw ho
   have ad:d<B.heap.objs.size:=by obtain⟨o,ho,_⟩:=id p2;show aw ho
   show zik p1 (show B.heap.IsTuple d O.toArray from p2) λh' gz ag al an ap hsz hk=>?_;have I2:Inv X BC G H1 { B with heap:=h',toks:=B.toks }:=I1.kept (t':=B.toks) hk;show fg gz ?_;show#[B.heap.objs.size+4,[B.heap.objs.size+4,B.heap.objs.size+2,B.heap.objs.size+3,B.heap.objs.size,B.heap.objs.size+1],_,_,H1,BB,I2,zkJ _ _ _ _ _ c d (zipApart_new ac ad),#[gz,ag,#[_,_,al],an,ap],λe he=>?_,q];simp only[ay,bB,or_false] at he;rcases he with rfl | rfl | rfl | rfl | rfl;show I1.fpOk (by lia) (I1.hok.fresh (by lia));show I1.fpOk (by lia) (I1.hok.fresh (by lia));show I1.fpOk (by lia) (I1.hok.fresh (by lia));show I1.fpOk (ai _) (I1.hok.fresh (ai _));show I1.fpOk (by lia) (I1.hok.fresh (by lia))
def zkc (kb:Bool){X:Cx}{q:AO}{x1}{tpos:Pos}{a b:Expr}{ta:TA}{p pos:Pos}(F:Gl X "zip")(I:X.mg "zip" = none)(J:QA X [a,b] ta)(hs:starEach [a,b] X.env=[(false,eval a X.env),(false,eval b X.env)]:=by rfl)(B:starEach [b] X.env=[(false,eval b X.env)]:=by rfl) :
  QI X (.Tuple q x1 tpos) (.Call (.Name "zip" p) [a,b] [] pos) (zrs kb X.K ta):=#[zpB kb F I J.run hs B]
section
variable {X:Cx}
def zp4:V->AT->Hp->VK->Prop:=λx vs H Q=>∃l xs k y,x = .ref l/\vs=[.int k,y]/\H l=some (.lst xs)/\0<=k/\k<=xs.length/\xs.length<sizeLine/\Q .non (upd H l (.lst (xs.take k.toNat++y::xs.drop k.toNat)))
def zjI:MtM X "list.insert" zp4:=by
 intro BC s G H x vs v us Q I O U h;obtain⟨l,xs,k,y,rfl,rfl,J,h0,h1,Y,q⟩:=h;cases O
 cases U with
 | cons Z rr=>
  cases rr with
  | cons r2 rn=>
   cases rn;obtain⟨t,rfl⟩:=Z;obtain⟨z,B,n,r,hl,e⟩:=I.lstM J
   have hk:k<2 ^ 63:=by
    have:(xs.length:Int)<=2 ^ 40:=by have h2:xs.length<=2 ^ 40:=aq (cH Y) (by ext);lia
    lia
   show eD PySem.F.slot_list_insert #[_,e,BB] PySem.F.entry_list_insert (PySem.F.args_list_insert_3 _ _ _)
    (AutoSeq1.list_insert_list_int_val_1 l B.toArray n k t _ (by rw[fitsIndex_both (by lia) hk];decide) (by grind)) #[e,?_]
   show#[.non,_,I.lset (its':=B.take k.toNat++_::B.drop k.toNat) J e ?_ ((r.take _).append (.cons r2 (r.drop _))) ?_,BB,q];change (B.toArray.extract 0 (if k<0 then (k+(B.toArray.size:Int)).toNat else min k.toNat B.toArray.size)).push _++B.toArray.extract (if k<0 then (k+(B.toArray.size:Int)).toNat else min k.toNat B.toArray.size)=_;rw[if_neg (by lia),aP,eu (by lia)];apply eY.mp;simp;rw[br (by simp)];grind
def znx{T:String}{name:Str}{id:String}{r:V->AT->Hp->VK->Prop}{es:AO}{to:TE}{t:TA}{apos cpos:Pos}(U:PlainAttrs T)(I:Slot T name id)(O:typeOf (.builtin id)=pure (.type "method_descriptor"))(Y:MtR X id r)(Z:QE X o to)(ha:QA X (e::es) t)(B:attributeBase o name X.env (eval o X.env)=eval o X.env:=by rfl)(J:((backTo cpos (starEach (e::es) X.env)).all (λx=>!x.1)&&(backToKw cpos (keywordEach [] X.env)).all (λx=>x.1.isSome)
   && decide ((e::es).length+([]:List Keyword).length+(if ([]:List Keyword).isEmpty then 0 else 1)<30))=true:=by rfl)(F:(apos.endLine==cpos.line)=true:=by rfl)(hs:starEach (e::es) X.env=(false,eval e X.env)::starEach es X.env:=by rfl)(q:(backTo cpos (starEach es X.env)).any (·.1)=false:=by rfl) :
  QE X (.Call (.Attribute o name apos) (e::es) [] cpos) (tBM X.K T r to t):=#[zr6 U I O Y Z.run ha.run B J F hs q]
def zkh:AT->Hp->VK->Prop:=λxs H Q=>∃ (l:Addr) (ns:AG),xs=[.ref l]/\H l=some (.lst (ns.map V.int))/\ns.length<64/\∀q:AG,q.Perm ns->q.Pairwise (·<=·)->New H (.lst (q.map V.int)) Q
theorem zgR:∀ {ns:AG} {q:AN},zR (ns.map V.int) q->IntsAre q ns
 | [],_,h=>by cases h;show .nil
 | n::ns,_,h=>by
  cases h with
  | cons B F=>
   obtain⟨t,rfl⟩:=B;show .cons _ _ (zgR F)
def zk0{ns:AG}(h:IntsAre q ns):zR (ns.map V.int) q:=by
 induction h with
 | nil=>show .nil
 | cons _ _ _ B=>show .cons #[_,BB] B
def zld:CallQ X (.builtin "sorted") zkh:=#[by
 intro BC s G H xs us Q I r h;obtain⟨l,ns,rfl,hl,Z,q⟩:=h;obtain⟨u,rfl,ru⟩:=za7 r;cases ru;obtain⟨an,rv,pl,hz⟩:=I.list (.of hl);obtain⟨m0,B,_⟩:=id I.loc;show PySem.W.kso_sorted (h₀:=(#[#v[],{}]:Heap)) (L:=X.env.locals) (m:=m0) (news:=zbB s.heap X.env.locals) #[B,λb o e=>?_,aI _] (λp hp=>?_) pl.isList (zgR rv) Z λBH ap J c h' F N O hi al hp hs _=>?_;have:=aw e;simp at this;obtain⟨b,o⟩:=p;have:=zP.mp hp;show#[this.2,this.1,?_]
 cases e:(#[#v[],{}]:Heap).get? b with
 | none=>rfl
 | some o'=>
  have:=aw e;simp at this
 have ac:∀b o,b≠X.env.locals->s.heap.get? b=some o->h'.get? b=some o:=λb o hb e=>(N (b,o) (ar _ (zP.mpr #[hb,e]))).1;have ad:BH≠X.env.locals:=(N (BH,_) am).2.1
 have ag:s.heap.get? BH=none:=by
  cases e:s.heap.get? BH with
  | none=>rfl
  | some o=>show absurd (O (BH,o) (zP.mpr #[ad,e])) (cV _)
 have U:H BH=none:=by
  cases e:H BH with
  | none=>rfl
  | some o=>
   obtain⟨o',as⟩:=zaR (I.hok BH o e);grind
 have Y:=(N (BH,_) am).1;have I':=zdW I B (ys:=J.map V.int) ac F.ns ag U Y (zk0 hi) (by grind) s.toks;show#[.ref BH,_,I',BB,(q J hp hs).at U]]
end
end L2
namespace L3
open L2
abbrev zt1:=Addr×Addr×List Int
abbrev imm:HO->Bool
 | .lst _=>false
 | .dK _=>false
 | .dT _=>false
 | .ext _=>false
 | _=>true
def Mt (o:HO):Prop:=imm o=false
def Mt.tup(h:Mt o):∀xs,o≠.tup xs:=λ_ e=>by subst e;cases h
def NP (o:HO):Prop:=∀BD,pnK o=some BD->uE BD (Sum.inr "at" : Key)=none
def NP.lst:NP (.lst xs):=λ_ e=>by cases e
structure Jv where
 K:(AL)->Hp->Prop
 same:∀ {A:AL} {H H':Hp},K A H->yT H H'->K A H'
 grow:∀ {A A':AL} {H:Hp},K A' H->(∀a,A a->A' a\/∃o,H a=some o/\NP o/\Mt o)->K A H
 upd:∀ {A:AL} {H:Hp} {p:Addr} {o:HO},K A H->A p->K A (L2.upd H p o)
 frz:∀ {A:AL} {H:Hp} {p:Addr} {o o':HO},K A H->H p=some o->NP o->Mt o->K A (L2.upd H p o')
structure PN where
 pn:Option zt1
 J:Jv
def J0:Jv:=#[λ_ _=>True,λ_ _=>trivial,λ_ _=>trivial,λ_ _=>trivial,λ_ _ _ _=>trivial]
inductive W where
 | d (x:Dt) | pen (p:Addr) | dk (BD:List (Key×Dt)) | dt (BD:List (AG×Dt)) | ss (P:Aa) (w:Ab) (ks:AF) | df (BD:List (AG×Dt)) | kf (BD:List (Key×Dt)) | fl (l:AS) | ad (a:Addr) (x:Dt) | tz (BD:List (AG×Dt)) (x:Dt)
abbrev AV:=W->Nat->Prop
abbrev AU:=List W
abbrev Mo (α:Type):=Nat->(α->Nat->Prop)->Prop
abbrev Ev:=List (Option W)
abbrev AD:=Ev->Mo W
abbrev AC:=Ev->Mo AU
open Classical in
noncomputable def yg (A:AL)(H:Hp):Hp:=λb=>if A b then none else H b
section
variable {A A0:AL}{H H' BG G' T T':Hp}{a b:Addr}{o:HO}
def ya:yg A H b=some o↔¬ A b/\H b=some o:=by
 unfold yg;grind
def zG (h:¬ A b)(e:H b=some o):yg A H b=some o:=ya.mpr #[h,e]
def zo:yT (yg A H) H:=λb o e=>(ya.mp e).2
def yF (s:zy H H'):zy (yg A H) (yg A H'):=λb o e n=>zG (ya.mp e).1 (s b o (ya.mp e).2 n)
def x5 (s:yT H H'):yT (yg A H) (yg A H'):=λb o e=>zG (ya.mp e).1 (s b o (ya.mp e).2)
def xZ (h:∀b,A0 b->A b):yT (yg A H) (yg A0 H):=λb o e=>zG (λz=>(ya.mp e).1 (h b z)) (ya.mp e).2
def yx (h:A a):yg A (upd H a o)=yg A H:=by
 funext b;unfold yg;by_cases q:A b;simp[q];have:b≠a:=λe=>q (e ▸ h);simp[q,zf this]
end
def DAt (T BG:Hp):Dt->V->Prop
 | .lst l,v=>∃a xs,v = .ref a/\T a=some (.lst xs)/\IsL BG l xs
 | .dct,v=>∃a BD,v = .ref a/\T a=some (.dK BD)/\BD=[]
 | .non,v=>Is BG .non v
 | .bl b,v=>Is BG (.bl b) v
 | .int i,v=>Is BG (.int i) v
 | .str x,v=>Is BG (.str x) v
 | .tup l,v=>Is BG (.tup l) v
def DAt.is(h:DAt BG BG x v):Is BG x v:=by cases x <;> show h
def DAt.of(h:Is BG x v):DAt BG BG x v:=by cases x <;> show h
def DAt.up(t:zy T T')(g:zy BG G')(h:DAt T BG x v):DAt T' G' x v:=by
 cases x with
 | lst l=>obtain⟨a,xs,e,h1,h2⟩:=h;show#[a,xs,e,t.lst h1,h2.stay g]
 | dct=>obtain⟨a,BD,e,h1,h2⟩:=h;show#[a,BD,e,t _ _ h1 λk q=>by cases q;subst h2;rfl,h2]
 | _=>show Is.stay g h
def DAt.full(t:yT T H)(g:yT BG H)(h:DAt T BG x v):Is H x v:=(DAt.up (zy.same t) (zy.same g) h).is
def zat {κ:Type}(BG:Hp):List (κ×Dt)->List (κ×V)->Prop
 | [],ks=>ks=[]
 | q::r,ks=>∃v s,ks=(q.1,v)::s/\Is BG q.2 v/\zat BG r s
theorem zat.stay {κ:Type}{BG G':Hp}(s:zy BG G'):∀ {BD:List (κ×Dt)} {ks:List (κ×V)},zat BG BD ks->zat G' BD ks
 | [],_,h=>h
 | q::r,ks,⟨v,t,e,h1,h2⟩=>#[v,t,e,h1.stay s,zat.stay s h2]
def SIs (BG:Hp)(ks:AF)(xs:AE):Prop:=ks=xs.map (·.1)/\(∀q∈xs,BG q.2=some (.tup (q.1.map V.int)))/\ks.Nodup
def SIs.stay{ks:AF}{xs:AE}(h:SIs BG ks xs)(s:zy BG G'):SIs G' ks xs:=#[h.1,λq B=>s _ _ (h.2.1 q B) (λ_ e=>by cases e),h.2.2]
noncomputable def zpe (a:Addr)(H:Hp):Hp:=yg (λb=>b≠a/\∃xs,H b=some (.lst xs)) H
def zhN(s:zy H H'):zy (zpe a H) (zpe a H'):=λb o e n=>by obtain⟨h1,h2⟩:=ya.mp e;have q:=s b o h2 n;show zG (λz=>h1 #[z.1,?_]) q;obtain⟨xs,B⟩:=z.2;rw[q] at B;cases B;show#[_,h2]
def WAt (T BG:Hp):W->V->Prop
 | .d x,v=>DAt T BG x v
 | .pen p,v=>v = .ref p
 | .dk BD,v=>∃a ks,v = .ref a/\T a=some (.dK ks)/\zat BG BD ks/\uE ks (Sum.inr "at" : Key)=none
 | .dt BD,v=>∃a ks,v = .ref a/\T a=some (dtO ks)/\zat BG BD ks
 | .ss P w ks,v=>∃a xs,v = .ref a/\T a=some (zib P w a (uN xs))/\SIs BG ks xs
 | .df BD,v=>∃a ob ks,v = .ref a/\T a=some (.frz ob (dtO ks))/\zat BG BD ks
 | .kf BD,v=>∃a ob ks,v = .ref a/\T a=some (.frz ob (.dK ks))/\zat BG BD ks
 | .fl l,v=>∃a ob xs,v = .ref a/\T a=some (.frz ob (.lst xs))/\IsL BG l xs
 | .ad a x,v=>(∃b,v = .ref b)/\Is (zpe a BG) x v
 | .tz BD x,v=>∃a b ob ks y,v = .ref a/\BG a=some (.tup [.ref b,y])/\BG b=some (.frz ob (dtO ks))/\zat BG BD ks/\Is BG x y
def WAt.up(t:zy T T')(g:zy BG G')(h:WAt T BG w v):WAt T' G' w v:=by
 cases w with
 | d x=>show DAt.up t g h
 | pen p=>show h
 | dk BD=>
  obtain⟨a,ks,e,h1,h2,B⟩:=h;show#[a,ks,e,t _ _ h1 λk q=>by cases q;show B,h2.stay g,B]
 | dt BD=>
  obtain⟨a,ks,e,h1,h2⟩:=h;show#[a,ks,e,t _ _ h1 (λk q=>by cases q),h2.stay g]
 | ss P w BD=>
  obtain⟨a,ks,e,h1,h2⟩:=h;show#[a,ks,e,t _ _ h1 zg3,h2.stay g]
 | df BD=>
  obtain⟨a,ob,ks,e,h1,h2⟩:=h;show#[a,ob,ks,e,t _ _ h1 (λk q=>by cases q),h2.stay g]
 | kf BD=>
  obtain⟨a,ob,ks,e,h1,h2⟩:=h;show#[a,ob,ks,e,t _ _ h1 (λk q=>by cases q),h2.stay g]
 | fl BD=>
  obtain⟨a,ob,ks,e,h1,h2⟩:=h;show#[a,ob,ks,e,t _ _ h1 (λk q=>by cases q),h2.stay g]
 | ad a x=>show#[h.1,Is.stay (zhN g) h.2]
 | tz BD x=>
  obtain⟨a,b,ob,ks,y,e,h1,h2,B,F⟩:=h;show#[a,b,ob,ks,y,e,g.tup h1,g _ _ h2 (λk q=>by cases q),B.stay g,F.stay g]
abbrev W.mut:W->Bool
 | .d (.lst _)=>true
 | .d .dct=>true
 | .dk _=>true
 | .dt _=>true
 | .ss _ _ _=>true
 | _=>false
abbrev Val (A:AL)(H:Hp)(w:W)(v:V):Prop:=WAt (yg A H) (yg A H) w v
abbrev Bor (A:AL)(H:Hp)(w:W)(v:V):Prop:=WAt H (yg A H) w v
def Val.bor(h:Val A H w v):Bor A H w v:=WAt.up (zy.same zo) (zy.refl _) h
def Val.stay(h:Val A H w v)(s:zy H H'):Val A H' w v:=WAt.up (yF s) (yF s) h
def Bor.stay(h:Bor A H w v)(s:zy H H'):Bor A H' w v:=WAt.up s (yF s) h
def Bor.is(h:Bor A H (.d x) v):Is H x v:=DAt.full (zfo _) zo h
def Val.is(h:Val A H (.d x) v):Is (yg A H) x v:=DAt.is h
def Val.of(h:Is (yg A H) x v):Val A H (.d x) v:=DAt.of h
mutual
theorem zru {A:AL}{H:Hp}(hA:∀a xs,A a->H a≠some (.tup xs)):∀ {x:Dt} {v:V},x.noL=true->Is H x v->Is (yg A H) x v
 | .non,_,_,h=>h
 | .bl _,_,_,h=>h
 | .int _,_,_,h=>h
 | .str _,_,_,h=>h
 | .tup l,_,n,h=>by obtain⟨p,xs,e,hp,hl⟩:=h;show#[p,xs,e,zG (λz=>hA p xs z hp) hp,zbe hA (by simpa [Dt.noL] using n) hl]
 | .lst l,_,n,_=>by simp[Dt.noL] at n
 | .dct,_,n,_=>by simp[Dt.noL] at n
theorem zbe {A:AL}{H:Hp}(hA:∀a xs,A a->H a≠some (.tup xs)):∀ {ds:AS} {xs:AT},Dt.noLs ds=true->IsL H ds xs->IsL (yg A H) ds xs
 | [],_,_,h=>h
 | d::ds,xs,n,h=>by
  obtain⟨x,r,e,h1,h2⟩:=h;have n':(d.noL&&Dt.noLs ds)=true:=by simpa [Dt.noLs] using n
  rw[bE] at n';show#[x,r,e,zru hA n'.1 h1,zbe hA n'.2 h2]
end
def zaj (Pn:PN)(A:AL)(n:Nat)(H:Hp):Prop:=
 (match Pn.pn with
 | none=>True
 | some (p,c,ns)=>Pen H p c ns n/\(∀r,ns=0::r->¬ A c)/\¬ A p)/\Pn.J.K A H
def Own (A:AL)(H:Hp)(w:W)(v:V):Prop:=∃a,v = .ref a/\A a/\Bor A H w v/\w.mut=true
def Al (A:AL)(H:Hp):Prop:=∀a,A a->∃o,H a=some o/\NP o/\Mt o
structure EnvR (A:AL)(M:AR)(G:St)(H:Hp)(D:Ev):Prop where
 len:G.length=D.length
 val:∀i w,D[i]?=some (some w)->∃v,G[i]?=some (some v)/\(i∉M->Val A H w v)/\(i∈M->Own A H w v)
 dis:∀i j w u a,i∈M->j∈M->i≠j->D[i]?=some (some w)->D[j]?=some (some u)->G[i]?=some (some (.ref a))->G[j]?≠some (some (.ref a))
 al:Al A H
def EnvR.stay(E:EnvR A M G H D)(s:zy H H'):EnvR A M G H' D where
 len:=E.len
 val:=λi w e=>by obtain⟨v,h1,h2,q⟩:=E.val i w e;show#[v,h1,λz=>(h2 z).stay s,λz=>?_];obtain⟨a,e,B,F,I⟩:=q z;show#[a,e,B,F.stay s,I]
 dis:=E.dis
 al:=λa h=>by obtain⟨o,h1,h2,q⟩:=E.al a h;show#[o,s _ _ h1 h2,h2,q]
def EnvR.new(E:EnvR A M G H D)(h:H p=none):¬ A p:=λz=>by
 obtain⟨o,h1,_⟩:=E.al p z;grind
def Fr (H:Hp)(a:Addr):Prop:=∀o,H a=some o->¬ NP o
def Fr.of(h:H a=none):Fr H a:=λo e=>by rw[h] at e;cases e
def Fr.back(h:Fr H1 a)(s:zy H H1):Fr H a:=λo e n=>h o (s _ _ e n) n
def FrV (A:AL)(H H':Hp)(w:W)(v:V):Prop:=∃a,v = .ref a/\Fr H a/\WAt H' (yg (λb=>A b\/b=a) H') w v
def FrV.back(h:FrV A H1 H' w v)(s:zy H H1):FrV A H H' w v:=let ⟨a,e,f,g⟩:=h;#[a,e,f.back s,g]
def FrV.less(h:FrV A H H' w v)(s:∀a,A0 a->A a):FrV A0 H H' w v:=let ⟨a,e,f,g⟩:=h;#[a,e,f,WAt.up (zy.refl _) (zy.same (xZ λb z=>z.elim (λz=>.inl (s b z)) .inr)) g]
def EnvR.newF(E:EnvR A M G H D)(h:Fr H p):¬ A p:=λz=>by obtain⟨o,h1,h2,_⟩:=E.al p z;show h o h1 h2
def x4(s:zy H H')(n:Fr H p):zy (yg A H) (yg (λb=>A b\/b=p) H'):=λb o e q=>by obtain⟨h1,h2⟩:=ya.mp e;show zG (λz=>z.elim h1 λz=>by subst z;show n o h2 q) (s b o h2 q)
structure Go (Pn:PN)(A:AL)(H:Hp)(n:Nat)(H':Hp):Prop where
 st:zy H H'
 pn:zaj Pn A n H'
def Go.trans(a:Go Pn A H n H1)(b:Go Pn A H1 m H2):Go Pn A H m H2:=#[a.st.trans b.st,b.pn]
structure RE (Pn:PN)(M:AR)(fr:Bool)(te:TE)(f:AD):Prop where
 run:∀A G H D n Q R,EnvR A M G H D->zaj Pn A n H->f D n R->(∀w m v H',R w m->Val A H' w v->Go Pn A H m H'->(fr=true->FrV A H H' w v)->Q v H')->te G H Q
structure RB (Pn:PN)(M:AR)(te:TE)(f:AD):Prop where
 run:∀A G H D n Q R,EnvR A M G H D->zaj Pn A n H->f D n R->(∀w m v H',R w m->Bor A H' w v->Go Pn A H m H'->Q v H')->te G H Q
structure RT (Pn:PN)(M:AR)(te:TT)(f:Ev->Mo Bool):Prop where
 run:∀A G H D n Q R,EnvR A M G H D->zaj Pn A n H->f D n R->(∀b m H',R b m->Go Pn A H m H'->Q b H')->te G H Q
def zqU (A:AL)(H:Hp):AU->AT->Prop
 | [],vs=>vs=[]
 | w::q,vs=>∃v r,vs=v::r/\Bor A H w v/\zqU A H q r
def za9 (A:AL)(H:Hp):AU->AT->Prop
 | [],vs=>vs=[]
 | w::q,vs=>∃v r,vs=v::r/\Val A H w v/\za9 A H q r
theorem za9.bor:∀ {q:AU} {vs:AT},za9 A H q vs->zqU A H q vs
 | [],_,h=>h
 | _::_,_,⟨v,r,e,h1,h2⟩=>#[v,r,e,h1.bor,za9.bor h2]
structure RA (Pn:PN)(M:AR)(ta:TA)(f:AC):Prop where
 run:∀A G H D n Q R,EnvR A M G H D->zaj Pn A n H->f D n R->(∀ws m vs H',R ws m->za9 A H' ws vs->Go Pn A H m H'->Q vs H')->ta G H Q
structure RAB (Pn:PN)(M:AR)(ta:TA)(f:AC):Prop where
 run:∀A G H D n Q R,EnvR A M G H D->zaj Pn A n H->f D n R->(∀ws m vs H',R ws m->zqU A H' ws vs->Go Pn A H m H'->Q vs H')->ta G H Q
structure Kt where
 nx:Ev->Nat->Prop
 rt:AV
 bk:Ev->Nat->Prop:=λ_ _=>False
 ct:Ev->Nat->Prop:=λ_ _=>False
abbrev Ms:=Ev->Nat->Kt->Prop
def StX (q:AL)(H0 H:Hp):Prop:=∀b o,H0 b=some o->NP o->¬ q b->H b=some o
def StX.of(s:zy H0 H):StX q H0 H:=λb o e n _=>s b o e n
def StX.stay(s:StX (λ_=>False) H0 H):zy H0 H:=λb o e n=>s b o e n λz=>z
structure Frm (A0:AL)(H0:Hp)(ca:AL)(A:AL)(H:Hp):Prop where
 sub:∀a,A0 a->A a
 new:∀a,A a->A0 a\/Fr H0 a\/ca a
 st:StX ca H0 H
 al:Al A0 H0
 cn:∀a,ca a->¬ A0 a
 cs:∀a,ca a->∃o,H a=some o/\NP o
def Frm.back(f:Frm A0 H0 B A H)(h:Fr H a)(n:¬ A a):Fr H0 a:=λo e q=>h o (f.st a o e q λz=>let ⟨o2,e2,n2⟩:=f.cs a z;h o2 e2 n2) q
structure Bs where
 ca:AL:=λ_=>False
 A0:AL
 H0:Hp
 G0:Hp
 σ0:St
def NoL (BG:Hp):Prop:=∀a xs,BG a≠some (.lst xs)
structure At3 (Pn:PN)(B:Bs)(S M:AR)(A:AL)(G:St)(H:Hp)(D:Ev)(n:Nat):Prop where
 env:EnvR A M G H D
 frm:Frm B.A0 B.H0 B.ca A H
 pn:zaj Pn A n H
 prot:zy B.G0 (yg A H)
 fix:(∀i∈S,G[i]?=B.σ0[i]?)/\(9999∈S->NoL B.G0/\NoL B.H0)
 mine:∀i w a,i∈M->D[i]?=some (some w)->G[i]?=some (some (.ref a))->Fr B.H0 a\/B.ca a
structure KOk (Pn:PN)(B:Bs)(S M:AR)(fr:Bool)(k:Kt)(BH:Ends):Prop where
 nx:∀A G H D n,At3 Pn B S M A G H D n->k.nx D n->BH.nx G H
 bk:∀A G H D n,At3 Pn B S M A G H D n->k.bk D n->BH.bk G H
 ct:∀A G H D n,At3 Pn B S M A G H D n->k.ct D n->BH.ct G H
 fc:∀a,¬ B.ca a
 rt:∀w n v H,Val B.A0 H w v->StX B.ca B.H0 H->zaj Pn B.A0 n H->(fr=true->FrV B.A0 B.H0 H w v)->k.rt w n->BH.rt v H
structure RS (Pn:PN)(S M:AR)(fr:Bool)(ts:TS)(fs:Ms):Prop where
 run:∀B A G H D n k BH,At3 Pn B S M A G H D n->KOk Pn B S M fr k BH->fs D n k->ts BH G H
structure RG (S M:AR)(g:TG)(mg:W->Ev->(Ev->Prop)->Prop):Prop where
 run:∀A G H D v w Q R,EnvR A M G H D->Val A H w v->mg w D R->(∀ σ' ρ',R ρ'->EnvR A M σ' H ρ'->(∀i∈S,σ'[i]?=G[i]?/\ρ'[i]?=D[i]?)->Q σ' H)->g v G H Q
structure RGs (S M:AR)(g:TGs)(mg:AS->Ev->(Ev->Prop)->Prop):Prop where
 run:∀A G H D vs ds Q R,EnvR A M G H D->IsL (yg A H) ds vs->mg ds D R->(∀ σ' ρ',R ρ'->EnvR A M σ' H ρ'->(∀i∈S,σ'[i]?=G[i]?/\ρ'[i]?=D[i]?)->Q σ' H)->g vs G H Q
structure ItV (ow:Bool)(A:AL)(H:Hp)(J:It)(l:AU):Prop where
 one:∀i w A2 H2,l[i]?=some w->zy (yg A H) (yg A2 H2)->(ow=true->zy H H2)->(∀p,H2 p=none->¬ A2 p)->J.go i H2/\∀x H3,J.yld i H2 x H3->yT H2 H3/\Val A2 H3 w x
 stop:∀A2 H2,zy (yg A H) (yg A2 H2)->(ow=true->zy H H2)->J.stop l.length H2
structure RI (Pn:PN)(M:AR)(ow:Bool)(wi:TI)(f:AC):Prop where
 run:∀A G H D n Q R,EnvR A M G H D->zaj Pn A n H->f D n R->(∀l m J H',R l m->ItV ow A H' J l->Go Pn A H m H'->Q J H')->wi G H Q
def RE.rb(h:RE Pn M fr te f):RB Pn M te f:=
 #[λA G H D n Q R E P q k=>h.run A G H D n Q R E P q λw m v H' r a g _=>k w m v H' r a.bor g]
def RA.rab(h:RA Pn M te f):RAB Pn M te f:=
 #[λA G H D n Q R E P q k=>h.run A G H D n Q R E P q λw m v H' r a g=>k w m v H' r a.bor g]
def zaj.same(h:zaj Pn A n H)(s:yT H H'):zaj Pn A n H':=by
 show#[?_,Pn.J.same h.2 s];have h:=h.1;split at h;trivial;show#[h.1.same s,h.2]
def Go.same(h:zaj Pn A n H)(s:yT H H'):Go Pn A H n H':=#[zy.same s,h.same s]
def Go.refl(h:zaj Pn A n H):Go Pn A H n H:=#[zy.refl _,h]
structure JE (X:Cx)(Pn:PN)(M:AR)(fr:Bool)(e:Expr)(f:AD):Prop where
 ex:∃te,QE X e te/\RE Pn M fr te f
structure JB (X:Cx)(Pn:PN)(M:AR)(e:Expr)(f:AD):Prop where
 ex:∃te,QE X e te/\RB Pn M te f
structure JT (X:Cx)(Pn:PN)(M:AR)(e:Expr)(f:Ev->Mo Bool):Prop where
 ex:∃te,QT X e te/\RT Pn M te f
structure JW (X:Cx)(Pn:PN)(M:AR)(e:Expr)(f:Ev->Mo Bool):Prop where
 ex:∃te,QW X e te/\RT Pn M te f
structure JA (X:Cx)(Pn:PN)(M:AR)(es:AO)(f:AC):Prop where
 ex:∃te,QA X es te/\RA Pn M te f
structure JAB (X:Cx)(Pn:PN)(M:AR)(es:AO)(f:AC):Prop where
 ex:∃te,QA X es te/\RAB Pn M te f
structure JO (X:Cx)(Pn:PN)(M:AR)(e:Option Expr)(f:Ev->Mo AQ):Prop where
 ex:∃t,QO X e t/\∀A G H D n Q R,EnvR A M G H D->zaj Pn A n H->f D n R->(∀o m H',R o m->Go Pn A H m H'->Q o H')->t G H Q
section
variable {X:Cx}{Pn:PN}{M:AR}{fr:Bool}{e a b c:Expr}{es:AO}{f fa fb fc:AD}{pos p:Pos}
def zrJ (i:Nat):AD:=λD n Q=>∃w,D[i]?=some (some w)/\Q w n
abbrev mC (w:W):AD:=λ_ n Q=>Q w n
abbrev znl (F:W->W->Mo W) (fa fb:AD):AD:=λD n Q=>fa D n λx q=>fb D q λy B=>F x y B Q
abbrev mUn (F:W->Mo W) (fa:AD):AD:=λD n Q=>fa D n λx q=>F x q Q
def zo7 (fa:AD):Ev->Mo Bool:=λD n Q=>fa D n λx q=>∃c,x = .d (.bl c)/\Q c q
def ztK (t u:Ev->Mo Bool):Ev->Mo Bool:=λD n Q=>t D n λc q=>if c=true then u D q Q else Q false q
def mOr (t u:Ev->Mo Bool):Ev->Mo Bool:=λD n Q=>t D n λc q=>if c=true then Q true q else u D q Q
def zu0 (t:Ev->Mo Bool):Ev->Mo Bool:=λD n Q=>t D n λc q=>Q (!c) q
def zoU (fa fb:AD):AD:=λD n Q=>fa D n λx q=>∃c,x = .d (.bl c)/\if c=true then fb D q Q else Q (.d (.bl false)) q
abbrev mNil:AC:=λ_ n Q=>Q [] n
abbrev zrH (fa:AD) (fr:AC):AC:=λD n Q=>fa D n λx q=>fr D q λxs B=>Q (x::xs) B
abbrev zuP (F:AU->Mo W) (fa:AC):AD:=λD n Q=>fa D n λxs q=>F xs q Q
def JE.bo (h:JE X Pn M fr e f):JB X Pn M e f:=let ⟨te,h1,h2⟩:=h.ex;#[te,h1,h2.rb]
def JA.bo {f:AC}(h:JA X Pn M es f):JAB X Pn M es f:=let ⟨te,h1,h2⟩:=h.ex;#[te,h1,h2.rab]
def zbt (h:JE X Pn M true e f):JE X Pn M false e f:=let ⟨te,h1,h2⟩:=h.ex;#[te,h1,#[λA G H D n Q R E P q k=>h2.run A G H D n Q R E P q λw m v H' r a g _=>k w m v H' r a g λz=>by cases z]]
def zsM(hi:i∉M):RE Pn M false (za4 i) (zrJ i):=#[λA G H D n Q R E P q k=>by obtain⟨w,e,r⟩:=q;obtain⟨v,h1,h2,_⟩:=E.val i w e;show#[v,h1,k w n v H r (h2 hi) (Go.refl P) λz=>by cases z]]
def zsH:RB Pn M (za4 i) (zrJ i):=#[λA G H D n Q R E P q k=>by
 obtain⟨w,e,r⟩:=q;obtain⟨v,h1,h2,B⟩:=E.val i w e;show#[v,h1,k w n v H r ?_ (Go.refl P)];by_cases hi:i∈M;obtain⟨a,_,_,h,_⟩:=B hi;show h;show (h2 hi).bor]
def zuL (i:Nat){x:Str}(hi:i∉M:=by ext)(B:X.N[i]?=some x:=by rfl)(F:Vis X.env.scope x:=by fail"v")(I:Ah x:=by ext)
  (q:(x==("__classdict__" : Str))=false:=by ext):JE X Pn M false (.Name x pos) (zrJ i):=#[_,qv i B F I q,zsM hi]
def zuG(i:Nat)(B:X.N[i]?=some x:=by rfl)(F:Vis X.env.scope x:=by fail"v")(I:Ah x:=by ext)(q:(x==("__classdict__" : Str))=false:=by ext):JB X Pn M (.Name x pos) (zrJ i):=#[_,qv i B F I q,zsH]
def ztV(h:∀BG,Is BG x v):RE Pn M false (tC v) (mC (.d x)):=#[λA G H D n Q R E P q k=>k _ n v H q (Val.of (h _)) (Go.refl P) λz=>by cases z]
def zl{i:Int}:JE X Pn M false (.Constant (.int i) j pos) (mC (.d (.int i))):=#[_,yC,ztV λ_=>rfl]
def zdZ:JE X Pn M false (.Constant (.bool k) j pos) (mC (.d (.bl k))):=#[_,zpN,ztV λ_=>rfl]
def zlG:JE X Pn M false (.Constant .none j pos) (mC (.d .non)):=#[_,zsx,ztV λ_=>rfl]
def zry:JE X Pn M false (.Constant (.str x) j pos) (mC (.d (.str x))):=#[_,xp,ztV λ_=>rfl]
def Al.new {A:AL}{H:Hp}(h:Al A H){p:Addr}(e:H p=none):¬ A p:=λz=>by
 obtain⟨o,h1,_⟩:=h p z;grind
def Al.stay(h:Al A H)(s:zy H H'):Al A H':=λa z=>by obtain⟨o,h1,h2,q⟩:=h a z;show#[o,s _ _ h1 h2,h2,q]
def Al.noT(h:Al A H):∀a xs,A a->H a≠some (.tup xs):=λa xs z e=>by
 obtain⟨o,h1,_,q⟩:=h a z;have:=q.tup;grind
def Al.noT' {A:AL}{H H':Hp}(h:Al A H)(s:zy H H'){p:Addr}{xs:AT}(e:H' p=some (.tup xs)):¬ A p:=λz=>(h.stay s).noT p xs z e
structure F2 (Pn:PN)(fr:Bool)(r:R2)(F:W->W->Mo W):Prop where
 run:∀A H x y wx wy n Q R,Al A H->Bor A H wx x->Bor A H wy y->zaj Pn A n H->F wx wy n R->(∀w m v H',R w m->Val A H' w v->Go Pn A H m H'->(fr=true->FrV A H H' w v)->Q v H')->r x y H Q
structure F1 (Pn:PN)(fr:Bool)(r:V->Hp->VK->Prop)(F:W->Mo W):Prop where
 run:∀A H x wx n Q R,Al A H->Bor A H wx x->zaj Pn A n H->F wx n R->(∀w m v H',R w m->Val A H' w v->Go Pn A H m H'->(fr=true->FrV A H H' w v)->Q v H')->r x H Q
structure FL (Pn:PN)(fr:Bool)(r:AT->Hp->VK->Prop)(F:AU->Mo W):Prop where
 run:∀A H xs ws n Q R,Al A H->zqU A H ws xs->zaj Pn A n H->F ws n R->(∀w m v H',R w m->Val A H' w v->Go Pn A H m H'->(fr=true->FrV A H H' w v)->Q v H')->r xs H Q
def zmt(B:F2 Pn fr r F)(I:RB Pn M ta fa)(J:RB Pn M tb fb):RE Pn M fr (tOp r ta tb) (znl F fa fb):=#[λA G H D n Q R E P O k=>by show I.run A G H D n _ _ E P O λx U Y H1 Z b1 q=>?_;show J.run A G H1 D U _ _ (E.stay q.st) q.pn Z λy n2 v2 H2 r2 b2 g2=>?_;have g:=q.trans g2;show B.run A H2 Y v2 x y n2 _ _ (E.stay g.st).al (b1.stay g2.st) b2 g2.pn r2 λw m v H' h1 h2 h3 h4=>k w m v H' h1 h2 (g.trans h3) λz=>(h4 z).back g.st]
def zvz(B:F1 Pn fr r F)(I:RB Pn M ta fa):RE Pn M fr (tUn r ta) (mUn F fa):=#[λA G H D n Q R E P J k=>by show I.run A G H D n _ _ E P J λx O U H1 Y Z q=>?_;show B.run A H1 U x O _ _ (E.stay q.st).al Z q.pn Y λw m v H' h1 h2 h3 h4=>k w m v H' h1 h2 (q.trans h3) λz=>(h4 z).back q.st]
def zsI {r:AT->Hp->VK->Prop}{F:AU->Mo W}{ta:TA}{fa:AC}(B:FL Pn fr r F)(I:RAB Pn M ta fa):RE Pn M fr (tCB r ta) (zuP F fa):=#[λA G H D n Q R E P J k=>by show I.run A G H D n _ _ E P J λx O U H1 Y Z q=>?_;show B.run A H1 U x O _ _ (E.stay q.st).al Z q.pn Y λw m v H' h1 h2 h3 h4=>k w m v H' h1 h2 (q.trans h3) λz=>(h4 z).back q.st]
def yO(B:OpQ X (binaryOp q) r)(I:F2 Pn fr r F)(J:JB X Pn M a fa)(O:JB X Pn M b fb):JE X Pn M fr (.BinOp a q b pos) (znl F fa fb):=by obtain⟨ta,U,ra⟩:=J.ex;obtain⟨tb,Y,rb⟩:=O.ex;show#[_,yL B U Y,zmt I ra rb]
def zrz(B:UnQ X (unaryOp q) r)(I:F1 Pn fr r F)(J:JB X Pn M a fa):JE X Pn M fr (.UnaryOp q a pos) (mUn F fa):=by obtain⟨ta,O,ra⟩:=J.ex;show#[_,zvr B O,zvz I ra]
def zlD(B:OpQ X (compareOp q) r)(I:F2 Pn fr r F)(J:JB X Pn M a fa)(O:JB X Pn M b fb)(U:behindInMarks q b=false):JE X Pn M fr (.Compare a [q] [b] pos) (znl F fa fb):=by obtain⟨ta,Y,ra⟩:=J.ex;obtain⟨tb,Z,rb⟩:=O.ex;show#[_,zpP B Y Z U,zmt I ra rb]
def znF(h:RB Pn M ta fa):RT Pn M (zqx ta) (zo7 fa):=#[λA G H D n Q R E P B k=>by show h.run A G H D n _ _ E P B  ?_;rintro x F I H1 ⟨c,e,r⟩ J O;subst e;have q:I = .bl c:=J;show#[c,q,k c F H1 r O]]
def zv(B:OpQ X (compareOp q) r)(I:F2 Pn fr r F)(J:JB X Pn M a fa)(O:JB X Pn M b fb)(U:behindInMarks q b=false):JT X Pn M (.Compare a [q] [b] pos) (zo7 (znl F fa fb)):=by obtain⟨ta,Y,ra⟩:=J.ex;obtain⟨tb,Z,rb⟩:=O.ex;show#[_,uV B Y Z U,znF (zmt I ra rb).rb]
def zam (h:JB X Pn M e f)(he:∀whole,isTrue e X.env whole=(do let v <- whole;standAt e.pos;holding [v] (truthy v)):=by intro _;rfl):JT X Pn M e (zo7 f):=by obtain⟨ta,qa,ra⟩:=h.ex;show#[_,znC qa he,znF ra]
def zaJ(h:JT X Pn M a t):JT X Pn M (.UnaryOp .Not a pos) (zu0 t):=by obtain⟨ta,q,ra⟩:=h.ex;show#[_,zsB q,#[λA G H D n Q R E P B k=>ra.run A G H D n _ _ E P B λb m H' r g=>k _ m H' r g]]
def xA(B:q = .And\/q = .Or)(h:JT X Pn M a t):JW X Pn M (.BoolOp q [a] pos) t:=by
 obtain⟨ta,F,ra⟩:=h.ex;rcases B with rfl | rfl;show#[_,zgk F,ra];show#[_,zsC F,ra]
def zsV(h:RT Pn M t q)(h':RT Pn M u B):RT Pn M (zvF t u) (ztK q B):=#[λA G H D n Q R E P F k=>by
 show h.run A G H D n _ _ E P F λc m H1 r g=>?_
 cases c with
 | true=>show h'.run A G H1 D m _ _ (E.stay g.st) g.pn (by simpa using r) λb I H' J g'=>k b I H' J (g.trans g')
 | false=>show k false m H1 (by simpa using r) g]
def zvB(h:RT Pn M t q)(h':RT Pn M u B):RT Pn M (tOr t u) (mOr q B):=#[λA G H D n Q R E P F k=>by
 show h.run A G H D n _ _ E P F λc m H1 r g=>?_
 cases c with
 | false=>show h'.run A G H1 D m _ _ (E.stay g.st) g.pn (by simpa using r) λb I H' J g'=>k b I H' J (g.trans g')
 | true=>show k true m H1 (by simpa using r) g]
def zck {zx:AO}{t u:Ev->Mo Bool}(h:JT X Pn M a t)(h':JW X Pn M (.BoolOp .And (b::zx) pos) u):JW X Pn M (.BoolOp .And (a::b::zx) pos) (ztK t u):=by obtain⟨ta,q,ra⟩:=h.ex;obtain⟨tb,B,rb⟩:=h'.ex;show#[_,zhf q B,zsV ra rb]
def zcl {zx:AO}{t u:Ev->Mo Bool}(h:JT X Pn M a t)(h':JW X Pn M (.BoolOp .Or (b::zx) pos) u):JW X Pn M (.BoolOp .Or (a::b::zx) pos) (mOr t u):=by obtain⟨ta,q,ra⟩:=h.ex;obtain⟨tb,B,rb⟩:=h'.ex;show#[_,zvt q B,zvB ra rb]
def JW.t {t:Ev->Mo Bool}(h:JW X Pn M e t):JT X Pn M e t:=let ⟨te,h1,h2⟩:=h.ex;#[te,h1.pt,h2]
def zoJ(h:JE X Pn M false a fa):JE X Pn M false (.BoolOp q [a] pos) fa:=let ⟨te,h1,h2⟩:=h.ex;#[te,zsz h1,h2]
def zlC {zx:AO}(h:JB X Pn M a fa)(h':JE X Pn M false (.BoolOp .And (b::zx) pos) fb):JE X Pn M false (.BoolOp .And (a::b::zx) pos) (zoU fa fb):=by
 obtain⟨ta,B,ra⟩:=h.ex;obtain⟨tb,F,rb⟩:=h'.ex;show#[_,zsu B F,#[λA G H D n Q R E P I k=>?_]];show ra.run A G H D n _ _ E P I  ?_;rintro x m v H1 ⟨c,J,r⟩ O g;subst J;have q:v = .bl c:=O;show#[c,q,?_]
 cases c with
 | true=>
  rw[if_pos rfl] at r ⊢;show rb.run A G H1 D m _ _ (E.stay g.st) g.pn r λw U Y H' Z a' g' _=>k w U Y H' Z a' (g.trans g') λz=>by cases z
 | false=>
  rw[if_neg (by ext)] at r ⊢;show k _ m _ H1 r (Val.of BB) g λz=>by cases z
def zo3 (fa:AD):AD:=λD n Q=>fa D n λx q=>∃c,x = .d (.bl c)/\Q (.d (.bl (!c))) q
def zuK (h:JB X Pn M a fa):JE X Pn M false (.UnaryOp .Not a pos) (zo3 fa):=by obtain⟨ta,B,ra⟩:=h.ex;show#[_,zsy B,#[λA G H D n Q R E P F k=>?_]];show ra.run A G H D n _ _ E P F  ?_;rintro x m v H1 ⟨c,I,r⟩ J g;subst I;have q:v = .bl c:=J;show#[c,q,k _ m _ H1 r (Val.of BB) g λz=>by cases z]
abbrev isNon:W->Bool
 | .d .non=>true
 | _=>false
def Bor.isNon(h:Bor A H w v):decide (v = .non)=isNon w:=by
 cases w with
 | d x=>
  cases x with
  | non=>have:v = .non:=h;subst this;rfl
  | bl c=>have:v = .bl c:=h;subst this;rfl
  | int c=>have:v = .int c:=h;subst this;rfl
  | str c=>have:v = .str c:=h;subst this;rfl
  | tup l=>obtain⟨a,_,rfl,_⟩:=h;rfl
  | lst l=>obtain⟨a,_,rfl,_⟩:=h;rfl
  | dct=>obtain⟨a,_,rfl,_⟩:=h;rfl
 | pen p=>have:v = .ref p:=h;subst this;rfl
 | dk k=>obtain⟨a,_,rfl,_⟩:=h;rfl
 | dt k=>obtain⟨a,_,rfl,_⟩:=h;rfl
 | ss P w k=>obtain⟨a,_,rfl,_⟩:=h;rfl
 | df k=>obtain⟨a,_,_,rfl,_⟩:=h;rfl
 | kf k=>obtain⟨a,_,_,rfl,_⟩:=h;rfl
 | fl k=>obtain⟨a,_,_,rfl,_⟩:=h;rfl
 | ad a x=>obtain⟨⟨b,rfl⟩,_⟩:=h;rfl
 | tz k x=>obtain⟨a,_,_,_,_,rfl,_⟩:=h;rfl
abbrev mIsN (fa:AD):AD:=λD n Q=>fa D n λx q=>Q (.d (.bl (isNon x))) q
abbrev mNotN (fa:AD):AD:=λD n Q=>fa D n λx q=>Q (.d (.bl (!isNon x))) q
def zsL(h:RB Pn M ta fa):RE Pn M false (zvJ ta) (mIsN fa):=#[λA G H D n Q R E P q k=>by show h.run A G H D n _ _ E P q λx m v H1 r B g=>?_;show k _ m _ H1 r (Val.of (by rw[B.isNon];rfl)) g λz=>by cases z]
def zvC(h:RB Pn M ta fa):RT Pn M (tB ta) (zo7 fa):=#[λA G H D n Q R E P B k=>by show h.run A G H D n _ _ E P B  ?_;rintro x F I H1 ⟨c,e,r⟩ J O;subst e;have q:I = .bl c:=J;show#[c,q,k c F H1 r O]]
def zni(h:JB X Pn M a fa):JT X Pn M (.Compare a [.Is] [.Constant .none j pos'] pos) (zo7 (mIsN fa)):=by obtain⟨ta,q,ra⟩:=h.ex;show#[_,znB (znw q),zvC (zsL ra).rb]
def ze:JA X Pn M [] mNil:=#[_,yR,#[λA G H D n Q R E P q k=>k [] n [] H q BB (Go.refl P)]]
def za(B:JE X Pn M fr e f)(F:JA X Pn M es fs)(hs:starEach (e::es) X.env=(false,eval e X.env)::starEach es X.env:=by rfl):JA X Pn M (e::es) (zrH f fs):=by obtain⟨ta,I,ra⟩:=B.ex;obtain⟨tb,J,rb⟩:=F.ex;show#[_,zZ I J hs,#[λA G H D n Q R E P O k=>?_]];show ra.run A G H D n _ _ E P O λx U Y H1 Z b1 q _=>?_;show rb.run A G H1 D U _ _ (E.stay q.st) q.pn Z λxs n2 vs H2 r2 b2 g2=>k _ n2 _ H2 r2 #[Y,vs,BB,b1.stay g2.st,b2] (q.trans g2)
def zj:JAB X Pn M [] mNil:=ze.bo
def zh(B:JB X Pn M e f)(F:JAB X Pn M es fs)(hs:starEach (e::es) X.env=(false,eval e X.env)::starEach es X.env:=by rfl):JAB X Pn M (e::es) (zrH f fs):=by obtain⟨ta,I,ra⟩:=B.ex;obtain⟨tb,J,rb⟩:=F.ex;show#[_,zZ I J hs,#[λA G H D n Q R E P O k=>?_]];show ra.run A G H D n _ _ E P O λx U Y H1 Z b1 q=>?_;show rb.run A G H1 D U _ _ (E.stay q.st) q.pn Z λxs n2 vs H2 r2 b2 g2=>k _ n2 _ H2 r2 #[Y,vs,BB,b1.stay g2.st,b2] (q.trans g2)
def lim:Nat:=500000
def zdt(h:n<=lim):n<=sizeLine:=aq h (by ext)
def zgZ(h:n<=lim):n<sizeLine:=bg h (by ext)
def dts:AU->Option AS
 | []=>some []
 | .d x::r=>(dts r).map (x::·)
 | _::_=>none
theorem za9.dts:∀ {q:AU} {vs:AT} {l:AS},za9 A H q vs->dts q=some l->IsL (yg A H) l vs
 | [],vs,l,h,e=>by cases e;show h
 | .d x::q,vs,l,⟨v,r,B,h1,h2⟩,e=>by obtain⟨l',F,rfl⟩:=aH.mp e;show#[v,r,B,h1.is,za9.dts h2 F]
 | .pen _::_,_,_,_,e=>by cases e
 | .dk _::_,_,_,_,e=>by cases e
 | .dt _::_,_,_,_,e=>by cases e
 | .ss _ _ _::_,_,_,_,e=>by cases e
 | .df _::_,_,_,_,e=>by cases e
 | .kf _::_,_,_,_,e=>by cases e
 | .fl _::_,_,_,_,e=>by cases e
 | .ad _ _::_,_,_,_,e=>by cases e
 | .tz _ _::_,_,_,_,e=>by cases e
theorem za9.len:∀ {q:AU} {vs:AT},za9 A H q vs->vs.length=q.length
 | [],_,h=>by cases h;rfl
 | _::q,vs,⟨v,r,e,_,h2⟩=>by rw[e,aJ,aJ,za9.len h2]
def zcY {A:AL}{H H':Hp}{p:Addr}{xs:AT}{l:AS}(q:IsL (yg A H) l xs)(s:zy H H')(n:¬ A p)(g:H' p=some (.tup xs)):Val A H' (.d (.tup l)) (.ref p):=
 Val.of #[p,xs,BB,zG n g,q.stay (yF s)]
def u7 {A:AL}{H H':Hp}{p:Addr}{xs:AT}{l:AS}(q:IsL (yg A H) l xs)(s:zy H H')(n:¬ A p)(g:H' p=some (.lst xs)):Val A H' (.d (.lst l)) (.ref p):=
 Val.of #[p,xs,BB,zG n g,q.stay (yF s)]
def uK {A:AL}{H H':Hp}{p:Addr}{xs:AT}{l:AS}(q:IsL (yg A H) l xs)(s:yT H H')(n:H p=none)(g:H' p=some (.lst xs)):FrV A H H' (.d (.lst l)) (.ref p):=
 #[p,BB,.of n,p,xs,BB,g,q.stay (x4 (zy.same s) (.of n))]
abbrev ztQ:Nat->AU->(AS->Prop)->Prop
 | _,[],P=>P []
 | k+1,.d x::r,P=>ztQ k r λl=>P (x::l)
 | _,_,_=>False
theorem zei:∀ {k:Nat} {l:AU} {P:AS->Prop},ztQ k l P->∃ds,dts l=some ds/\P ds/\l.length<=k
 | 0,[],P,h=>#[[],BB,h,aI _]
 | k+1,[],P,h=>#[[],BB,h,aI _]
 | 0,.d x::r,P,h=>h.elim
 | k+1,.d x::r,P,h=>by obtain⟨ds,e,h2,q⟩:=zei (k:=k) (l:=r) (P:=λl=>P (x::l)) h;show#[x::ds,by simp[dts,e],h2,dR q]
 | 0,.pen _::r,P,h=>h.elim
 | k+1,.pen _::r,P,h=>h.elim
 | 0,.dk _::r,P,h=>h.elim
 | k+1,.dk _::r,P,h=>h.elim
 | 0,.dt _::r,P,h=>h.elim
 | 0,.ss _ _ _::r,P,h=>h.elim
 | 0,.df _::r,P,h=>h.elim
 | 0,.kf _::r,P,h=>h.elim
 | 0,.fl _::r,P,h=>h.elim
 | 0,.ad _ _::r,P,h=>h.elim
 | 0,.tz _ _::r,P,h=>h.elim
 | k+1,.dt _::r,P,h=>h.elim
 | k+1,.ss _ _ _::r,P,h=>h.elim
 | k+1,.df _::r,P,h=>h.elim
 | k+1,.kf _::r,P,h=>h.elim
 | k+1,.fl _::r,P,h=>h.elim
 | k+1,.ad _ _::r,P,h=>h.elim
 | k+1,.tz _ _::r,P,h=>h.elim
abbrev zu6 (fa:AC):AD:=λD n Q=>fa D n λq m=>ztQ 200 q λl=>Q (.d (.tup l)) m
def yP{x1}(h:JA X Pn M es fs):JE X Pn M false (.Tuple es x1 pos) (zu6 fs):=by obtain⟨ta,q,ra⟩:=h.ex;show#[_,zgf q,#[λA G H D n Q R E P B k=>?_]];show ra.run A G H D n _ _ E P B λU m vs H1 F b g=>?_;obtain⟨l,e,r,I⟩:=zei F;show#[zdt (by rw[b.len];show aq I (by ext)),λp H2 J O S=>?_];show k _ m _ H2 r (zcY (b.dts e) (zy.same S) ((E.stay g.st).new J) O) (g.trans (Go.same g.pn S)) λz=>by cases z
abbrev zuZ (fa:AC):AD:=λD n Q=>fa D n λq m=>ztQ 200 q λl=>Q (.d (.lst l)) m
def xw(h:JA X Pn M es fs):JE X Pn M true (.List es pos) (zuZ fs):=by obtain⟨ta,F,ra⟩:=h.ex;show#[_,zpS F,#[λA G H D n Q R E P I k=>?_]];show ra.run A G H D n _ _ E P I λU m vs H1 J b g=>?_;obtain⟨l,e,r,O⟩:=zei J;show#[zdt (by rw[b.len];show aq O (by ext)),λp H2 q B S=>?_];show k _ m _ H2 r (u7 (b.dts e) (zy.same S) ((E.stay g.st).new q) B) (g.trans (Go.same g.pn S)) λ_=>(uK (b.dts e) S q B).back g.st
def zA {id:String}{r:AT->Hp->VK->Prop}{F:AU->Mo W}{x:Str}{fs:AC}(I:CallQ X (.builtin id) r)(J:FL Pn fr r F)(O:Gl X x)(U:X.mg x=none)(Y:bootBuiltins x=some (.builtin id))(Z:JAB X Pn M (e::es) fs)(hn:x ≠ "__name__" := by ext)(q:Ah x:=by ext)
  (he:starEach (e::es) X.env=(false,eval e X.env)::starEach es X.env:=by rfl) (B:(backTo pos (starEach es X.env)).any (·.1)=false:=by rfl):JE X Pn M fr (.Call (.Name x p) (e::es) [] pos) (zuP F fs):=by
 obtain⟨ta,qa,ra⟩:=Z.ex;show#[_,xh I O U Y qa hn q he B,zsI J ra]
def yy(I:CallQ X (.type T) r)(J:FL Pn fr r F)(O:Gl X x)(U:X.mg x=none)(Y:bootBuiltins x=some (.type T))(Z:JAB X Pn M (e::es) fs)(hn:x ≠ "__name__" := by ext)(q:Ah x:=by ext)(he:starEach (e::es) X.env=(false,eval e X.env)::starEach es X.env:=by rfl)(B:(backTo pos (starEach es X.env)).any (·.1)=false:=by rfl):JE X Pn M fr (.Call (.Name x p) (e::es) [] pos) (zuP F fs):=by
 obtain⟨ta,qa,ra⟩:=Z.ex;show#[_,zcG I O U Y qa hn q he B,zsI J ra]
end
section
variable {Pn:PN}{K:AH}{A:AL}{H:Hp}
def yN{i:Int}(h:Bor A H (.d (.int i)) v):v = .int i:=h
def uH(h:Bor A H (.d (.tup l)) v):∃a xs,v = .ref a/\H a=some (.tup xs)/\IsL (yg A H) l xs:=by obtain⟨a,xs,e,h1,h2⟩:=h;show#[a,xs,e,zo _ _ h1,h2]
def y4(h:Bor A H (.d (.lst l)) v):∃a xs,v = .ref a/\H a=some (.lst xs)/\IsL (yg A H) l xs:=h
def zfK(h:Bor A H (.d (.lst l)) v\/Bor A H (.d (.tup l)) v):∃a xs,v = .ref a/\(SqL K H a xs\/SqT K H a xs)/\IsL (yg A H) l xs:=by
 rcases h with h | h;obtain⟨a,xs,e,h1,h2⟩:=y4 h;show#[a,xs,e,.inl (.of h1),h2];obtain⟨a,xs,e,h1,h2⟩:=uH h;show#[a,xs,e,.inr (.of h1),h2]
def fI (C:Int->Int->Prop)(g:Int->Int->Dt):W->W->Mo W:=λx y n Q=>∃i j,x = .d (.int i)/\y = .d (.int j)/\C i j/\Q (.d (g i j)) n
def fI0 (g:Int->Int->Dt):W->W->Mo W:=λx y n Q=>∃i j,x = .d (.int i)/\y = .d (.int j)/\Q (.d (g i j)) n
def zur {C:Int->Int->Prop}{g:Int->Int->V}{g':Int->Int->Dt}(B:∀i j BG,Is BG (g' i j) (g i j)):F2 Pn false (rI C g) (fI C g'):=#[by
 rintro A H x y O U n Q R Y F q P ⟨i,j,I,J,c,r⟩ k;subst I J;show#[i,j,yN F,yN q,c,k _ n _ H r (Val.of (B _ _ _)) (Go.refl P) λz=>by cases z]]
def zhA {g:Int->Int->V}{g':Int->Int->Dt}(B:∀i j BG,Is BG (g' i j) (g i j)):F2 Pn false (rI0 g) (fI0 g'):=#[by
 rintro A H x y O U n Q R Y F q P ⟨i,j,I,J,r⟩ k;subst I J;show#[i,j,yN F,yN q,k _ n _ H r (Val.of (B _ _ _)) (Go.refl P) λz=>by cases z]]
abbrev fAdd:=fI0 λi j=>.int (i+j)
abbrev fSub:=fI0 λi j=>.int (i - j)
abbrev fMul:=fI zmX λi j=>.int (i * j)
abbrev fDiv:=fI zqQ λi j=>.int (i / j)
abbrev fMod:=fI (λ_ j=>0<j) λi j=>.int (i % j)
abbrev fLt:=fI0 λi j=>.bl (decide (i<j))
abbrev fLe:=fI0 λi j=>.bl (decide (i<=j))
abbrev fGt:=fI0 λi j=>.bl (decide (j<i))
abbrev fGe:=fI0 λi j=>.bl (decide (j<=i))
def zvS:F2 Pn false (rI0 λi j=>.int (i+j)) fAdd:=zhA λ_ _ _=>rfl
def zv4:F2 Pn false (rI0 λi j=>.int (i - j)) fSub:=zhA λ_ _ _=>rfl
def zv1:F2 Pn false (rI zmX λi j=>.int (i * j)) fMul:=zur λ_ _ _=>rfl
def ztq:F2 Pn false (rI zqQ λi j=>.int (i / j)) fDiv:=zur λ_ _ _=>rfl
def zv0:F2 Pn false (rI (λ_ j=>0<j) λi j=>.int (i % j)) fMod:=zur λ_ _ _=>rfl
def v_lt:F2 Pn false (rI0 λi j=>.bl (decide (i<j))) fLt:=zhA λ_ _ _=>rfl
def v_le:F2 Pn false (rI0 λi j=>.bl (decide (i<=j))) fLe:=zhA λ_ _ _=>rfl
def v_gt:F2 Pn false (rI0 λi j=>.bl (decide (j<i))) fGt:=zhA λ_ _ _=>rfl
def v_ge:F2 Pn false (rI0 λi j=>.bl (decide (j<=i))) fGe:=zhA λ_ _ _=>rfl
def zuA:W->Mo W:=λx n Q=>∃i,x = .d (.int i)/\Q (.d (.int (-i))) n
def zv3:F1 Pn false (rU λi=>.int (-i)) zuA:=#[by
 rintro A H x B n Q R F q P ⟨i,e,r⟩ k;subst e;show#[i,yN q,k _ n _ H r (Val.of BB) (Go.refl P) λz=>by cases z]]
abbrev sEq:Dt->Dt->Option Bool
 | .int i,.int j=>some (decide (i=j))
 | .bl i,.bl j=>some (decide (i=j))
 | .str i,.str j=>some (decide (i=j))
 | .non,.non=>some true
 | .non,.int _=>some false
 | .int _,.non=>some false
 | .non,.bl _=>some false
 | .bl _,.non=>some false
 | .non,.str _=>some false
 | .str _,.non=>some false
 | .int _,.str _=>some false
 | .str _,.int _=>some false
 | _,_=>none
def plain:Dt->Option V
 | .int i=>some (.int i)
 | .bl i=>some (.bl i)
 | .str i=>some (.str i)
 | .non=>some .non
 | _=>none
def znI(h:sEq a b=some r):∃x y,plain a=some x/\plain b=some y/\zvD x y=true/\decide (x=y)=r:=by cases a <;> cases b <;> cases h <;> show#[_,_,BB,BB,BB,?_] <;> first | rfl | show a6 (by lia) | show decide_eq_decide.mpr (by simp)
def zaE(h:Bor A H (.d a) v)(e:plain a=some x):v=x:=by cases a <;> cases e <;> show h
def fEq:W->W->Mo W:=λx y n Q=>∃a b r,x = .d a/\y = .d b/\sEq a b=some r/\Q (.d (.bl r)) n
def fNe:W->W->Mo W:=λx y n Q=>∃a b r,x = .d a/\y = .d b/\sEq a b=some r/\Q (.d (.bl (!r))) n
def v_eq:F2 Pn false rEq fEq:=#[by
 rintro A H x y J O n Q R U B q P ⟨a,b,r,F,I,e,h⟩ k;subst F I;obtain⟨Y,Z,p1,p2,s,d⟩:=znI e;obtain rfl:=zaE B p1;obtain rfl:=zaE q p2;show#[s,k _ n _ H h (Val.of (by rw[d];rfl)) (Go.refl P) λz=>by cases z]]
def v_ne:F2 Pn false rNe fNe:=#[by
 rintro A H x y J O n Q R U B q P ⟨a,b,r,F,I,e,h⟩ k;subst F I;obtain⟨Y,Z,p1,p2,s,d⟩:=znI e;obtain rfl:=zaE B p1;obtain rfl:=zaE q p2;show#[s,k _ n _ H h (Val.of (by rw[d];rfl)) (Go.refl P) λz=>by cases z]]
def zut:W->W->Mo W:=λx y n Q=>∃a b,x = .d a/\y = .d b/\a.eqOk/\b.eqOk/\∀r:Bool,(r=true↔a=b)->Q (.d (.bl r)) n
def zuz:W->W->Mo W:=λx y n Q=>∃a b,x = .d a/\y = .d b/\a.eqOk/\b.eqOk/\∀r:Bool,(r=true↔a=b)->Q (.d (.bl (!r))) n
def zvU:F2 Pn false ztS zut:=#[by
 rintro A H x y Y Z n Q R al B q P ⟨a,b,F,I,J,O,h⟩ k;subst F I;show#[a,b,B.is,q.is,J,O,λr U=>k _ n _ H (h r U) (Val.of BB) (Go.refl P) λz=>by cases z]]
def zv2:F2 Pn false ztU zuz:=#[by
 rintro A H x y Y Z n Q R al B q P ⟨a,b,F,I,J,O,h⟩ k;subst F I;show#[a,b,B.is,q.is,J,O,λr U=>k _ n _ H (h r U) (Val.of BB) (Go.refl P) λz=>by cases z]]
def zuv:W->W->Mo W:=λx y n Q=>∃ (b:Int) (ns:AG),x = .d (.int b)/\(y = .d (.lst (ns.map .int))\/y = .d (.tup (ns.map .int)))/\Q (.d (.bl (ns.contains b))) n
def zfW:W->W->Mo W:=λx y n Q=>∃ (b:Int) (ns:AG),x = .d (.int b)/\(y = .d (.lst (ns.map .int))\/y = .d (.tup (ns.map .int)))/\Q (.d (.bl (!ns.contains b))) n
def zvW:F2 Pn false (rIn K false) zuv:=#[by
 rintro A H x y O U n Q R Y q B P ⟨b,ns,F,Z,h⟩ k;subst F;have I:Bor A H (.d (.lst (ns.map .int))) y\/Bor A H (.d (.tup (ns.map .int))) y:=by grind
 obtain⟨a,xs,e,hs,J⟩:=zfK (K:=K) I;obtain rfl:=J.of_ints;obtain rfl:=yN q;show#[a,_,e,hs,BB,zca ns,k _ n _ H h (Val.of (by rw[zdR];rfl)) (Go.refl P) λz=>by cases z]]
def zmR:F2 Pn false (rIn K true) zfW:=#[by
 rintro A H x y O U n Q R Y q B P ⟨b,ns,F,Z,h⟩ k;subst F;have I:Bor A H (.d (.lst (ns.map .int))) y\/Bor A H (.d (.tup (ns.map .int))) y:=by grind
 obtain⟨a,xs,e,hs,J⟩:=zfK (K:=K) I;obtain rfl:=J.of_ints;obtain rfl:=yN q;show#[a,_,e,hs,BB,zca ns,k _ n _ H h (Val.of (by rw[zdR];rfl)) (Go.refl P) λz=>by cases z]]
def zuu (q:Bool):W->W->Mo W:=λx y n Q=>∃d ds,x = .d d/\(y = .d (.lst ds)\/y = .d (.tup ds))/\d.eqOk/\(Dt.lst ds).eqOk/\∀b:Bool,(b=true↔d∈ds)->Q (.d (.bl (if q then !b else b))) n
def zvV:F2 Pn false (zvv q) (zuu q):=#[by
 rintro A H x y Z wy n Q R al F B P ⟨d,ds,I,J,O,U,h⟩ k;subst I;show#[d,ds,F.is,?_,O,U,λb Y=>k _ n _ H (h b Y) (Val.of BB) (Go.refl P) λz=>by cases z];rcases J with rfl | rfl;show .inl B.is;show .inr B.is]
def zna{i:Int}(h:IsL BG l xs)(e:atI l i=some d):∃v,atI xs i=some v/\Is BG d v:=by
 unfold atI at e ⊢;rw[h.length];obtain⟨j,h1,h2⟩:=eA.mp e;obtain⟨v,q,B⟩:=h.getD h2;right
def zux:W->W->Mo W:=λx y n Q=>∃l i d,x = .d (.tup l)/\y = .d (.int i)/\atI l i=some d/\Q (.d d) n
def zuw:W->W->Mo W:=λx y n Q=>∃l i d,x = .d (.lst l)/\y = .d (.int i)/\atI l i=some d/\Q (.d d) n
def zvY:F2 Pn false (zsD K) zux:=#[by
 rintro A H x y Y Z n Q R al B q P ⟨l,i,d,F,I,e,h⟩ k;subst F I;obtain⟨a,xs,J,O,U⟩:=uH B;obtain⟨v,h1,h2⟩:=zna U e;show#[a,xs,i,v,J,yN q,.of O,h1,k _ n _ H h (Val.of h2) (Go.refl P) λz=>by cases z]]
def zvX:F2 Pn false (ztT K) zuw:=#[by
 rintro A H x y Y Z n Q R al B q P ⟨l,i,d,F,I,e,h⟩ k;subst F I;obtain⟨a,xs,J,O,U⟩:=y4 B;obtain⟨v,h1,h2⟩:=zna U e;show#[a,xs,i,v,J,yN q,.of O,h1,k _ n _ H h (Val.of h2) (Go.refl P) λz=>by cases z]]
def zfV:W->W->Mo W:=λx y n Q=>∃l m,x = .d (.tup l)/\y = .d (.tup m)/\l.length+m.length<=lim/\Q (.d (.tup (l++m))) n
def ztp:F2 Pn false (zmn K) zfV:=#[by
 rintro A H x y wx wy n Q R I J q P ⟨l,m,O,U,z,h⟩ k;subst O U;obtain⟨a,xs,Y,Z,B⟩:=uH J;obtain⟨b,ys,eb,hb,F⟩:=uH q;show#[a,b,xs,ys,Y,eb,Z,hb,zdt (by rw[B.length,F.length];show z),λp H' g S=>?_];show k _ n _ H' h (zcY (B.append F) (zy.same S) (I.noT' (zy.same S) g) g) (Go.same P S) λz=>by cases z]
def zog:W->W->Mo W:=λx y n Q=>∃l m,x = .d (.lst l)/\y = .d (.lst m)/\l.length+m.length<=lim/\Q (.d (.lst (l++m))) n
def zto:F2 Pn true zp2 zog:=#[by
 rintro A H x y wx wy n Q R J O q P ⟨l,m,U,Y,z,h⟩ k;subst U Y;obtain⟨a,xs,Z,ha,B⟩:=y4 O;obtain⟨b,ys,eb,hb,F⟩:=y4 q;show#[a,b,xs,ys,Z,eb,ha,hb,zdt (by rw[B.length,F.length];show z),λp H' I g S=>?_];show k _ n _ H' h (u7 (B.append F) (zy.same S) (J.new I) g) (Go.same P S) λz=>uK (B.append F) S I g]
def zop:W->W->Mo W:=λx y n Q=>∃l j,x = .d (.tup l)/\y = .d (.int j)/\1<=j/\j<=1000000/\l.length * j.toNat<=lim/\Q (.d (.tup (List.replicate j.toNat l).flatten)) n
theorem zi6(h:IsL BG l xs):∀k:Nat,IsL BG (List.replicate k l).flatten (List.replicate k xs).flatten
 | 0=>rfl
 | k+1=>by rw[cy,cy,dG,dG];show h.append (zi6 h k)
def zts:F2 Pn false zp5 zop:=#[by
 rintro A H x y wx wy n Q R F I q P ⟨l,j,J,O,U,j2,z,h⟩ k;subst J O;obtain⟨a,xs,Y,Z,B⟩:=uH I;show#[a,j,xs,Y,yN q,Z,U,by lia,zdt (by rw[B.length];show z),λp H' g S=>?_];show k _ n _ H' h (zcY (zi6 B _) (zy.same S) (F.noT' (zy.same S) g) g) (Go.same P S) λz=>by cases z]
abbrev lenD:W->Option Nat
 | .d (.lst l)=>some l.length
 | .d (.tup l)=>some l.length
 | _=>none
def zuy:AU->Mo W:=λq n Q=>∃x k,q=[x]/\lenD x=some k/\Q (.d (.int (k:Int))) n
def zb6(h:zqU A H [w] vs):∃v,vs=[v]/\Bor A H w v:=by obtain⟨v,r,e,h1,h2⟩:=h;cases h2;show#[v,e,h1]
def zvZ:FL Pn false (λxs H Q=>∃x n,xs=[x]/\ztz K x H n/\Q (.int n) H) zuy:=#[by
 rintro A H xs O n Q R U b P ⟨x,j,J,q,h⟩ k;subst J;obtain⟨v,rfl,I⟩:=zb6 b;show#[v,j,BB,?_,k _ n _ H h (Val.of BB) (Go.refl P) λz=>by cases z]
 cases x with
 | d x=>
  cases x with
  | lst l=>
   cases q;obtain⟨a,ys,rfl,B,F⟩:=y4 I;show .inl #[ys,.of B,F.length.symm]
  | tup l=>
   cases q;obtain⟨a,ys,rfl,B,F⟩:=uH I;show .inr #[ys,.of B,F.length.symm]
  | _=>cases q
 | _=>cases q]
theorem zi5:∀ {bs:List Bool} {xs:AT},IsL BG (bs.map .bl) xs->xs=bs.map V.bl
 | [],_,h=>h
 | b::bs,xs,h=>by obtain⟨y,r,rfl,h1,h2⟩:=h;cases h1;rw[zi5 h2];rfl
def zus:AU->Mo W:=λq n Q=>∃bs:List Bool,q=[.d (.lst (bs.map .bl))]/\Q (.d (.bl (bs.all id))) n
def zvT:FL Pn false (λxs H Q=>∃ (p:Addr) (bs:List Bool),xs=[.ref p]/\H p=some (.lst (bs.map V.bl))/\Q (.bl (bs.all id)) H) zus:=#[by
 rintro A H xs J n Q R O b P ⟨bs,q,h⟩ k;subst q;obtain⟨v,rfl,B⟩:=zb6 b;obtain⟨a,ys,rfl,F,I⟩:=y4 B;obtain rfl:=zi5 I;show#[a,bs,BB,F,k _ n _ H h (Val.of BB) (Go.refl P) λz=>by cases z]]
def zrm:AU->Mo W:=λq n Q=>∃l,(q=[.d (.lst l)]\/q=[.d (.tup l)])/\Q (.d (.lst l)) n
def ztr:FL Pn true (zkg K) zrm:=#[by
 rintro A H xs O n Q R F b P ⟨l,I,h⟩ k
 obtain⟨v,rfl,J⟩:∃v,xs=[v]/\(Bor A H (.d (.lst l)) v\/Bor A H (.d (.tup l)) v):=by
  rcases I with rfl | rfl;obtain⟨v,e,h⟩:=zb6 b;show#[v,e,.inl h];obtain⟨v,e,h⟩:=zb6 b;show#[v,e,.inr h]
 obtain⟨a,ys,rfl,hs,q⟩:=zfK (K:=K) J;show#[a,ys,BB,hs,λp H' B g S=>k _ n _ H' h (u7 q (zy.same S) (F.new B) g) (Go.same P S) λz=>uK q S B g]]
def zm8:AU->Mo W:=λq n Q=>∃l,(q=[.d (.lst l)]\/q=[.d (.tup l)])/\Q (.d (.tup l)) n
def zqK:FL Pn false (zgm K) zm8:=#[by
 rintro A H xs U n Q R I b P ⟨l,J,h⟩ k;rcases J with rfl | rfl;obtain⟨v,rfl,B⟩:=zb6 b;obtain⟨a,ys,rfl,q,F⟩:=y4 B;show#[a,ys,BB,.inl #[.of q,λp H' O g S=>k _ n _ H' h (zcY F (zy.same S) (I.new O) g) (Go.same P S) λz=>by cases z]];obtain⟨v,rfl,B⟩:=zb6 b;obtain⟨a,ys,e,q,F⟩:=id B;subst e;show#[a,ys,BB,.inr #[.of (zo _ _ q),k _ n _ H h (Val.of #[a,ys,BB,q,F]) (Go.refl P) λz=>by cases z]]]
def y6 {α:Type}(xs:List α)(lo hi:AQ):List α:=(xs.drop (HT.sIx xs.length 0 lo)).take (HT.sIx xs.length xs.length hi - HT.sIx xs.length 0 lo)
def zf5{lo hi:AQ}(h:IsL BG l xs):IsL BG (y6 l lo hi) (zdk xs lo hi):=by unfold y6 zdk;rw[h.length];show (h.drop _).take _
def zc4 {κ:Type}[DecidableEq κ](BD:List (κ×Dt))(k:κ):Option Dt:=(BD.find? λq=>decide (q.1=k)).map (·.2)
end
section
variable {X:Cx}{Pn:PN}{M S:AR}{fr:Bool}{e a b c:Expr}{es:AO}{f fa fb fc:AD}{pos p:Pos}
def xb(q:IxQ X r)(B:F2 Pn fr r F)(I:JB X Pn M a fa)(J:JB X Pn M b fb)(hs:zfG b):JE X Pn M fr (.Subscript a b pos) (znl F fa fb):=by obtain⟨ta,O,ra⟩:=I.ex;obtain⟨tb,U,rb⟩:=J.ex;show#[_,zml q O U hs,zmt B ra rb]
abbrev zo2:Ev->Mo AQ:=λ_ n Q=>Q none n
def zo4 (fa:AD):Ev->Mo AQ:=λD n Q=>fa D n λx m=>∃i,x = .d (.int i)/\Q (some i) m
def zW:JO X Pn M none zo2:=#[_,zgh,λA G H D n Q R E P q k=>k none n H q (Go.refl P)]
def zK (h:JB X Pn M e f):JO X Pn M (some e) (zo4 f):=by obtain⟨te,q,r⟩:=h.ex;show#[_,zgi q,λA G H D n Q R E P B k=>?_];show r.run A G H D n _ _ E P B  ?_;rintro w m v H' ⟨i,e,r⟩ F g;subst e;show#[i,yN F,k (some i) m H' r g]
def zu4 (fa:AD)(fl q:Ev->Mo AQ):AD:=λD n Q=>fa D n λx B=>fl D B λlo F=>q D F λhi I=>∃l,x = .d (.tup l)/\Q (.d (.tup (y6 l lo hi))) I
def zu3 (fa:AD)(fl q:Ev->Mo AQ):AD:=λD n Q=>fa D n λx B=>fl D B λlo F=>q D F λhi I=>∃l,x = .d (.lst l)/\Q (.d (.lst (y6 l lo hi))) I
def zjg{fl I:Ev->Mo AQ}(O:JB X Pn M e f)(B:JO X Pn M lo fl)(U:JO X Pn M hi I):JE X Pn M false (.Subscript e (.Slice lo hi none p2) pos) (zu4 f fl I):=by obtain⟨te,Y,Z⟩:=O.ex;obtain⟨tl,ql,rl⟩:=B.ex;obtain⟨th,qh,rh⟩:=U.ex;show#[_,zb1 zgw Y ql qh,#[λA G H D n Q R E P hf k=>?_]];show Z.run A G H D n _ _ E P hf λw m v H1 r1 bb q=>?_;show rl A G H1 D m _ _ (E.stay q.st) q.pn r1 λo m2 H2 r2 g2=>?_;show rh A G H2 D m2 _ _ ((E.stay q.st).stay g2.st) g2.pn r2  ?_;rintro o3 m3 H3 ⟨l,e,r3⟩ F;subst e;have g:=(q.trans g2).trans F;obtain⟨ad,xs,rfl,ha,B⟩:=uH (bb.stay (g2.trans F).st);show#[ad,xs,BB,ha,λp H' J S=>k _ m3 _ H' r3 (zcY (zf5 B) (zy.same S) (Al.noT' (E.stay g.st).al (zy.same S) J) J) (g.trans (Go.same F.pn S)) λz=>by cases z]
def ui{fl J:Ev->Mo AQ}(O:JB X Pn M e f)(q:JO X Pn M lo fl)(U:JO X Pn M hi J):JE X Pn M true (.Subscript e (.Slice lo hi none p2) pos) (zu3 f fl J):=by obtain⟨te,Y,Z⟩:=O.ex;obtain⟨tl,ql,rl⟩:=q.ex;obtain⟨th,qh,rh⟩:=U.ex;show#[_,zb1 zqn Y ql qh,#[λA G H D n Q R E P hf k=>?_]];show Z.run A G H D n _ _ E P hf λw m v H1 r1 bb B=>?_;show rl A G H1 D m _ _ (E.stay B.st) B.pn r1 λo m2 H2 r2 g2=>?_;show rh A G H2 D m2 _ _ ((E.stay B.st).stay g2.st) g2.pn r2  ?_;rintro o3 m3 H3 ⟨l,e,r3⟩ F;subst e;have g:=(B.trans g2).trans F;obtain⟨ad,xs,rfl,ha,q⟩:=y4 (bb.stay (g2.trans F).st);show#[ad,xs,BB,.of ha,λp I=>?_];have S:=yT.upd (o:=.lst (zdk xs o o3)) I;show k _ m3 _ _ r3 (u7 (zf5 q) (zy.same S) ((E.stay g.st).new I) zi) (g.trans (Go.same F.pn S)) λz=>(uK (zf5 q) S I zi).back g.st
theorem zf6:∀ {ds:AS} {xs:AT},IsL BG ds xs->IsL BG ds.reverse xs.reverse
 | [],_,h=>by cases h;rfl
 | d::ds,xs,h=>by obtain⟨x,r,rfl,h1,h2⟩:=h;rw[dH,dH];show (zf6 h2).append (IsL.one h1)
def zo6 (fa:AD):AD:=λD n Q=>fa D n λx m=>∃l,x = .d (.lst l)/\Q (.d (.lst l.reverse)) m
def zgU(I:JB X Pn M e f):JE X Pn M true (.Subscript e (.Slice none none (some (.UnaryOp .USub (.Constant (.int 1) j p4) p3)) p2) pos) (zo6 f):=by obtain⟨te,J,O⟩:=I.ex;show#[_,zpT J,#[λA G H D n Q R E P U k=>?_]];show O.run A G H D n _ _ E P U  ?_;rintro w m v H1 ⟨l,e,r⟩ Y g;subst e;obtain⟨Z,xs,rfl,ha,q⟩:=y4 Y;show#[Z,xs,BB,ha,λp H' B F S=>k _ m _ H' r (u7 (zf6 q) (zy.same S) ((E.stay g.st).new B) F) (g.trans (Go.same g.pn S)) λz=>(uK (zf6 q) S B F).back g.st]
abbrev ztI:W->Option Key
 | .d (.int i)=>some (Sum.inl i)
 | .d (.str x)=>some (Sum.inr x)
 | _=>none
abbrev prD (q:Int×Dt):Dt:=.tup [.int q.1,q.2]
def kvD (q:Int×Dt):Key×Dt:=(Sum.inl q.1,q.2)
def spV (k:Nat)(fr:Bool)(F:PN->AU->Mo W):Sp:=λvs H Q _=>∃Pn A q n R,Al A H/\za9 A H q vs/\q.length=k/\zaj Pn A n H/\F Pn q n R/\∀w m v H',R w m->Val A H' w v->Go Pn A H m H'->(fr=true->FrV A H H' w v)->Q v H'
def mFn (k:Nat)(F:AU->Mo W)(fa:AC):AD:=λD n Q=>fa D n λq m=>q.length=k/\F q m Q
def zsJ(q:RA Pn M ta fs):RE Pn M fr (zdd (spV k fr F) [] E0 ta) (mFn k (F Pn) fs):=#[λA G H D n Q R E P B I=>by show q.run A G H D n _ _ E P B  ?_;rintro J m vs H1 ⟨O,r⟩ b g;rw[cN];show#[Pn,A,J,m,R,(E.stay g.st).al,b,O,g.pn,r,λw U v H' h1 h2 Y Z=>I w U v H' h1 h2 (g.trans Y) λz=>(Z z).back g.st]]
def yB(BH:Dfn X.K X.mg x st ps fA fd)(BG:FnOk X.prog X.w X.K X.mg X.base CX0 j fA fd ps (spV k fr F))(O:Room J X.A)(U:JA X Pn M (e::es) fs)(q:j<=J:=by ext)(Y:Gl X x:=by rfl)(B:Ah x:=by ext)(Z:starEach (e::es) X.env=(false,eval e X.env)::starEach es X.env:=by rfl)(I:(backTo pos (starEach es X.env)).any (·.1)=false:=by rfl) :
  JE X Pn M fr (.Call (.Name x p) (e::es) [] pos) (mFn k (F Pn) fs):=by
 obtain⟨ta,qa,ra⟩:=U.ex;show#[_,zmj BH BG O qa q Y B Z I,zsJ ra]
abbrev W.flat (fr:Bool):W->Bool
 | .d (.lst l)=>fr&&Dt.noLs l
 | .d x=>x.noL
 | .pen _=>true
 | .dk _=>false
 | .dt _=>false
 | .ss _ _ _=>false
 | .df _=>false
 | .kf _=>false
 | .fl _=>false
 | .ad _ _=>false
 | .tz _ _=>false
def zaj.less(h:zaj Pn A n H)(s:∀a,A' a->A a):zaj Pn A' n H:=by
 show#[?_,Pn.J.grow h.2 λa z=>.inl (s a z)];have h:=h.1;split at h;trivial;show#[h.1,λr e z=>h.2.1 r e (s _ z),λz=>h.2.2 (s _ z)]
end
structure JG (X:Cx)(S M:AR)(e:Expr)(mg:W->Ev->(Ev->Prop)->Prop):Prop where
 ex:∃g,QG X e g/\RG S M g mg
structure JGs (X:Cx)(S M:AR)(es:AO)(mg:AS->Ev->(Ev->Prop)->Prop):Prop where
 ex:∃g,QGs X es g/\RGs S M g mg
structure JI (X:Cx)(Pn:PN)(M:AR)(ow:Bool)(tg e:Expr)(f:AC):Prop where
 ex:∃wi,QI X tg e wi/\RI Pn M ow wi f
structure JTs (X:Cx)(Pn:PN)(M:AR)(es:AO)(f:Ev->Mo Bool):Prop where
 ex:∃t,QTs X es t/\RT Pn M t f
section
variable {X:Cx}{Pn:PN}{M S:AR}{fr:Bool}{e a b c:Expr}{es:AO}{f fa fb fc:AD}{pos p:Pos}
def gN (i:Nat):W->Ev->(Ev->Prop)->Prop:=λw D Q=>Q (D.set i (some w))
def gNl:AS->Ev->(Ev->Prop)->Prop:=λds D Q=>ds=[]/\Q D
def gCn (g:W->Ev->(Ev->Prop)->Prop)(u:AS->Ev->(Ev->Prop)->Prop):AS->Ev->(Ev->Prop)->Prop:=λds D Q=>∃d r,ds=d::r/\g (.d d) D λq=>u r q Q
def gTp (n:Nat)(u:AS->Ev->(Ev->Prop)->Prop):W->Ev->(Ev->Prop)->Prop:=λw D Q=>∃ds,w = .d (.tup ds)/\ds.length=n/\u ds D Q
def EnvR.set(E:EnvR A M G H D)(hi:i∉M)(h:Val A H w v):EnvR A M (G.set i (some v)) H (D.set i (some w)) where
 len:=by rw[bI,bI];show E.len
 val:=λj u e=>by
  by_cases q:j=i;subst q
  have J:j<D.length:=by
   have:=(ah.mp e).1;right
  rw[aS J] at e;cases e;show#[v,aS (by rw[E.len];show J),λ_=>h,λz=>absurd z hi];rw[aB (Ne.symm q)] at e ⊢;show E.val j u e
 dis:=λj k u u' ad q O B U Y Z=>by have F:i≠j:=λz=>hi (z ▸ q);have I:i≠k:=λz=>hi (z ▸ O);rw[aB F] at U Z;rw[aB I] at Y ⊢;show E.dis j k u u' ad q O B U Y Z
 al:=E.al
def zgo(hi:i∉M)(hs:i∉S):RG S M (zbM i) (gN i):=#[λA G H D v w Q R E h r k=>k _ _ r (E.set hi h) λj q=>#[aB λ(z:i=j)=>hs (by rw[z];show q),aB λ(z:i=j)=>hs (by rw[z];show q)]]
def zt(q:X.N.Nodup)(B:X.N[i]?=some x:=by rfl)(F:Loc X.env.scope x:=by first | show Or.inl BB | show Or.inr BB)(hi:i∉M:=by ext)(hs:i∉S:=by ext)(I:X.fn x=true\/X.env.scope.names.lookup x=some .local:=by fail"l"):JG X S M (.Name x pos) (gN i):=#[_,zaA q B F I,zgo hi hs]
def zbf:JGs X S M [] gNl:=#[_,zgg,#[by
 rintro A G H D vs ds Q R E h ⟨e,r⟩ k;subst e;show#[h,k G D r E λ_ _=>#[BB,BB]]]]
def yn(h1:JG X S M e g)(h2:JGs X S M es u)(hs:(assignEach (e::es) X.env).map (·.2)=assign e X.env::(assignEach es X.env).map (·.2):=by rfl):JGs X S M (e::es) (gCn g u):=by obtain⟨t1,U,Y⟩:=h1.ex;obtain⟨t2,Z,r2⟩:=h2.ex;show#[_,uq U Z hs,#[ ?_]];rintro A G H D vs ds Q R E h ⟨d,r,e,hg⟩ k;subst e;obtain⟨v,s,rfl,hv,hr⟩:=h;show#[v,s,BB,?_];show Y.run A G H D v _ _ _ E (Val.of hv) hg λq B hu E' J=>?_;show r2.run A q H B s _ _ _ E' hr hu λF I hR E2 O=>k F I hR E2 λi hi=>#[(O i hi).1.trans (J i hi).1,(O i hi).2.trans (J i hi).2]
def zdq {k n:Nat}{u:AS->Ev->(Ev->Prop)->Prop}(K:AH)(I:X.K=K)(J:X.calm=true)(h:JGs X S M es u)(hn:(assignEach es X.env).length=n:=by rfl)(q:(assignEach es X.env).findIdx? (·.1)=none:=by rfl):JG X S M (.Tuple es k pos) (gTp n u):=by obtain⟨t1,O,U⟩:=h.ex;show#[_,zj9 K I J O hn q,#[ ?_]];rintro A G H D v w Q R E h ⟨ds,e,Y,Z⟩ kk;subst e;obtain⟨ad,xs,rfl,B,F⟩:=h;show#[ad,xs,BB,.of (zo _ _ B),by rw[F.length];show Y,U.run A G H D xs ds _ _ E F Z kk]
def ztM (fa:AD):AC:=λD n Q=>fa D n λx m=>∃l,x = .d (.lst l)/\Q (l.map W.d) m
def ztN (fa:AD):AC:=λD n Q=>fa D n λx m=>∃l,x = .d (.tup l)/\Q (l.map W.d) m
def zje {BG G':Hp}{l:AS}{xs:AT}{i:Nat}{w:W}(h:IsL BG l xs)(e:(l.map W.d)[i]?=some w)(s:zy BG G'):∃d x,w = .d d/\xs[i]?=some x/\Is G' d x:=by rw[aC] at e;obtain⟨d,h1,rfl⟩:=aH.mp e;obtain⟨x,h2,q⟩:=h.getD h1;show#[d,x,BB,h2,q.stay s]
def zlA(h:yg A H q=some (.lst xs))(B:IsL (yg A H) l xs):ItV false A H (Itl K q) (l.map W.d) where
 one:=λi w A2 H2 e s _ _=>by obtain⟨d,x,rfl,F,I⟩:=zje B e s;have g:=zo _ _ (s.lst h);show#[#[xs,x,.of g,F],?_];rintro y H3 ⟨J,O⟩;subst J;have:=O xs (.of g);rw[F] at this;cases this;show#[λ_ _ z=>z,Val.of I]
 stop:=λA2 H2 s _=>#[xs,.of (zo _ _ (s.lst h)),by rw[ab,B.length];show ai _]
def zoE(h:yg A H q=some (.tup xs))(B:IsL (yg A H) l xs):ItV false A H (Itt K q) (l.map W.d) where
 one:=λi w A2 H2 e s _ _=>by obtain⟨d,x,rfl,F,I⟩:=zje B e s;have g:=zo _ _ (s.tup h);show#[#[xs,x,.of g,F],?_];rintro y H3 ⟨J,O⟩;subst J;have:=O xs (.of g);rw[F] at this;cases this;show#[λ_ _ z=>z,Val.of I]
 stop:=λA2 H2 s _=>#[xs,.of (zo _ _ (s.tup h)),by rw[ab,B.length];show ai _]
def zav(K:AH)(F:X.K=K)(h:JE X Pn M fr e f):JI X Pn M false tg e (ztM f):=by obtain⟨te,q,r⟩:=h.ex;show#[_,zmm K F q,#[λA G H D n Q R E P I k=>?_]];show r.run A G H D n _ _ E P I  ?_;rintro w m v H1 ⟨l,e,r⟩ J g _;subst e;obtain⟨O,xs,rfl,B,U⟩:=J;show#[O,BB,#[xs,.of (zo _ _ B)],k _ m _ H1 r (zlA B U) g]
def zeY(K:AH)(F:X.K=K)(h:JE X Pn M fr e f):JI X Pn M false tg e (ztN f):=by obtain⟨te,q,r⟩:=h.ex;show#[_,zpX K F q,#[λA G H D n Q R E P I k=>?_]];show r.run A G H D n _ _ E P I  ?_;rintro w m v H1 ⟨l,e,r⟩ J g _;subst e;obtain⟨O,xs,rfl,B,U⟩:=J;show#[O,BB,#[xs,.of (zo _ _ B)],k _ m _ H1 r (zoE B U) g]
def zhS (lo:Int)(n:Nat):AU:=(List.range n).map λi:Nat=>W.d (.int (lo+i))
def zoD{lo:Int}:ItV false A H (Itr lo n) (zhS lo n) where
 one:=λi w A2 H2 e s _ _=>by unfold zhS at e;rw[aC] at e;obtain⟨j,h1,rfl⟩:=aH.mp e;obtain⟨hi,h2⟩:=ah.mp h1;rw[cj] at h2;subst h2;rw[aA] at hi;show#[hi,?_];rintro y H3 ⟨q,B⟩;subst q B;show#[λ_ _ z=>z,Val.of BB]
 stop:=λA2 H2 s _=>by
  change n<=(zhS lo n).length;unfold zhS;right
def zuW (fa:AC):AC:=λD n Q=>fa D n λq m=>∃j:Int,q=[.d (.int j)]/\j<=1000000/\-1000000<=j/\Q (zhS 0 j.toNat) m
def zV(B:Gl X "range")(F:X.mg "range" = none)(I:JAB X Pn M [a] fs)(hs:starEach [a] X.env=[(false,eval a X.env)]:=by rfl):JI X Pn M false tg (.Call (.Name "range" p) [a] [] pos) (zuW fs):=by obtain⟨te,q,r⟩:=I.ex;show#[_,zka B F q hs,#[λA G H D n Q R E P J k=>?_]];show r.run A G H D n _ _ E P J  ?_;rintro Y m vs H1 ⟨j,e,Z,j2,r⟩ O g;subst e;obtain⟨v,rfl,U⟩:=zb6 O;obtain rfl:=yN U;show#[j,BB,by lia,by lia,k _ m _ H1 r zoD g]
def enW:Nat->AS->AU
 | _,[]=>[]
 | k,x::r=>.d (.tup [.int k,x])::enW (k+1) r
theorem zfU:∀ (l:AS) (k i:Nat),(enW k l)[i]?=(l[i]?).map λx=>W.d (.tup [.int ((k+i:Nat):Int),x])
 | [],_,_=>by simp[enW]
 | x::r,k,0=>by simp[enW]
 | x::r,k,i+1=>by have:=zfU r (k+1) i;simp only[enW,bD,this];rw[show k+1+i=k+(i+1) by lia]
theorem ziH:∀ (l:AS) (k:Nat),(enW k l).length=l.length
 | [],_=>rfl
 | x::r,k=>by rw[enW,aJ,aJ,ziH r]
def zuV (fa:AC):AC:=λD n Q=>fa D n λq m=>∃l,q=[.d (.tup l)]/\Q (enW 0 l) m
def zlz(h:yg A H q=some (.tup xs))(B:IsL (yg A H) l xs):ItV false A H (Ite K q) (enW 0 l) where
 one:=λi w A2 H2 e s _ J=>by rw[zfU] at e;obtain⟨d,h1,rfl⟩:=aH.mp e;obtain⟨x,F,O⟩:=B.getD h1;have g:=zo _ _ (s.tup h);show#[#[xs,x,.of g,F],?_];rintro y H3 ⟨T,z,U,I,Y,Z⟩;subst U Y;have:=Z xs (.of g);rw[F] at this;cases this;have S:=yT.upd (o:=.tup [.int i,x]) I;show#[S,Val.of #[T,_,BB,zG (J T I) zi,_,_,BB,?_,_,_,BB,(O.stay s).stay (zy.same (x5 S)),BB]];change V.int (i:Int)=V.int ((0+i:Nat):Int);rw[fU]
 stop:=λA2 H2 s _=>#[xs,.of (zo _ _ (s.tup h)),by rw[ziH,B.length];show ai _]
def zoK{x1}(I:Gl X "enumerate")(J:X.mg "enumerate" = none)(O:JA X Pn M [a] fs)(hs:starEach [a] X.env=[(false,eval a X.env)]:=by rfl):JI X Pn M false (.Tuple B x1 tpos) (.Call (.Name "enumerate" p) [a] [] pos) (zuV fs):=by obtain⟨te,q,r⟩:=O.ex;show#[_,zpV I J q hs,#[λA G H D n Q R E P U k=>?_]];show r.run A G H D n _ _ E P U  ?_;rintro ws m vs H1 ⟨l,e,r⟩ Y g;subst e;obtain⟨v,s,rfl,⟨Z,xs,rfl,F,hl⟩,hs⟩:=Y;cases hs;show#[Z,BB,#[xs,.of (zo _ _ F)],k _ m _ H1 r (zlz F hl) g]
def ziW:AS->AS->AU
 | x::r,y::s=>.d (.tup [x,y])::ziW r s
 | _,_=>[]
theorem zkU:∀ (l k:AS) (i:Nat),l.length=k.length->(ziW l k)[i]?=(l[i]?).bind λx=>(k[i]?).map λy=>W.d (.tup [x,y])
 | [],[],_,_=>by simp[ziW]
 | [],_::_,_,h=>by simp at h
 | _::_,[],_,h=>by simp at h
 | x::r,y::s,0,_=>by simp[ziW]
 | x::r,y::s,i+1,h=>by have:=zkU r s i (by simpa using h);simp only[ziW,bD,this]
theorem zkV:∀ (l k:AS),l.length=k.length->(ziW l k).length=l.length
 | [],[],_=>rfl
 | [],_::_,h=>by simp at h
 | _::_,[],h=>by simp at h
 | x::r,y::s,h=>by rw[ziW,aJ,aJ,zkV r s (by simpa using h)]
def zuY (fa:AC):AC:=λD n Q=>fa D n λq m=>∃l k,q=[.d (.tup l),.d (.tup k)]/\l.length=k.length/\Q (ziW l k) m
def zgT(q:l.length=k.length)(h:∀ {A2:AL} {H2:Hp},zy (yg A H) (yg A2 H2)->SqV kb K H2 J xs)(U:IsL (yg A H) l xs)(h':yg A H O=some (.tup ys))(hk:IsL (yg A H) k ys):ItV false A H (Izg kb K J O) (ziW l k) where
 one:=λi w A2 H2 e s _ hA=>by rw[zkU _ _ _ q] at e;obtain⟨d,h1,e⟩:=eA.mp e;obtain⟨d',B,rfl⟩:=aH.mp e;obtain⟨x,Y,hd⟩:=U.getD h1;obtain⟨y,Z,F⟩:=hk.getD B;have g:=h s;have g':=zo _ _ (s.tup h');show#[#[xs,ys,x,y,g,.of g',Y,Z],?_];rintro v H3 ⟨T,z,z',e1,hT,e3,hz,I⟩;subst e1 e3;have q1:=hz xs g;have q2:=I ys (.of g');rw[Y] at q1;rw[Z] at q2;cases q1;cases q2;have S:=yT.upd (o:=.tup [x,y]) hT;show#[S,Val.of #[T,_,BB,zG (hA T hT) zi,_,_,BB,(hd.stay s).stay (zy.same (x5 S)),_,_,BB,(F.stay s).stay (zy.same (x5 S)),BB]]
 stop:=λA2 H2 s _=>#[xs,h s,by rw[zkV _ _ q,U.length];show ai _]
def zrA {B:AO}{x1}{tpos:Pos}{fs:AC}(U:Gl X "zip")(Y:X.mg "zip" = none)(Z:JA X Pn M [a,b] fs)(hs:starEach [a,b] X.env=[(false,eval a X.env),(false,eval b X.env)]:=by rfl)(O:starEach [b] X.env=[(false,eval b X.env)]:=by rfl):JI X Pn M false (.Tuple B x1 tpos) (.Call (.Name "zip" p) [a,b] [] pos) (zuY fs):=by obtain⟨te,q,r⟩:=Z.ex;show#[_,zkc true U Y q hs O,#[λA G H D n Q R E P hf k=>?_]];show r.run A G H D n _ _ E P hf  ?_;rintro ws m vs H1 ⟨l,kk,e,F,r⟩ hv g;subst e;obtain⟨v,s,rfl,⟨ad,xs,rfl,I,hl⟩,v2,s2,rfl,⟨bd,ys,rfl,J,hk⟩,hs⟩:=hv;cases hs;show#[ad,bd,BB,#[xs,.of (zo _ _ I)],#[ys,.of (zo _ _ J)],k _ m _ H1 r (zgT F (λs=>.of (zo _ _ (s.tup I))) hl J hk) g]
def zh9 (D:Ev)(BE:List (Option Nat)):Ev:=BE.map λo=>match o with
 | none=>none
 | some i=>(D[i]?).join
def zbT (M:AR)(BE:List (Option Nat)):AR:=(List.range BE.length).filter λk=>match BE[k]? with
 | some (some i)=>M.contains i
 | _=>false
def zbX:k∈zbT M BE↔∃i,BE[k]?=some (some i)/\i∈M:=by
 unfold zbT;rw[cB,aK];constructor;rintro⟨h1,h2⟩;rw[ak h1] at h2 ⊢
 cases e:BE[k] with
 | none=>rw[e] at h2;cases h2
 | some i=>rw[e] at h2;show#[i,BB,by simpa using h2]
 rintro⟨i,h1,h2⟩;show#[(ah.mp h1).1,by right]
def zbc {α:Type}{l:List (Option α)}{BE:List (Option Nat)}{k:Nat}{x:α}:(BE.map λo=>match o with | none=>none | some i=>(l[i]?).join)[k]?=some (some x)↔∃i,BE[k]?=some (some i)/\l[i]?=some (some x):=by
 rw[aC]
 cases e:BE[k]? with
 | none=>simp
 | some o=>
  cases o with
  | none=>simp
  | some i=>
   simp only[Option.map_some,Option.some.injEq];constructor;intro h;show#[i,BB,?_]
   cases q:l[i]? with
   | none=>rw[q] at h;cases h
   | some z=>rw[q] at h;cases z with
    | none=>cases h
    | some y=>cases h;rfl
   right
def EnvR.cap(E:EnvR A M G H D)(hn:(BE.filterMap id).Nodup):EnvR A (zbT M BE) (zeO G BE) H (zh9 D BE) where
 len:=by unfold zeO zh9;rw[ab,ab]
 val:=λk w e=>by
  obtain⟨i,h1,h2⟩:=zbc.mp e;obtain⟨v,Y,Z,s3⟩:=E.val i w h2;show#[v,zbc.mpr #[i,h1,Y],λz=>Z λy=>z (zbX.mpr #[i,h1,y]),λz=>?_];obtain⟨j,h3,h4⟩:=zbX.mp z;right
 dis:=λk k' w u ad hk ac ag e1 e2 Y Z=>by
  obtain⟨i,h1,h2⟩:=zbc.mp e1;obtain⟨i',q,an⟩:=zbc.mp e2;obtain⟨j,h3,h4⟩:=zbc.mp Y;obtain⟨j',F,ap⟩:=zbc.mp Z;rw[h1] at h3;cases h3;rw[q] at F;cases F;obtain⟨m,m1,m2⟩:=zbX.mp hk;rw[h1] at m1;cases m1;obtain⟨m',I,as⟩:=zbX.mp ac;rw[q] at I;cases I;show E.dis _ _ w u ad m2 as (λz=>?_) h2 an h4 ap;subst z
  have key:∀ (l:List (Option Nat)) (a b:Nat) (x:Nat),(l.filterMap id).Nodup->l[a]?=some (some x)->l[b]?=some (some x)->a=b:=by
   intro l
   induction l with
   | nil=>intro a b x _ h;simp at h
   | cons o l ih=>
    intro a b x hn J O;have U:∀ (l:List (Option Nat)) (a:Nat),l[a]?=some (some x)->x∈l.filterMap id:=λl a h=>dw.mpr #[some x,aM h,BB]
    cases o with
    | none=>
     have a0:(l.filterMap id).Nodup:=by simpa using hn
     cases a with
     | zero=>simp at J
     | succ a=>
      cases b with
      | zero=>simp at O
      | succ b=>rw[ih a b x a0 (by simpa using J) (by simpa using O)]
    | some y=>
     have B:y∉l.filterMap id/\(l.filterMap id).Nodup:=by right
     cases a with
     | zero=>
      have a1:y=x:=by simpa using J
      subst a1
      cases b with
      | zero=>rfl
      | succ b=>show absurd (U l b (by simpa using O)) B.1
     | succ a=>
      cases b with
      | zero=>
       have a2:y=x:=by simpa using O
       subst a2;show absurd (U l a (by simpa using J)) B.1
      | succ b=>rw[ih a b x B.2 (by simpa using J) (by simpa using O)]
  show ag (key BE k k' _ hn h1 q)
 al:=E.al
def EnvR.more {A:AL}{G:St}{H H':Hp}{D:Ev}(E:EnvR A M G H D){p:Addr}{o:HO}(s:zy H H')(n:Fr H p)(g:H' p=some o)(B:NP o)(F:Mt o):EnvR (λb=>A b\/b=p) M G H' D where
 len:=E.len
 val:=λi w e=>by obtain⟨v,h1,h2,q⟩:=E.val i w e;show#[v,h1,λz=>WAt.up (x4 s n) (x4 s n) (h2 z),λz=>?_];obtain⟨a,e,I,J,O⟩:=q z;show#[a,e,.inl I,WAt.up s (x4 s n) J,O]
 dis:=E.dis
 al:=λa h=>by
  rcases h with h | h;obtain⟨o,h1,h2,q⟩:=E.al a h;show#[o,s _ _ h1 h2,h2,q];subst h;show#[o,g,B,F]
def EnvR.upd{A:AL}{G:St}{H:Hp}{D:Ev}(E:EnvR A M G H D){p:Addr}(Z:A p)(hn:∀i w,i∈M->D[i]?=some (some w)->G[i]?≠some (some (.ref p)))(np:NP o)(nt:Mt o):EnvR A M G (L2.upd H p o) D where
 len:=E.len
 val:=λi w e=>by
  obtain⟨v,h1,h2,h3⟩:=E.val i w e;show#[v,h1,λz=>?_,λz=>?_];change WAt _ _ _ _;rw[yx Z];show h2 z;obtain⟨a,F,h4,O,Y⟩:=h3 z;have J:a≠p:=λq=>hn i w z e (by rw[h1,F,q]);show#[a,F,h4,?_,Y];change WAt _ _ _ _;rw[yx Z]
  cases w with
  | d x=>
   cases x with
   | lst l=>obtain⟨U,xs,B,I,g2⟩:=O;rw[F] at B;cases B;show#[a,xs,F,by rw[zf J];show I,g2]
   | dct=>obtain⟨U,xs,B,I,g2⟩:=O;rw[F] at B;cases B;show#[a,xs,F,by rw[zf J];show I,g2]
   | _=>cases Y
  | pen p=>cases Y
  | dk k=>obtain⟨U,xs,B,I,g2⟩:=O;rw[F] at B;cases B;show#[a,xs,F,by rw[zf J];show I,g2]
  | dt k=>obtain⟨U,xs,B,I,g2⟩:=O;rw[F] at B;cases B;show#[a,xs,F,by rw[zf J];show I,g2]
  | ss P w k=>obtain⟨U,xs,B,I,g2⟩:=O;rw[F] at B;cases B;show#[a,xs,F,by rw[zf J];show I,g2]
  | df k=>obtain⟨U,ob,xs,B,I,g2⟩:=O;rw[F] at B;cases B;show#[a,ob,xs,F,by right,g2]
  | kf k=>obtain⟨U,ob,xs,B,I,g2⟩:=O;rw[F] at B;cases B;show#[a,ob,xs,F,by right,g2]
  | ad a x=>cases Y
  | tz BD x=>cases Y
  | fl k=>obtain⟨U,ob,xs,B,I,g2⟩:=O;rw[F] at B;cases B;show#[a,ob,xs,F,by right,g2]
 dis:=E.dis
 al:=λa h=>by
  by_cases ha:a=p;subst ha;show#[o,zi,np,nt];rw[zf ha];show E.al a h
def zaj.upd{A:AL}{H:Hp}{p:Addr}(h:zaj Pn A n H)(B:A p):zaj Pn A n (L2.upd H p o):=by
 show#[?_,Pn.J.upd h.2 B];have h:=h.1;split at h;trivial
 ·show#[?_,h.2];rename_i q c ns _;obtain⟨h1,h2,F⟩:=h;have I:∀r,ns=0::r->c≠p:=λr e z=>h2 r e (z ▸ B);have O:q≠p:=λz=>F (z ▸ B);obtain⟨a,l,U,g2,Y,Z⟩:=h1.ob;show#[#[a,l,by rw[zf O];show U,g2,Y,Z],h1.ls.upd I,h1.len]
end
structure JS (X:Cx)(Pn:PN)(S M:AR)(fr:Bool)(st:Stmt)(fs:Ms):Prop where
 ex:∃ts,QS X st ts/\RS Pn S M fr ts fs
structure JSs (X:Cx)(Pn:PN)(S M:AR)(fr:Bool)(st:List Stmt)(fs:Ms):Prop where
 ex:∃ts,QSs X st ts/\RS Pn S M fr ts fs
section
variable {X:Cx}{Pn:PN}{M S:AR}{fr fr':Bool}{e a b c:Expr}{es:AO}{f fa fb fc:AD}{pos p:Pos}
def zaj.grow'(h:zaj Pn A n H)(h':zaj Pn A m H')(I:Fr H q)(g:H' q=some o)(B:NP o)(O:Mt o):zaj Pn (λb=>A b\/b=q) m H':=by
 show#[?_,Pn.J.grow h'.2 λa z=>z.imp_right λe=>#[o,by rw[e];show g,B,O]];have h:=h.1;have h':=h'.1;revert h h'
 cases Pn.pn with
 | none=>show λ_ _=>trivial
 | some x=>
  obtain⟨p,c,ns⟩:=x;intro h h';show#[h'.1,λr F z=>z.elim (h'.2.1 r F) λz=>?_,λz=>z.elim h'.2.2 λz=>?_];subst z;rcases h.1.ls with ⟨r',e',o,z⟩ | ⟨r',e'⟩;show I _ z (λ_ e=>by cases e);rw[F] at e';cases e';subst z;obtain⟨a,l,e,_⟩:=h'.1.ob;rw[e] at g;cases g;have:=B _ BB;rw[zpw] at this;cases this
def ztk(h:∀C s H ex,JE (z5 X scope N C s H ex) Pn M fr e f):∃te,(∀C s H ex,QE (z5 X scope N C s H ex) e te)/\RE Pn M fr te f:=
 #[λG H Q=>∀C s H0 ex,(h C s H0 ex).ex.choose G H Q,λC s H0 ex=>#[λBC s' G H Q I z=>(h C s H0 ex).ex.choose_spec.1.run BC s' G H Q I (z C s H0 ex)],
  #[λA G H D n Q R E P q k C s H0 ex=>(h C s H0 ex).ex.choose_spec.2.run A G H D n Q R E P q k]]
def ztm(h:∀C s H ex,JTs (z5 X scope N C s H ex) Pn M es q):∃te,(∀C s H ex,QTs (z5 X scope N C s H ex) es te)/\RT Pn M te q:=
 #[λG H Q=>∀C s H0 ex,(h C s H0 ex).ex.choose G H Q,λC s H0 ex=>#[λBC s' G H Q I z=>(h C s H0 ex).ex.choose_spec.1.run BC s' G H Q I (z C s H0 ex)],
  #[λA G H D n Q R E P B k C s H0 ex=>(h C s H0 ex).ex.choose_spec.2.run A G H D n Q R E P B k]]
def ztl(h:∀C s H ex,JG (z5 X scope N C s H ex) S M e mg):∃g,(∀C s H ex,QG (z5 X scope N C s H ex) e g)/\RG S M g mg:=
 #[λv G H Q=>∀C s H0 ex,(h C s H0 ex).ex.choose v G H Q,λC s H0 ex=>#[λBC s' G H v u Q I q z=>(h C s H0 ex).ex.choose_spec.1.run BC s' G H v u Q I q (z C s H0 ex)],
  #[λA G H D v w Q R E B F k C s H0 ex=>(h C s H0 ex).ex.choose_spec.2.run A G H D v w Q R E B F k]]
def zdO (mg:W->Ev->(Ev->Prop)->Prop)(U:Ev->Mo Bool)(Y:AD)(J:Ev)(Q:AV):AU->Nat->Prop:=λl Z=>l.length<=lim/\∃I:Nat->Ev->Nat->AS->Prop,I 0 J Z []/\
 (∀i w q F acc,l[i]?=some w->I i q F acc->mg w q λB=>U B F λb O=>if b=true then Y B O λx n3=>∃d,x = .d d/\I (i+1) B n3 (acc++[d]) else I (i+1) B O acc)/\
 ∀ q F acc,I l.length q F acc->Q (.d (.lst acc)) F
abbrev zoV (q:AC) (mg:W->Ev->(Ev->Prop)->Prop) (B:Ev->Mo Bool) (F:AD) (BE:List (Option Nat)):AD:=λD n Q=>q D n (zdO mg B F (zh9 D BE) Q)
def zkj(hn:(BE.filterMap id).Nodup)(hi:RI Pn M ow wi fi)(hg:RG (zbT M BE) (zbT M BE) g mg)(ht:RT Pn (zbT M BE) ti ft)(he:RE Pn (zbT M BE) fr' te fe):RE Pn M true (zky wi g ti te BE) (zoV fi mg ft fe BE):=#[λA G H D n Q R E P hf k=>by
 show hi.run A G H D n _ _ E P hf λl m J H1 ⟨hz,I,i0,it,ie⟩ iv g1=>λacc B=>?_;have E1:=E.stay g1.st;have E2:=(E1.cap hn).more (zy.upd (o:=.lst []) B) (Fr.of B) zi NP.lst BB;have P2:zaj Pn (λb=>A b\/b=acc) m (L2.upd H1 acc (.lst [])):=g1.pn.grow' (g1.pn.same (yT.upd B)) (Fr.of B) zi NP.lst BB;have a3:∀k w,k∈zbT M BE->(zh9 D BE)[k]?=some (some w)->(zeO G BE)[k]?≠some (some (.ref acc)):=λk w hk hw z=>by obtain⟨v,s1,_,s3⟩:=(E1.cap hn).val k w hw;obtain⟨a,e,hA,_⟩:=s3 hk;rw[z] at s1;cases s1;cases e;show E1.new B hA
 have key:∀ O F H',EnvR (λb=>A b\/b=acc) (zbT M BE) O H' F->(∀k∈zbT M BE,O[k]?=(zeO G BE)[k]?/\F[k]?=(zh9 D BE)[k]?)->∀k w,k∈zbT M BE->F[k]?=some (some w)->O[k]?≠some (some (.ref acc)):=λO F H' E' ap k w hk hw z=>by right
 show#[λi mm O H'=>mm=l.length - i/\i<=l.length/\∃ F n' q xs,EnvR (λb=>A b\/b=acc) (zbT M BE) O H' F/\zaj Pn (λb=>A b\/b=acc) n' H'/\I i F n' q/\H' acc=some (.lst xs)/\IsL (yg (λb=>A b\/b=acc) H') q xs/\q.length<=i/\zy (yg A H1) (yg (λb=>A b\/b=acc) H')/\zy H1 H'/\(∀k∈zbT M BE,O[k]?=(zeO G BE)[k]?/\F[k]?=(zh9 D BE)[k]?),
  #[l.length,by simp,aI _,_,m,[],[],E2,P2,i0,zi,BB,ai _,x4 (zy.upd B) (Fr.of B),zy.upd B,λk hk=>#[BB,BB]],?_]
 rintro i mm O H' ⟨rfl,a4,F,n',q,xs,E',P',hI,ad,Y,a5,st,s1,ap⟩;by_cases a0:i<l.length
 show Or.inr ?_;have an:l[i]?=some l[i]:=ak a0;obtain⟨go,yl⟩:=iv.one i l[i] _ H' an st (λ_=>s1) λp hp=>E'.new hp
 show#[go,λas H2=>∃ F n' q xs,EnvR (λb=>A b\/b=acc) (zbT M BE) as H2 F/\zaj Pn (λb=>A b\/b=acc) n' H2/\I (i+1) F n' q/\H2 acc=some (.lst xs)/\IsL (yg (λb=>A b\/b=acc) H2) q xs/\q.length<=i+1/\zy (yg A H1) (yg (λb=>A b\/b=acc) H2)/\zy H1 H2/\(∀k∈zbT M BE,as[k]?=(zeO G BE)[k]?/\F[k]?=(zh9 D BE)[k]?),
  λas H2 h=>#[l.length - (i+1),by lia,BB,a0,h],λx H2 hy=>?_]
 obtain⟨S2,V2⟩:=yl x H2 hy;show hg.run _ O H2 F x l[i] _ _ (E'.stay (zy.same S2)) V2 (it i l[i] F n' q an hI) λag U r3 E3 f3=>?_;have Z:∀k∈zbT M BE,ag[k]?=(zeO G BE)[k]?/\U[k]?=(zh9 D BE)[k]?:=λk hk=>#[(f3 k hk).1.trans (ap k hk).1,(f3 k hk).2.trans (ap k hk).2];show ht.run _ ag H2 U n' _ _ E3 (P'.same S2) r3 λb m3 H4 r4 g4=>?_;have ac:=(zy.same S2).trans g4.st
 cases b with
 | false=>
  rw[if_neg (by ext)] at r4 ⊢;show#[U,m3,q,xs,E3.stay g4.st,g4.pn,r4,ac.lst ad,Y.stay (yF ac),by lia,st.trans (yF ac),s1.trans ac,Z]
 | true=>
  rw[if_pos rfl] at r4 ⊢;show he.run _ ag H4 U m3 _ _ (E3.stay g4.st) g4.pn r4  ?_;rintro w5 m5 v5 H5 ⟨d,e5,r5⟩ V5 g5 _;subst e5;have al:=ac.trans g5.st;have E5:=(E3.stay g4.st).stay g5.st;have a1:=al.lst ad;show#[xs,a1,zgZ (by rw[Y.length];lia),U,m5,q++[d],xs++[v5],E5.upd (.inr BB) (key ag U H5 E5 Z) NP.lst BB,g5.pn.upd (.inr BB),r5,zi,?_,by right,?_,?_,Z];rw[yx (.inr BB)];show (Y.stay (yF al)).append (IsL.one V5.is);rw[yx (.inr BB)];show st.trans (yF al);show λb o e nn=>by rw[zf (zc e B)];show s1.trans al b o e nn
 show Or.inl ?_;have a2:i=l.length:=by lia
 subst a2;show#[iv.stop _ H' st (λ_=>s1),k _ n' _ H' (ie F n' q hI) (Val.of #[acc,xs,BB,zG (E1.new B) ad,Y.stay (zy.same (xZ λb z=>.inl z))]) (g1.trans #[s1,P'.less λa z=>.inl z]) λ_=>#[acc,BB,(Fr.of B).back g1.st,acc,xs,BB,ad,Y]]]
abbrev ztP:Ev->Mo Bool:=λ_ n Q=>Q true n
def xm:JTs X Pn M [] ztP:=#[_,zp1,#[λA G H D n Q R E P q k=>k true n H q (Go.refl P)]]
def zd1(h:JT X Pn M c q):JTs X Pn M [c] q:=let ⟨t,h1,h2⟩:=h.ex;#[t,zke h1,h2]
def ux(J:X.calm=true)(O:CompOk X scope N BE)(hi:JI X Pn M I tg iter q)(U:∀C s H ex,JG (z5 X scope N C s H ex) (zbT M BE) (zbT M BE) tg mg)(Y:∀C s H ex,JTs (z5 X scope N C s H ex) Pn (zbT M BE) ifs B)(Z:∀C s H ex,JE (z5 X scope N C s H ex) Pn (zbT M BE) fr' elt F)(hn:(BE.filterMap id).Nodup:=by ext)(hs:∀x,foldedSetIterable iter X.env x=pure x:=by intro _;rfl):JE X Pn M true (.ListComp elt [#[tg,iter,ifs,0]] scope pos) (zoV q mg B F BE):=by
 obtain⟨ti,qi,ri⟩:=hi.ex;obtain⟨g,qg,rg⟩:=ztl U;obtain⟨tt,qt,rt⟩:=ztm Y;obtain⟨te,qe,re⟩:=ztk Z;show#[_,zmg J O qi qg qt qe hs,zkj hn ri rg rt re]
def zd0{ifs:AO}{scope:Scope}{N:AM}{BE:List (Option Nat)}{O:AC}{mg:W->Ev->(Ev->Prop)->Prop}{U:Ev->Mo Bool}{Y:AD}{nx:Str}{px spos:Pos}(q:X.N.Nodup)(B:X.N[ix]?=some nx)(F:X.env.scope.names.lookup nx=some .local)(hc:X.calm=true)(cc:CompOk X scope N BE)(hi:JI X Pn M Z tg iter O)(hg:∀C s H ex,JG (z5 X scope N C s H ex) (zbT M BE) (zbT M BE) tg mg)(ht:∀C s H ex,JTs (z5 X scope N C s H ex) Pn (zbT M BE) ifs U)(he:∀C s H ex,JE (z5 X scope N C s H ex) Pn (zbT M BE) fr' elt Y)(hn:(BE.filterMap id).Nodup:=by ext)(I:swapsWithSole [.Name nx px] (.ListComp elt [#[tg,iter,ifs,0]] scope pos) spos.line X.env=pure true:=by rfl)(hs:∀x,foldedSetIterable iter X.env x=pure x:=by intro _;rfl)(J:(assignEach [.Name nx px] X.env).map (·.2)=[assign (.Name nx px) X.env]:=by rfl):∃te,QS X (.Assign [.Name nx px] (.ListComp elt [#[tg,iter,ifs,0]] scope pos) spos) (zic te (zbM ix))/\RE Pn M true te (zoV O mg U Y BE):=by
 obtain⟨ti,qi,ri⟩:=hi.ex;obtain⟨g,qg,rg⟩:=ztl hg;obtain⟨tt,qt,rt⟩:=ztm ht;obtain⟨te,qe,re⟩:=ztk he;show#[_,zp0 q B F hc cc qi qg qt qe I hs J,zkj hn ri rg rt re]
def At3.step(h:At3 Pn B S M A G H D n)(g:Go Pn A H m H'):At3 Pn B S M A G H' D m where
 env:=h.env.stay g.st
 frm:=#[h.frm.sub,h.frm.new,λb o e n c=>g.st b o (h.frm.st b o e n c) n,h.frm.al,h.frm.cn,λa z=>let ⟨o,e,n⟩:=h.frm.cs a z;#[o,g.st a o e n,n]]
 pn:=g.pn
 prot:=h.prot.trans (yF g.st)
 fix:=h.fix
 mine:=h.mine
abbrev mRet (f:AD):Ms:=λD n k=>f D n k.rt
def zsT(h:RE Pn M fr te f):RS Pn S M fr (ztb te) (mRet f):=#[λB A G H D n k BH a F I=>by
 show h.run A G H D n _ _ a.env a.pn I λw m v H' r J g O=>?_;have U:=a.step g;show F.rt w m v H' (WAt.up (zy.same (xZ a.frm.sub)) (zy.same (xZ a.frm.sub)) J) U.frm.st (g.pn.less a.frm.sub) (λz=>by obtain⟨b,e,q,Y⟩:=O z;show FrV.less #[b,e,a.frm.back q (a.env.newF q),Y] a.frm.sub) r]
def zu (h:JE X Pn M fr e f):JS X Pn S M fr (.Return (some e) pos) (mRet f):=let ⟨te,q,r⟩:=h.ex;#[_,zar q,zsT r]
def zo5 (i:Nat):Ms:=λD n k=>∃w,D[i]?=some (some w)/\k.rt w n
def zqe(hi:i∈M):RS Pn S M fr (ztb (za4 i)) (zo5 i):=#[by
 rintro B A G H D n k BH a kk ⟨w,e,r⟩;obtain⟨v,s1,_,s3⟩:=a.env.val i w e;obtain⟨ad,rfl,hA,J,Z⟩:=s3 hi;have Y:=a.mine i w ad hi e s1
 have hn:¬ B.A0 ad:=λz=>by
  rcases Y with Y | Y;obtain⟨o,o1,o2,_⟩:=a.frm.al ad z;show Y o o1 o2;show a.frm.cn ad Y z
 have q:yT (yg A H) (yg B.A0 H):=xZ a.frm.sub;have O:yT (yg A H) (yg (λb=>B.A0 b\/b=ad) H):=xZ λb z=>z.elim (a.frm.sub b) λz=>z ▸ hA;show#[.ref ad,s1,kk.rt w n (.ref ad) H ?_ a.frm.st (a.pn.less a.frm.sub) (λz=>#[ad,BB,Y.resolve_right (kk.fc ad),WAt.up (zy.refl _) (zy.same O) J]) r]
 cases w with
 | d x=>
  cases x with
  | lst l=>obtain⟨U,xs,F,I,g2⟩:=J;cases F;show#[ad,xs,BB,zG hn I,g2.stay (zy.same q)]
  | dct=>obtain⟨U,xs,F,I,g2⟩:=J;cases F;show#[ad,xs,BB,zG hn I,g2]
  | _=>cases Z
 | pen p=>cases Z
 | dk BD=>obtain⟨U,xs,F,I,g2,g3⟩:=J;cases F;show#[ad,xs,BB,zG hn I,g2.stay (zy.same q),g3]
 | dt BD=>obtain⟨U,xs,F,I,g2⟩:=J;cases F;show#[ad,xs,BB,zG hn I,g2.stay (zy.same q)]
 | ss P w BD=>obtain⟨U,xs,F,I,g2⟩:=J;cases F;show#[ad,xs,BB,zG hn I,g2.stay (zy.same q)]
 | kf BD=>obtain⟨U,ob,xs,F,I,g2⟩:=J;cases F;show#[ad,ob,xs,BB,zG hn I,g2.stay (zy.same q)]
 | ad a x=>cases Z
 | tz BD x=>cases Z
 | fl BD=>obtain⟨U,ob,xs,F,I,g2⟩:=J;cases F;show#[ad,ob,xs,BB,zG hn I,g2.stay (zy.same q)]
 | df BD=>obtain⟨U,ob,xs,F,I,g2⟩:=J;cases F;show#[ad,ob,xs,BB,zG hn I,g2.stay (zy.same q)]]
def zf7 (i:Nat){x:Str}(hi:i∈M:=by ext)(B:X.N[i]?=some x:=by rfl)(F:Vis X.env.scope x:=by fail"v")(I:Ah x:=by ext)
  (q:(x==("__classdict__" : Str))=false:=by ext) {pos':Pos}:JS X Pn S M fr (.Return (some (.Name x pos)) pos') (zo5 i):=#[_,zar (qv i B F I q),zqe hi]
abbrev zqS (f:AD) (mg:W->Ev->(Ev->Prop)->Prop):Ms:=λD n k=>f D n λw m=>mg w D λq=>k.nx q m
def EnvR.mineG(a:At3 Pn B S M A G H D n)(E:EnvR A M q H F)(f:∀i∈S++M,q[i]?=G[i]?/\F[i]?=D[i]?):At3 Pn B S M A q H F n where
 env:=E
 frm:=a.frm
 pn:=a.pn
 prot:=a.prot
 fix:=#[λi hi=>(f i (ax.mpr (.inl hi))).1.trans (a.fix.1 i hi),a.fix.2]
 mine:=λi w I hi e s=>by obtain⟨J,O⟩:=f i (ax.mpr (.inr hi));rw[J] at s;rw[O] at e;show a.mine i w I hi e s
def znD(h:RE Pn M fr' te f)(J:RG (S++M) M g mg):RS Pn S M fr (zic te g) (zqS f mg):=#[λB A G H D n k BH a O U=>by show h.run A G H D n _ _ a.env a.pn U λw m v H' r Y g' _=>?_;have I:=a.step g';show J.run A G H' D v w _ _ I.env Y r λq F Z E2 f2=>O.nx A q H' F m (EnvR.mineG I E2 f2) Z]
def zB {i:Nat}{x:Str}{pos':Pos}(I:X.N.Nodup)(J:JE X Pn M fr' e f)(hi:X.N[i]?=some x:=by rfl)(O:Loc X.env.scope x:=by first | show Or.inl BB | show Or.inr BB)(B:i∉M:=by ext)(F:i∉S++M:=by ext)(hs:swapsWith e (some (.Name x pos')) pos.line X.env=pure false:=by rfl)(U:X.fn x=true\/X.env.scope.names.lookup x=some .local:=by fail"l") :
  JS X Pn S M fr (.Assign [.Name x pos'] e pos) (zqS f (gN i)):=let ⟨te,q,r⟩:=J.ex;#[_,uU I hi O q hs U,znD r (zgo B F)]
def zoO{st:Stmt}(h:∃te,QS X st (zic te (zbM i))/\RE Pn M true te f)(B:i∉M:=by ext)(F:i∉S++M:=by ext):JS X Pn S M fr st (zqS f (gN i)):=let ⟨te,q,r⟩:=h;#[_,q,znD r (zgo B F)]
def zrI (i:Nat)(f:AD):Ms:=λD n k=>f D n λw m=>w.mut=true/\k.nx (D.set i (some w)) m
def zo9(h:WAt T BG w v)(hm:w.mut=true):∃a o,v = .ref a/\T a=some o/\NP o/\Mt o:=by
 cases w with
 | d x=>
  cases x with
  | lst l=>obtain⟨a,xs,e,g1,_⟩:=h;show#[a,_,e,g1,NP.lst,BB]
  | dct=>obtain⟨a,xs,e,g1,g2⟩:=h;show#[a,_,e,g1,λk z=>by cases z;subst g2;rfl,BB]
  | _=>cases hm
 | pen p=>cases hm
 | dk BD=>obtain⟨a,xs,e,g1,_,g3⟩:=h;show#[a,_,e,g1,λk z=>by cases z;show g3,BB]
 | dt BD=>obtain⟨a,xs,e,g1,_⟩:=h;show#[a,_,e,g1,(λk z=>by cases z),BB]
 | ss P w BD=>obtain⟨a,xs,e,g1,_⟩:=h;show#[a,_,e,g1,zg3,BB]
 | df BD=>cases hm
 | kf BD=>cases hm
 | ad a x=>cases hm
 | tz BD x=>cases hm
 | fl BD=>cases hm
def znE(h:RE Pn M true te f)(hi:i∈M)(hs:i∉S):RS Pn S M fr (zic te (zbM i)) (zrI i f):=#[λB A G H D n k BH a kk hf=>by
 show h.run A G H D n _ _ a.env a.pn hf  ?_;rintro w m v H' ⟨hm,r⟩ hv g' ag;obtain⟨Z,rfl,U,hb⟩:=ag BB;obtain⟨a2,o,Y,ho,np,nt⟩:=zo9 hb hm;cases Y;have E1:=a.env.more g'.st U ho np nt;have ac:¬ A Z:=a.env.newF U;show kk.nx (λb=>A b\/b=Z) _ H' _ m #[#[?_,?_,?_,E1.al],#[λb z=>.inl (a.frm.sub b z),λb z=>?_,λb o e n c=>g'.st b o (a.frm.st b o e n c) n,a.frm.al,a.frm.cn,λb z=>let ⟨o,e,n⟩:=a.frm.cs b z;#[o,g'.st b o e n,n]],a.pn.grow' g'.pn U ho np nt,a.prot.trans (x4 g'.st U),#[λj I=>?_,a.fix.2],λj u b I e s=>?_] r;rw[bI,bI];show a.env.len;intro j u e;by_cases I:j=i;subst I
 have J:j<D.length:=by
  have:=(ah.mp e).1;right
 rw[aS J] at e;cases e;show#[.ref Z,aS (by rw[a.env.len];show J),λz=>absurd hi z,λ_=>#[Z,BB,.inr BB,hb,hm]];rw[aB (Ne.symm I)] at e ⊢;show E1.val j u e;intro j l u u' b I J O e1 Y s1 s2
 have an:∀q u,q∈M->q≠i->D[q]?=some (some u)->G[q]?≠some (some (.ref Z)):=λq u hq a0 eq sq=>by
  obtain⟨v,s,_,s3⟩:=a.env.val q u eq;obtain⟨c,ec,hc,_⟩:=s3 hq;right
 have ap:∀q (u:W),(D.set i (some w))[q]?=some (some u)->q<G.length:=λq u e=>by have:=(ah.mp e).1;rw[bI] at this;rw[a.env.len];show this
 by_cases F:j=i;subst F;rw[aS (ap _ _ e1)] at s1;cases s1;rw[aB O] at Y s2;show an l u' J (Ne.symm O) Y s2;rw[aB (Ne.symm F)] at e1 s1;by_cases as:l=i;right;rw[aB (Ne.symm as)] at Y s2;show a.env.dis j l u u' b I J O e1 Y s1 s2;rcases z with z | z;show a.frm.new b z;subst z;show .inr (.inl (a.frm.back U ac));rw[aB λ(z:i=j)=>hs (by rw[z];show I)];show a.fix.1 j I;by_cases F:j=i;subst F
 have J:j<G.length:=by
  have:=(ah.mp s).1;right
 rw[aS J] at s;cases s;show .inl (a.frm.back U ac);rw[aB (Ne.symm F)] at e s;show a.mine j u b I e s]
def zaI {i:Nat}{x:Str}{pos':Pos}(I:X.N.Nodup)(J:JE X Pn M true e f)(hi:X.N[i]?=some x:=by rfl)(O:Loc X.env.scope x:=by first | show Or.inl BB | show Or.inr BB)(B:i∈M:=by ext)(F:i∉S:=by ext)(hs:swapsWith e (some (.Name x pos')) pos.line X.env=pure false:=by rfl)(U:X.fn x=true\/X.env.scope.names.lookup x=some .local:=by fail"l") :
  JS X Pn S M fr (.Assign [.Name x pos'] e pos) (zrI i f):=let ⟨te,q,r⟩:=J.ex;#[_,uU I hi O q hs U,znE r B F]
def zjh{st:Stmt}(h:∃te,QS X st (zic te (zbM i))/\RE Pn M true te f)(B:i∈M:=by ext)(F:i∉S:=by ext):JS X Pn S M fr st (zrI i f):=let ⟨te,q,r⟩:=h;#[_,q,znE r B F]
variable {st:Stmt}{BF:List Stmt}{fs gs:Ms}
abbrev mNx:Ms:=λD n k=>k.nx D n
structure blk (g:Ms)(D:Ev)(n:Nat)(k:Kt):Prop where
 go:g D n k
def zq0(h:g D n k):blk g D n k:=#[h]
abbrev mSeq (f g:Ms):Ms:=λD n k=>f D n { k with nx:=λq B=>blk g q B k }
def zuT (t:Ev->Mo Bool)(f g:Ms):Ms:=λD n k=>t D n λc m=>if c=true then blk f D m k else blk g D m k
def zq:JSs X Pn S M fr [] mNx:=#[_,zcH,#[λB A G H D n k BH a q F=>q.nx A G H D n a F]]
def zsU(h1:RS Pn S M fr t fs)(h2:RS Pn S M fr u gs):RS Pn S M fr (zqw t u) (mSeq fs gs):=#[λB A G H D n k BH a F O=>
 h1.run B A G H D n { k with nx:=λq I=>blk gs q I k } _ a #[λA' J H' q I U r=>h2.run B A' J H' q I k BH U F r.go,F.bk,F.ct,F.fc,F.rt] O]
def zb (h1:JS X Pn S M fr st fs)(h2:JSs X Pn S M fr BF gs):JSs X Pn S M fr (st::BF) (mSeq fs gs):=let ⟨t,q,r⟩:=h1.ex;let ⟨u,q2,r2⟩:=h2.ex;#[_,yi q q2,zsU r r2]
def zg (h1:JS X Pn S M fr st fs):JSs X Pn S M fr [st] fs:=let ⟨t,q,r⟩:=h1.ex;#[_,xq q,r]
def ye(F:JT X Pn M c t)(I:JSs X Pn S M fr body fs)(J:JSs X Pn S M fr other gs):JS X Pn S M fr (.If c body other pos) (zuT t fs gs):=by
 obtain⟨tc,O,U⟩:=F.ex;obtain⟨ta,Y,ra⟩:=I.ex;obtain⟨tb,Z,rb⟩:=J.ex;show#[_,zkd O Y Z,#[λB A G H D n k BH a q hf=>?_]];show U.run A G H D n _ _ a.env a.pn hf λc m H1 r g=>?_
 cases c with
 | true=>rw[if_pos rfl] at r ⊢;show ra.run B A G H1 D m k BH (a.step g) q r.go
 | false=>rw[if_neg (by ext)] at r ⊢;show rb.run B A G H1 D m k BH (a.step g) q r.go
abbrev mDrop (f:AD):Ms:=λD n k=>f D n λ_ m=>k.nx D m
def At3.wr(h:At3 Pn B S M A G H D n)(hi:i∈M)(e:D[i]?=some (some w))(s:G[i]?=some (some (.ref ad)))(hl:IsL (yg A H) l xs):At3 Pn B S M A G (L2.upd H ad (.lst xs)) (D.set i (some (.d (.lst l)))) n:=by
 obtain⟨v,s1,_,s3⟩:=h.env.val i w e;rw[s] at s1;cases s1;obtain⟨Y,F,hA,_,_⟩:=s3 hi;cases F;have ac:i<D.length:=(ah.mp e).1
 have hE:EnvR A M G (L2.upd H ad (.lst xs)) (D.set i (some (.d (.lst l)))):=by
  show#[by rw[bI];show h.env.len,λj u Z=>?_,λj q u u' b hj hq I e1 F=>?_,λb hb=>?_];by_cases hj:j=i;subst hj;rw[aS ac] at Z;cases Z;show#[.ref ad,s,λz=>absurd hi z,λ_=>#[ad,BB,hA,#[ad,xs,BB,zi,by rw[yx hA];show hl],BB]];rw[aB (Ne.symm hj)] at Z;obtain⟨v,t1,t2,t3⟩:=h.env.val j u Z;show#[v,t1,λz=>?_,λz=>?_];change WAt _ _ _ _;rw[yx hA];show t2 z;obtain⟨b,rfl,hb,J,hm⟩:=t3 z;have I:b≠ad:=λq=>h.env.dis i j w u ad hi z (Ne.symm hj) e Z s (by rw[t1,q]);show#[b,BB,hb,?_,hm];change WAt _ _ _ _;rw[yx hA]
  cases u with
  | d x=>
   cases x with
   | lst l=>obtain⟨Y,xs,F,O,g2⟩:=J;cases F;show#[b,xs,BB,by rw[zf I];show O,g2]
   | dct=>obtain⟨Y,xs,F,O,g2⟩:=J;cases F;show#[b,xs,BB,by rw[zf I];show O,g2]
   | _=>cases hm
  | pen p=>cases hm
  | dk k=>obtain⟨Y,xs,F,O,g2⟩:=J;cases F;show#[b,xs,BB,by rw[zf I];show O,g2]
  | dt k=>obtain⟨Y,xs,F,O,g2⟩:=J;cases F;show#[b,xs,BB,by rw[zf I];show O,g2]
  | ss P w k=>obtain⟨Y,xs,F,O,g2⟩:=J;cases F;show#[b,xs,BB,by rw[zf I];show O,g2]
  | df k=>obtain⟨Y,ob,xs,F,O,g2⟩:=J;cases F;show#[b,ob,xs,BB,by right,g2]
  | kf k=>obtain⟨Y,ob,xs,F,O,g2⟩:=J;cases F;show#[b,ob,xs,BB,by right,g2]
  | ad a x=>cases hm
  | tz BD x=>cases hm
  | fl k=>obtain⟨Y,ob,xs,F,O,g2⟩:=J;cases F;show#[b,ob,xs,BB,by right,g2]
  have ag:∀q (u:W),(D.set i (some (.d (.lst l))))[q]?=some (some u)->∃u',D[q]?=some (some u'):=λq u z=>by
   by_cases hq:q=i;subst hq;show#[w,e];rw[aB (Ne.symm hq)] at z;show#[u,z]
  obtain⟨v1,f1⟩:=ag j u e1;obtain⟨v2,f2⟩:=ag q u' F;show h.env.dis j q v1 v2 b hj hq I f1 f2;by_cases U:b=ad;subst U;show#[_,zi,NP.lst,BB];rw[zf U];show h.env.al b hb
 show#[hE,#[h.frm.sub,h.frm.new,λb o eb nn nc=>?_,h.frm.al,h.frm.cn,λb z=>(by
  by_cases U:b=ad;subst U;show#[_,zi,NP.lst];rw[zf U];show h.frm.cs b z)],h.pn.upd hA,by rw[yx hA];show h.prot,h.fix,λj u b hj Z sj=>?_]
 have I:b≠ad:=λq=>by
  subst q;rcases h.mine i w b hi e s with z | z;show z o eb nn;show nc z
 rw[zf I];show h.frm.st b o eb nn nc;by_cases an:j=i;subst an;show h.mine j w b hj e sj;rw[aB (Ne.symm an)] at Z;show h.mine j u b hj Z sj
def ztL (i:Nat)(f:AD):Ms:=λD n k=>(∃l,D[i]?=some (some (.d (.lst l))))/\f D n λw m=>∃l d,D[i]?=some (some (.d (.lst l)))/\w = .d d/\l.length<lim/\k.nx (D.set i (some (.d (.lst (l++[d]))))) m
def zsR(h:RE Pn M fr' te f)(hi:i∈M):RS Pn S M fr (zqs (tBM K "list" zgl (za4 i) (zbQ te zqv))) (ztL i f):=#[by
 rintro B A G H D n k BH a Y ⟨⟨l0,Z⟩,hf⟩;obtain⟨v,q,_,s3⟩:=a.env.val i _ Z;obtain⟨I,rfl,hA,hb,_⟩:=s3 hi;obtain⟨a2,ac,e2,g0,_⟩:=hb;cases e2;show#[.ref I,q,.inl #[BB,_,SqL.of g0],?_];show h.run A G H D n _ _ a.env a.pn hf  ?_;rintro w m v H' ⟨l,d,e,ed,hz,r⟩ hv g _;subst ed;have J:=a.step g;obtain⟨v2,O,_,t3⟩:=J.env.val i _ e;rw[q] at O;cases O;obtain⟨a3,e3,ag,F,_⟩:=t3 hi;cases e3;obtain⟨a4,xs,e4,g4,U⟩:=F;cases e4;show#[I,xs,v,BB,BB,g4,zgZ (by rw[U.length];show cH hz),Y.nx A G _ _ m (J.wr hi e q (U.append (IsL.one hv.is))) r]]
def znd (i:Nat){x:Str}{Z J sp O:Pos}(he:JE X Pn M fr' e f)(hi:i∈M:=by ext)(hN:X.N[i]?=some x:=by rfl)(hv:Vis X.env.scope x:=by fail"v")(hd:Ah x:=by ext)
  (ac:(x==("__classdict__" : Str))=false:=by ext) (U:starEach (e::[]) X.env=(false,eval e X.env)::starEach [] X.env:=by rfl) (hs:swapsWith (.Call (.Attribute (.Name x O) "append" Z) [e] [] J) none sp.line X.env=pure false:=by rfl) (F:attributeBase (.Name x O) "append" X.env (eval (.Name x O) X.env)=eval (.Name x O) X.env:=by rfl) (I:(Z.endLine==J.line)=true:=by rfl)
  (Y:((backTo J (starEach [e] X.env)).all (λx=>!x.1)&&(backToKw J (keywordEach [] X.env)).all (λx=>x.1.isSome)&&decide (([e]:AO).length+([]:List Keyword).length+(if ([]:List Keyword).isEmpty then 0 else 1)<30))=true:=by rfl) (B:(backTo J (starEach [] X.env)).any (·.1)=false:=by rfl) :
  JS X Pn S M fr (.Expr (.Call (.Attribute (.Name x O) "append" Z) [e] [] J) sp) (ztL i f):=by
 obtain⟨te,q,r⟩:=he.ex;show#[_,zgj (zsv (qv i hN hv hd ac) (zZ q yR U) F Y I U B) hs,zsR r hi]
def zoq (mg:W->Ev->(Ev->Prop)->Prop)(fb:Ms)(D:Ev)(k:Kt):AU->Nat->Prop:=λl J=>∃I:Nat->Ev->Nat->Prop,I 0 D J/\
 (∀i w q B,l[i]?=some w->I i q B->mg w q λF=>fb F B { k with nx:=I (i+1),ct:=I (i+1),bk:=k.nx })/\∀ q B,I l.length q B->k.nx q B
abbrev mFor (q:AC) (mg:W->Ev->(Ev->Prop)->Prop) (fb:Ms):Ms:=λD n k=>q D n (zoq mg fb D k)
def zlq{B:Bs}{A:AL}{G:St}{H1:Hp}{D:Ev}{k:Kt}{BH:Ends}{J:It}{l:AU}{g:TG}{tb:TS}{mg:W->Ev->(Ev->Prop)->Prop}{fb:Ms}(hg:RG (S++M) M g mg)(hb:RS Pn S M fr tb fb)(hS:9999∉S)(a1:At3 Pn B S M A G H1 D m)(kk:KOk Pn B S M fr k BH)(iv:ItV false A H1 J l)(hf:zoq mg fb D k l m) :
  ∃W:Nat->Nat->St->Hp->Prop,(∃m,W 0 m G H1)/\∀i m G H,W i m G H->(J.stop i H/\BH.nx G H)\/(J.go i H/\∃N:St->Hp->Prop,(∀ O H',N O H'->∃m',m'<m/\W (i+1) m' O H')/\∀x H',J.yld i H x H'->g x G H' λZ H2=>tb { BH with nx:=N,ct:=N,bk:=BH.nx } Z H2):=by
 obtain⟨I,i0,it,ie⟩:=hf;have out:∀ {A':AL} {O:St} {H':Hp} {F:Ev} {U:Nat},At3 Pn { B with G0:=yg A H1 } S M A' O H' F U->At3 Pn B S M A' O H' F U:=λ{A' O H' F U} q=>#[q.env,q.frm,q.pn,a1.prot.trans q.prot,#[q.fix.1,a1.fix.2],q.mine];show#[λi mm O H'=>mm=l.length - i/\i<=l.length/\∃A' F U,At3 Pn { B with G0:=yg A H1 } S M A' O H' F U/\I i F U,#[l.length,by simp,aI _,A,D,m,#[a1.env,a1.frm,a1.pn,zy.refl _,#[a1.fix.1,λz=>absurd z hS],a1.mine],i0],?_];rintro i mm O H' ⟨rfl,as,A',F,U,a',hI⟩;by_cases ag:i<l.length
 show Or.inr ?_;have ac:l[i]?=some l[i]:=ak ag;obtain⟨go,yl⟩:=iv.one i l[i] A' H' ac a'.prot (λz=>by cases z) λp hp=>a'.env.new hp;show#[go,λZ H2=>∃A' F U,At3 Pn { B with G0:=yg A H1 } S M A' Z H2 F U/\I (i+1) F U,λZ H2 h=>#[l.length - (i+1),by lia,BB,ag,h],λx H2 hy=>?_];obtain⟨S2,V2⟩:=yl x H2 hy;have a2:=a'.step (Go.same a'.pn S2);show hg.run A' O H2 F x l[i] _ _ a2.env V2 (it i l[i] F U ac hI) λal an r3 E3 f3=>?_;show hb.run { B with G0:=yg A H1 } A' al H2 an U _ _ (EnvR.mineG a2 E3 f3) #[?_,?_,?_,kk.fc,?_] r3
 show λA4 ad H4 Y n4 a4 r4=>#[A4,Y,n4,a4,r4];show λA4 ad H4 Y n4 a4 r4=>kk.nx A4 ad H4 Y n4 (out a4) r4;show λA4 ad H4 Y n4 a4 r4=>#[A4,Y,n4,a4,r4];show kk.rt;show Or.inl ?_;have ap:i=l.length:=by lia
 subst ap;show#[iv.stop A' H' a'.prot (λz=>by cases z),kk.nx A' O H' F U (out a') (ie F U hI)]
def zsS {wi:TI}{g:TG}{tb:TS}{q:AC}{mg:W->Ev->(Ev->Prop)->Prop}{fb:Ms}(hi:RI Pn M false wi q)(F:RG (S++M) M g mg)(I:RS Pn S M fr tb fb)(O:9999∉S):RS Pn S M fr (zvH wi g tb) (mFor q mg fb):=#[λB A G H D n k BH a U Y=>hi.run A G H D n _ _ a.env a.pn Y λl m J H1 Z iv g1=>zlq F I O (a.step g1) U iv Z]
def xc {tg iter:Expr}{body:List Stmt}{q:AC}{mg:W->Ev->(Ev->Prop)->Prop}{fb:Ms}(B:PassesOwn (model X.prog X.w) X.A X.env X.xe)(F:X.calm=true)(hi:JI X Pn M false tg iter q)(I:JG X (S++M) M tg mg)(J:JSs X Pn S M fr body fb)(hs:∀x,foldedSetIterable iter X.env x=pure x:=by intro _;rfl)(O:9999∉S:=by ext) :
  JS X Pn S M fr (.For tg iter body [] pos) (mFor q mg fb):=by
 obtain⟨ti,U,Y⟩:=hi.ex;obtain⟨Z,qg,rg⟩:=I.ex;obtain⟨tb,qb,rb⟩:=J.ex;show#[_,znA B F U qg qb hs,zsS Y rg rb O]
def za3 (N:AM)(q:AU):Ev:=q.map some++List.replicate (N.length - q.length) none
theorem za9.get:∀ {q:AU} {vs:AT} {i:Nat} {w:W},za9 A H q vs->q[i]?=some w->∃v,vs[i]?=some v/\Val A H w v
 | [],_,_,_,_,e=>by simp at e
 | x::q,vs,0,w,⟨v,r,B,h1,_⟩,e=>by right
 | x::q,vs,i+1,w,⟨v,r,B,_,h2⟩,e=>by
  subst B;obtain⟨u,F,I⟩:=za9.get (i:=i) h2 (by simpa using e);right
def ziI {A:AL}{H:Hp}{N:AM}{ws:AU}{vs:AT}(al:Al A H)(h:za9 A H ws vs)(hM:∀i∈M,ws.length<=i):EnvR A M (L2.xx N vs) H (za3 N ws) where
 len:=by unfold L2.xx za3;rw[aj,aj,ab,ab,eU,eU,h.len]
 val:=λi w e=>by
  unfold za3 at e
  have hi:i<ws.length:=by
   apply bR;intro z;rw[bt (by right)] at e;obtain⟨_,q⟩:=ah.mp e;right
  rw[bQ (by right),aC] at e;obtain⟨w',e1,e2⟩:=aH.mp e;cases e2;obtain⟨v,h1,h2⟩:=h.get e1;show#[v,?_,λ_=>h2,λz=>absurd (hM i z) (by lia)];unfold L2.xx;have hi':i<vs.length:=by rw[h.len];show hi
  rw[bQ (by right),aC,h1];rfl
 dis:=λi j w u ad hi hj hne e1=>by
  unfold za3 at e1;have:=hM i hi;rw[bt (by right)] at e1;obtain⟨_,q⟩:=ah.mp e1;right
 al:=al
def zrO{P:Aa}{w:Ab}{K:AH}{mg:AI}{base:Heap}{J:Str}{f:Addr}{fd:Ac}{N ps:AM}{F:PN->AU->Mo W}(M:AR)(ac:(∀vs H Q E,spV m fr F vs H Q E->vs.length=ps.length)->(∀ (I:Value) (A:Ae) (B:List Env) (s:AZ) (H:Hp) (vs:AT) (Q:VK) (E:XK),Room k (A.deeper (PyProof.Rows.envOfC J (zd st) s.heap.objs.size f I))->spV m fr F vs H Q E->
   ∃t,QSs (zeG CX0 P w K mg base N J (zd st) f I A B s H E).nox (zC st) t/\t { nx:=λ_ H'=>Q .non H',rt:=Q } (L2.xx N vs) H)->FnOk P w K mg base CX0 (k+1) f fd ps (spV m fr F))(hm:m=ps.length)(hM:∀i∈M,m<=i)(O:∀ (I:Value) (A:Ae) (B:List Env) (s:AZ) (H:Hp) (E:XK) (Pn:PN),Room k (A.deeper (PyProof.Rows.envOfC J (zd st) s.heap.objs.size f I))->
   ∃fs,JSs (zeG CX0 P w K mg base N J (zd st) f I A B s H E).nox Pn [] M fr (zC st) fs/\∀U n R,U.length=m->F Pn U n R->fs (za3 N U) n { nx:=λ_ Z=>fr=false/\R (.d .non) Z,rt:=R }):FnOk P w K mg base CX0 (k+1) f fd ps (spV m fr F):=by
 show ac (λvs H Q E h=>?_) (λI A B s H vs Q E hr h=>?_);obtain⟨Pn,A,U,n,R,_,hv,hl,_⟩:=h;rw[hv.len,hl,hm];obtain⟨Pn,A3,U,n,R,al,hv,hl,hp,hF,q⟩:=h;obtain⟨fs,⟨t,qs,rs⟩,ad⟩:=O I A B s H E Pn hr;show#[t,qs,rs.run { A0:=A3,H0:=H,G0:=yg A3 H,σ0:=L2.xx N vs } A3 (L2.xx N vs) H (za3 N U) n _ _ #[ziI al hv (λi hi=>by right),#[λ_ z=>z,λ_ z=>.inl z,.of (zy.refl _),al,λ_ z=>z.elim,λ_ z=>z.elim],hp,zy.refl _,#[λi hi=>rfl,λz=>by cases z],λi w a hi e=>?_] #[?_,?_,?_,λ_ z=>z,?_] (ad U n R hl hF)];show absurd e (by unfold za3;have:=hM i hi;rw[bt (by right)];intro z;obtain⟨_,q⟩:=ah.mp z;rw[List.getElem_replicate] at q;cases q);intro A' an H' ap Z a' ⟨Y,r⟩;show q _ Z .non H' r (Val.of (show Is _ .non .non from rfl)) #[a'.frm.st.stay,a'.pn.less a'.frm.sub] λz=>by rw[Y] at z;cases z
 right;right;intro w Z v H' ag st pn Y r;show q w Z v H' r ag #[st.stay,pn] Y
end
section
variable {X:Cx}{Pn:PN}{M S:AR}{fr fr':Bool}{e a b c:Expr}{es:AO}{f fa fb fc:AD}{pos p p2:Pos}
def znm (B:Dt->Bool)(f:AD):AD:=λD n Q=>f D n λw m=>∃d,w = .d d/\Q (.d (.bl (B d))) m
def zkk(q:∀d:Dt,PySem.W.kitOne K (.type d.ty) (.type T)=some (B d))(h:RB Pn M te f):RE Pn M false (tCB (λxs H Q=>∃x T t b,xs=[x,.ty T]/\TyOf K H x t/\PySem.W.kitOne K t (.type T)=some b/\Q (.bl b) H) (zbQ te (zbQ (tC (.ty T)) zqv))) (znm B f):=#[λA G H D n Q R E P F k=>by show h.run A G H D n _ _ E P F  ?_;rintro w m v H' ⟨d,e,r⟩ I g;subst e;show#[v,T,_,_,BB,I.is.ty,q d,k _ m _ H' r (Val.of BB) g λz=>by cases z]]
abbrev isStr:Dt->Bool
 | .str _=>true
 | _=>false
abbrev isDct:Dt->Bool
 | .dct=>true
 | _=>false
def zlE(Y:∀d:Dt,PySem.W.kitOne X.K (.type d.ty) (.type T)=some (B d))(Z:bootBuiltins x=some (.type T))(I:Gl X x)(hn:x ≠ "__name__")(hd:(x==("__debug__" : Str))=false)(hg:Gl X "isinstance")(hm:X.mg "isinstance" = none)(J:X.mg x=none)(h:JB X Pn M e f)(F:starEach (e::[.Name x p2]) X.env=(false,eval e X.env)::starEach [.Name x p2] X.env)(O:starEach (.Name x p2::[]) X.env=(false,eval (.Name x p2) X.env)::starEach [] X.env)(U:(backTo pos (starEach [.Name x p2] X.env)).any (·.1)=false):JE X Pn M false (.Call (.Name "isinstance" p) [e,.Name x p2] [] pos) (znm B f):=by
 obtain⟨te,q,r⟩:=h.ex;show#[_,xh zir hg hm PyProof.Rows.boot_isinstance (zZ q (zZ (zpO (v:=.ty T) I J Z BB hn hd) yR O) F) (by ext) (by ext) F U,zkk Y r]
def zal (O:Gl X "isinstance")(U:X.mg "isinstance" = none)(q:X.mg "tuple" = none)(h:JB X Pn M e f)(B:Gl X "tuple" := by rfl)(F:starEach (e::[.Name "tuple" p2]) X.env=(false,eval e X.env)::starEach [.Name "tuple" p2] X.env:=by rfl)(I:starEach (.Name "tuple" p2::[]) X.env=(false,eval (.Name "tuple" p2) X.env)::starEach [] X.env:=by rfl)(J:(backTo pos (starEach [.Name "tuple" p2] X.env)).any (·.1)=false:=by rfl) :
  JE X Pn M false (.Call (.Name "isinstance" p) [e,.Name "tuple" p2] [] pos) (znm Dt.isTup f):=zlE (zoS _) bf B (by ext) (by ext) O U q h F I J
def zaH (O:Gl X "isinstance")(U:X.mg "isinstance" = none)(q:X.mg "list" = none)(h:JB X Pn M e f)(B:Gl X "list" := by rfl)(F:starEach (e::[.Name "list" p2]) X.env=(false,eval e X.env)::starEach [.Name "list" p2] X.env:=by rfl)(I:starEach (.Name "list" p2::[]) X.env=(false,eval (.Name "list" p2) X.env)::starEach [] X.env:=by rfl)(J:(backTo pos (starEach [.Name "list" p2] X.env)).any (·.1)=false:=by rfl) :
  JE X Pn M false (.Call (.Name "isinstance" p) [e,.Name "list" p2] [] pos) (znm Dt.isLst f):=zlE (zoR _) cR B (by ext) (by ext) O U q h F I J
def zbs (O:Gl X "isinstance")(U:X.mg "isinstance" = none)(q:X.mg "int" = none)(h:JB X Pn M e f)(B:Gl X "int" := by rfl)(F:starEach (e::[.Name "int" p2]) X.env=(false,eval e X.env)::starEach [.Name "int" p2] X.env:=by rfl)(I:starEach (.Name "int" p2::[]) X.env=(false,eval (.Name "int" p2) X.env)::starEach [] X.env:=by rfl)(J:(backTo pos (starEach [.Name "int" p2] X.env)).any (·.1)=false:=by rfl) :
  JE X Pn M false (.Call (.Name "isinstance" p) [e,.Name "int" p2] [] pos) (znm Dt.isInt f):=zlE (zoQ _) PyProof.Rows.boot_int B (by ext) (by ext) O U q h F I J
def uh (O:Gl X "isinstance")(U:X.mg "isinstance" = none)(q:X.mg "bool" = none)(h:JB X Pn M e f)(B:Gl X "bool" := by rfl)(F:starEach (e::[.Name "bool" p2]) X.env=(false,eval e X.env)::starEach [.Name "bool" p2] X.env:=by rfl)(I:starEach (.Name "bool" p2::[]) X.env=(false,eval (.Name "bool" p2) X.env)::starEach [] X.env:=by rfl)(J:(backTo pos (starEach [.Name "bool" p2] X.env)).any (·.1)=false:=by rfl) :
  JE X Pn M false (.Call (.Name "isinstance" p) [e,.Name "bool" p2] [] pos) (znm Dt.isBl f):=zlE (zrF _) PyProof.Rows.boot_bool B (by ext) (by ext) O U q h F I J
def zmv (n:Nat):AS:=(List.range n).map λi:Nat=>Dt.int i
def zi7(n:Nat):IsL BG (zmv n) ((List.range n).map λi:Nat=>V.int i):=by
 have q:zmv n=(((List.range n).map λi:Nat=>(i:Int))).map Dt.int:=by unfold zmv;rw[aO];rfl
 have B:((List.range n).map λi:Nat=>V.int i)=(((List.range n).map λi:Nat=>(i:Int))).map V.int:=by rw[aO];rfl
 rw[q,B];show IsL.ints
def zd5 (fa:AC):AD:=λD n Q=>fa D n λq m=>∃j:Nat,q=[.d (.int (j:Int))]/\j<=1000/\Q (.d (.lst (zmv j))) m
def zeX{q:Pos}{J:Pos}(hm:X.mg "list" = none)(O:X.mg "range" = none)(ha:JAB X Pn M [a] fs)(hc:X.calm=true:=by rfl)(hg:Gl X "list" := by rfl)(U:Gl X "range" := by rfl)(hs:starEach (a::[]) X.env=(false,eval a X.env)::starEach [] X.env:=by rfl)(F:starEach (.Call (.Name "range" J) [a] [] q::[]) X.env=(false,eval (.Call (.Name "range" J) [a] [] q) X.env)::starEach [] X.env:=by rfl)(Y:(backTo q (starEach [] X.env)).any (·.1)=false:=by rfl)(Z:(backTo pos (starEach [] X.env)).any (·.1)=false:=by rfl):JE X Pn M true (.Call (.Name "list" p) [.Call (.Name "range" J) [a] [] q] [] pos) (zd5 fs):=by
 obtain⟨ta,qa,ra⟩:=ha.ex;show#[_,zcG (zfO hc) hg hm cR (zZ (zcG zlc U O PyProof.Rows.boot_range qa (by ext) (by ext) hs Y) yR F) (by ext) (by ext) F Z,#[λA G H D n Q R E P hf k=>?_]];show ra.run A G H D n _ _ E P hf  ?_;rintro ws m vs H1 ⟨j,e,hj,r⟩ bb g;subst e;obtain⟨v,rfl,b1⟩:=zb6 bb;obtain rfl:=yN b1;show#[_,BB,λp1 H2 np g2 S2=>#[p1,j,BB,g2,hj,λp3 H3 I g3 S3=>?_]];have B:=g.trans (Go.same g.pn S2);show k _ m _ H3 r (u7 (H:=H2) (zi7 j) (zy.same S3) ((E.stay B.st).new I) g3) (B.trans (Go.same B.pn S3)) λ_=>(uK (H:=H2) (zi7 j) S3 I g3).back B.st
abbrev truD:W->Option Bool
 | .d (.lst l)=>some (!l.isEmpty)
 | .d (.tup l)=>some (!l.isEmpty)
 | .d (.bl b)=>some b
 | .d (.int i)=>some (i != 0)
 | .d .non=>some false
 | _=>none
def zg1 (F BG:W->W->Mo W)(fa fb fc:AD):AD:=λD n Q=>fa D n λx B=>fb D B λy I=>F x y I λz q=>∃k,z = .d (.bl k)/\if k=true then fc D q λu J=>BG y u J Q else Q (.d (.bl false)) q
def zms(hr:F2 Pn false r F)(I:F2 Pn false O BG)(ha:RB Pn M ta fa)(hb:RB Pn M tb fb)(hc:RB Pn M tc fc):RE Pn M false (zkx r O ta tb tc) (zg1 F BG fa fb fc):=#[λA G H D n Q R E P hf k=>by
 show ha.run A G H D n _ _ E P hf λx n1 v1 H1 r1 b1 J=>?_;show hb.run A G H1 D n1 _ _ (E.stay J.st) J.pn r1 λy n2 U H2 r2 Y g2=>?_;have g:=J.trans g2;show hr.run A H2 v1 U x y n2 _ _ (E.stay g.st).al (b1.stay g2.st) Y g2.pn r2  ?_;rintro w m v H' ⟨c,e,h1⟩ h2 Z h4;subst e;have hv:v = .bl c:=h2;show#[c,hv,?_];have q:=g.trans Z
 cases c with
 | false=>rw[if_neg (by ext)] at h1 ⊢;show k _ m _ H' h1 (Val.of BB) q λz=>by cases z
 | true=>
  rw[if_pos rfl] at h1 ⊢;show hc.run A G H' D m _ _ (E.stay q.st) q.pn h1 λu n4 v4 H4 r4 b4 B=>?_;show I.run A H4 U v4 y u n4 _ _ (E.stay (q.trans B).st).al (Y.stay (Z.trans B).st) b4 B.pn r4 λw5 m5 v5 H5 a1 a2 a3 a4=>k w5 m5 v5 H5 a1 a2 ((q.trans B).trans a3) λz=>by cases z]
def zoH(U:OpQ X (compareOp B) r)(I:OpQ X (compareOp q) O)(Y:F2 Pn false r F)(J:F2 Pn false O BG)(Z:JB X Pn M a fa)(hb:JB X Pn M b fb)(hc:JB X Pn M c fc)(hm:lastMarks [B,q] [b,c]=false:=by with_unfolding_all rfl):JE X Pn M false (.Compare a [B,q] [b,c] pos) (zg1 F BG fa fb fc):=by obtain⟨ta,qa,ra⟩:=Z.ex;obtain⟨tb,qb,rb⟩:=hb.ex;obtain⟨tc,qc,rc⟩:=hc.ex;show#[_,zmf U I qa qb qc hm,zms Y J ra rb rc]
def At3.own(h:At3 Pn B S M A G H D n)(hi:i∈M)(e:D[i]?=some (some (.d (.lst l)))):∃q xs,G[i]?=some (some (.ref q))/\A q/\H q=some (.lst xs)/\IsL (yg A H) l xs:=by
 obtain⟨v,J,_,F⟩:=h.env.val i _ e;obtain⟨q,rfl,O,I,_⟩:=F hi;obtain⟨U,xs,Y,Z,hl⟩:=I;right
theorem zi8(q:Is BG d v):∀ {ds:AS} {xs:AT} (k:Nat),IsL BG ds xs->IsL BG (ds.set k d) (xs.set k v)
 | [],_,_,h=>by cases h;rfl
 | x::ds,xs,0,⟨y,r,e,h1,h2⟩=>by subst e;show#[v,r,BB,q,h2]
 | x::ds,xs,k+1,⟨y,r,e,h1,h2⟩=>by subst e;show#[y,_,BB,h1,zi8 q k h2]
def zu2 (i:Nat)(fk f:AD):Ms:=λD n k=>(∃l,D[i]?=some (some (.d (.lst l))))/\f D n λw m=>fk D m λy q=>∃l d j,D[i]?=some (some (.d (.lst l)))/\w = .d d/\y = .d (.int j)/\0<=j/\j<l.length/\k.nx (D.set i (some (.d (.lst (l.set j.toNat d))))) q
def znh (i:Nat){x:Str}{np sp:Pos}(hk:JB X Pn M c fc)(he:JE X Pn M fr' e f)(hi:i∈M:=by ext)(hN:X.N[i]?=some x:=by rfl)(hv:Vis X.env.scope x:=by fail"v")(hd:Ah x:=by ext)
  (hcd:(x==("__classdict__" : Str))=false:=by ext) (hs:swapsWithSole [.Subscript (.Name x np) c p] e sp.line X.env=pure false:=by rfl) (hw:swappedStores [.Subscript (.Name x np) c p] e X.env=pure none:=by rfl)
  (h1:(assignEach [.Subscript (.Name x np) c p] X.env).map (·.2)=[assign (.Subscript (.Name x np) c p) X.env]:=by rfl) (ha:∀v,assign (.Subscript (.Name x np) c p) X.env v=(do
   let ov <- holding [v] (eval (.Name x np) X.env)
   let iv <- holding [v,ov] (eval c X.env)
   standAt p
   holding [v,ov,iv] (setItem ov iv v)
   release [v,ov,iv] []):=by intro _;rfl) :
  JS X Pn S M fr (.Assign [.Subscript (.Name x np) c p] e sp) (zu2 i fc f):=by
 obtain⟨te,q,r⟩:=he.ex;obtain⟨tk,qk,rk⟩:=hk.ex;show#[_,zsA q (zpU (qv i hN hv hd hcd) qk ha) hs hw h1,#[ ?_]];rintro B A G H D n k BH a kk ⟨⟨l0,e0⟩,hf⟩;obtain⟨ad,xs0,s0,hA,_⟩:=a.own hi e0;show r.run A G H D n _ _ a.env a.pn hf λw m v H1 r1 hv1 g1 _=>#[.ref ad,s0,?_];have a1:=a.step g1;show rk.run A G H1 D m _ _ a1.env a1.pn r1  ?_;rintro y m2 v2 H2 ⟨l,d,j,e,ed,ey,j0,j1,r2⟩ b2 g2;subst ed ey;have a2:=a1.step g2;obtain⟨ad2,xs,s2,_,g,hl⟩:=a2.own hi e;rw[s0] at s2;cases s2;show#[ad,xs,j,BB,yN b2,g,j0,by rw[hl.length];show j1,kk.nx A G _ _ m2 (a2.wr hi e s0 (zi8 (hv1.stay g2.st).is _ hl)) r2]
end
section
variable {A:AL}{H:Hp}
def zv5(h:za9 A H [w] vs):∃v,vs=[v]/\Val A H w v:=by obtain⟨v,r,e,h1,h2⟩:=h;cases h2;show#[v,e,h1]
def zqL(h:za9 A H [w,u] vs):∃v y,vs=[v,y]/\Val A H w v/\Val A H u y:=by obtain⟨v,r,e,h1,h2⟩:=h;obtain⟨y,rfl,q⟩:=zv5 h2;show#[v,y,e,h1,q]
def zv6(h:za9 A H [w,u,z] vs):∃v y x,vs=[v,y,x]/\Val A H w v/\Val A H u y/\Val A H z x:=by obtain⟨v,r,e,h1,h2⟩:=h;obtain⟨y,x,rfl,q,B⟩:=zqL h2;show#[v,y,x,e,h1,q,B]
def ztt{st:AG}(h:Val A H (.d (stD st)) v):∃a,v = .ref a/\H a=some (.tup (st.map V.int)):=by obtain⟨a,xs,e,h1,h2⟩:=h;obtain rfl:=h2.of_ints;show#[a,e,zo _ _ h1]
end
structure RoomOk (rm:AG):Prop where
 ne:rm≠[]
 few:rm.length<=8
 box:∀r∈rm,2<=r/\r<=4
def RoomOk.pos {rm:AG}(h:RoomOk rm):1<=rm.length:=by
 cases rm with
 | nil=>show absurd BB h.ne
 | cons _ _=>simp
abbrev FV:=PN->AU->Mo W
def Lift (k:Nat)(fr:Bool)(F:FV)(sp:Sp):Prop:=∀vs H Q E,spV k fr F vs H Q E->sp vs H Q E
def FnOk.lift(h:FnOk P w K mg base CX j f fd ps sp)(l:Lift k fr F sp):FnOk P w K mg base CX j f fd ps (spV k fr F):=h.imp l
def zba (K:AH)(Pn:PN)(p:Addr):Prop:=∃c ns,Pn=#[some (p,c,ns),J0]/\KL K c ns
def zie (K:AH):FV:=λPn q n R=>∃p zN,zba K Pn p/\q=[.pen p,.d (.int zN)]/\n<=1000000/\1<=zN/\zN<1073741824/\∀r,0<=r->r<zN->R (.d (.int r)) (n+1)
def zjq:Lift 2 false (zie K) (znL K):=by rintro vs H Q E ⟨Pn,A,ws,n,R,al,F,hl,B,⟨p,zN,⟨c,ns,rfl,I⟩,rfl,h1,h2,J,O⟩,q⟩;obtain⟨v,y,rfl,U,Y⟩:=zqL F;have Z:v = .ref p:=U;have e2:y = .int zN:=Y;subst Z e2;show#[p,c,ns,n,zN,BB,I,B.1.1,h1,h2,J,λr H' r0 r1 P' S'=>q _ (n+1) _ H' (O r r0 r1) (Val.of BB) #[S',#[P',B.1.2],trivial] λz=>by cases z]
abbrev zty:FV:=λPn B n R=>∃p c ns q,Pn=#[some (p,c,ns),J0]/\B=[.pen p,.d (.int q)]/\n+20<=1000000/\4<=q/\q<=256/\∀rm,RoomOk rm->yz rm<=q->R (.d (stD rm)) (n+10)
abbrev zmY:FV:=λPn q n R=>∃p c ns rm,Pn=#[some (p,c,ns),J0]/\q=[.pen p,.d (stD rm)]/\n+20<=1000000/\RoomOk rm/\∀st,st.length=rm.length->(∀b:Int,0<=b->b<rm.length->0<=zN st b/\zN st b<zN rm b)->R (.d (stD st)) (n+10)
def zpb (g:List (Int×Int)):(Dt.tup (g.map xQ)).noL=true:=by
 have:∀g:List (Int×Int),Dt.noLs (g.map xQ)=true:=by
  intro g
  induction g with
  | nil=>rfl
  | cons q g B=>simp only[aD,Dt.noLs,B,fw];rfl
 show this g
abbrev ztG (g:List (Int×Int)):Dt:=.tup (g.map xQ)
abbrev zqV:FV:=λPn F n R=>∃p c ns rm B,Pn=#[some (p,c,ns),J0]/\F=[.pen p,.d (stD rm),.d (.int B)]/\n+40<=1000000/\RoomOk rm/\∀g,Giv rm g->(∀q∈g,q.1≠B)->g.length<=8->R (.d (ztG g)) (n+30)
abbrev ztZ:FV:=λ_ q n R=>∃d,q=[.d d]/\R (.d (.bl d.isWhole)) n
abbrev ztY:FV:=λ_ q n R=>∃a b,q=[.d (.bl a),.d (.bl b)]/\R (.d (.bl (a==b))) n
abbrev F_prod:FV:=λ_ q n R=>∃ns:AG,q=[.d (stD ns)]/\(∀n∈ns,2<=n/\n<=4)/\R (.d (.int (yz ns))) n
abbrev ztX:FV:=λ_ B n R=>∃st g,B=[.d (stD st),.d (ztG g)]/\(∀q∈g,0<=q.1/\q.1<st.length)/\R (.d (.bl (x6 st g))) n
abbrev zaB (BF:AF):Dt:=.lst (BF.map stD)
abbrev F_all:FV:=λ_ q n R=>∃rm,q=[.d (stD rm)]/\RoomOk rm/\yz rm<=256/\R (.d (zaB (zaD (rm.map z8)))) n
abbrev lsD (c:AG):Dt:=.lst (c.map .int)
abbrev zqR:FV:=λ_ q n R=>∃cs:AF,q=[.d (.lst (cs.map lsD))]/\cs.length<=8/\(∀c∈cs,c.length<=4)/\R (.d (zaB (zaD cs))) n
def zvc {P:Aa}{w:Ab}{K:AH}{mg:AI}{base:Heap}{x F:Str}{st:Stmt}{f:Addr}{fd:Ac}{N ps:AM}{k r:Nat}{S:AR}(M:AR)(Fu:Fun K x F st f fd)(Sc:FnScope N ps (zd st))(ag:ps.length=1)(hN:N.length=r+2)(hM:∀i∈M,2<=i)
  (Y:∀ (J:Value) (A:Ae) (B:List Env) (s:AZ) (H:Hp) (E:XK) (Pn:PN),Room k (A.deeper (PyProof.Rows.envOfC F (zd st) s.heap.objs.size f J))->
   ∃U zx fs,zC st=U::zx/\QS (zeG CX0 P w K mg base N F (zd st) f J A B s H E).nox U (zic (zdd (zmF K) [] E0 (zbQ (za4 0) zqv)) (zbM 1))/\
    JSs (zeG CX0 P w K mg base N F (zd st) f J A B s H E).nox Pn S M false zx fs/\∀p c ns,Pn=#[some (p,c,ns),J0]->KL K c ns->fs (none::some (.pen p)::List.replicate r none) 0 { nx:=λ_ _=>False,rt:=λw _=>w = .d (.bl true) }):FnOk P w K mg base CX0 (k+1) f fd ps (zhX K):=by
 show Fun.okQ Fu Sc (λvs H Q E h=>?_) (λJ A B s H vs Q E hr h=>?_);obtain⟨a,ns,rfl,_⟩:=h;show ag.symm;obtain⟨a,ns,rfl,hK,hS,hl,q⟩:=h;have Z:=λ(Pn:PN)=>Y J A B s H E Pn hr;have ad:L2.xx N [.ref a]=some (.ref a)::none::List.replicate r none:=by unfold L2.xx;rw[hN];rfl
 have hd:∃U zx,zC st=U::zx:=let ⟨U,zx,_,e,_⟩:=Z #[none,J0];#[U,zx,e];obtain⟨U,zx,e0⟩:=hd;rw[e0];have c2:∀Pn,∃fs,JSs (zeG CX0 P w K mg base N F (zd st) f J A B s H E).nox Pn S M false zx fs/\∀p c ns,Pn=#[some (p,c,ns),J0]->KL K c ns->fs (none::some (.pen p)::List.replicate r none) 0 { nx:=λ_ _=>False,rt:=λw _=>w = .d (.bl true) }:=λPn=>by obtain⟨al,ac,fs,e,_,h1,h2⟩:=Z Pn;rw[e0] at e;cases e;show#[fs,h1,h2]
 have q1:QS (zeG CX0 P w K mg base N F (zd st) f J A B s H E).nox U (zic (zdd (zmF K) [] E0 (zbQ (za4 0) zqv)) (zbM 1)):=by
  obtain⟨al,ac,fs,e,h0,_⟩:=Z #[none,J0];right
 show#[_,yi q1 (u:=λBH G H=>∃Pn,(c2 Pn).choose_spec.1.ex.choose BH G H) #[λBC s' G H BH I ⟨Pn,z⟩=>(c2 Pn).choose_spec.1.ex.choose_spec.1.run BC s' G H BH I z],?_];show#[.ref a,by rw[ad];rfl,a,ns,BB,hK,hS,hl,λp H1 P1 S1=>#[#[some (p,a,ns),J0],?_]];have hs:=(c2 #[some (p,a,ns),J0]).choose_spec.2 p a ns BB hK;have e1:(L2.xx N [.ref a]).set 1 (some (.ref p))=some (.ref a)::some (.ref p)::List.replicate r none:=by rw[ad];rfl
 rw[e1]
 have O:∀i (u:W),(none::some (.pen p)::List.replicate r none:Ev)[i]?=some (some u)->i=1/\u = .pen p:=λi u e=>by
  match i,e with
  | 0,e=>simp at e
  | 1,e=>show#[BB,by simpa using e.symm]
  | i+2,e=>
   simp only[bD] at e;obtain⟨_,q⟩:=ah.mp e;right
 show (c2 #[some (p,a,ns),J0]).choose_spec.1.ex.choose_spec.2.run { A0:=λ_=>False,H0:=λ_=>none,G0:=λ_=>none,σ0:=some (.ref a)::some (.ref p)::List.replicate r none } (λ_=>False) _ H1 _ 0 _ _ #[#[?_,?_,?_,λ_ z=>z.elim],#[λ_ z=>z,λ_ z=>z.elim,(λb o (z:(none:Option HO)=some o)=>nomatch z),λ_ z=>z.elim,λ_ z=>z.elim,λ_ z=>z.elim],#[#[P1,λ_ _ z=>z,λz=>z],trivial],(λb o (z:(none:Option HO)=some o)=>nomatch z),#[λi hi=>rfl,λ_=>#[λb xs (z:(none:Option HO)=some (.lst xs))=>(nomatch z),λb xs (z:(none:Option HO)=some (.lst xs))=>(nomatch z)]],?_] #[?_,?_,?_,λ_ z=>z,?_] hs;simp;intro i u e;obtain⟨rfl,rfl⟩:=O i u e;show#[.ref p,BB,λ_=>rfl,λz=>absurd (hM 1 z) (by lia)];intro i j u u' b hi hj an e1;obtain⟨rfl,rfl⟩:=O i u e1;show absurd (hM 1 hi) (by lia);intro i u b hi e;obtain⟨rfl,rfl⟩:=O i u e;show absurd (hM 1 hi) (by lia);intro _ _ _ _ _ _ z;show z.elim;intro _ _ _ _ _ _ z;show z.elim;intro _ _ _ _ _ _ z;show z.elim;intro w n' v H' hv st pn _ r;have r':w = .d (.bl true):=r;subst r';have:v = .bl true:=hv;subst this;show q H'
def zio {α:Type}{l:AU}{F:Ev}{n:Nat}{mg:W->Ev->(Ev->Prop)->Prop}{Z:Ev->Mo Bool}{fe:AD}{Q:AV}(xs:List α)(I:α->W)(hl:l=xs.map I)(J:Ev->Prop)(P:α->Bool)(E:α->Dt)(ac:xs.length<=lim)(j0:J F)
  (h:∀a∈xs,∀ B,J B->∀C:Ev->Nat->Option Dt->Prop,(∀ q,J q->C q n (if P a then some (E a) else none))->mg (I a) B λq=>Z q n λb n2=>if b=true then fe q n2 λx O=>∃d,x = .d d/\C q O (some d) else C q n2 none)
  (fin:Q (.d (.lst ((xs.filter P).map E))) n):zdO mg Z fe F Q l n:=by
 subst hl;show#[by right,λi B U acc=>J B/\U=n/\acc=((xs.take i).filter P).map E,#[j0,BB,by simp],?_,?_];rintro i w B U acc hw ⟨hj,rfl,rfl⟩;rw[aC] at hw;obtain⟨a,ha,rfl⟩:=aH.mp hw
 have:=h a (aM ha) B hj (λq O o=>match o with
  | some d=>J q/\O=U/\((xs.take i).filter P).map E++[d]=((xs.take (i+1)).filter P).map E
  | none=>J q/\O=U/\((xs.take i).filter P).map E=((xs.take (i+1)).filter P).map E) (λq Y=>by
   rw[zw ha,List.filter_append,a9];by_cases hp:P a=true;right;rw[if_neg hp];show#[Y,BB,by simp[hp]])
 show this;grind
def zla {α:Type}{l:AU}{F:Ev}{n:Nat}{mg:W->Ev->(Ev->Prop)->Prop}{Z:AD}{Q:AV}(xs:List α)(I:α->W)(hl:l=xs.map I)(J:Ev->Prop)(E:α->Dt)(ac:xs.length<=lim)(j0:J F)
  (h:∀a∈xs,∀ B,J B->∀C:Ev->Nat->Dt->Prop,(∀ q,J q->C q n (E a))->mg (I a) B λq=>Z q n λx O=>∃d,x = .d d/\C q O d)
  (fin:Q (.d (.lst (xs.map E))) n):zdO mg ztP Z F Q l n:=by
 subst hl;show#[by right,λi B U acc=>J B/\U=n/\acc=(xs.take i).map E,#[j0,BB,by simp],?_,?_];rintro i w B U acc hw ⟨hj,rfl,rfl⟩;rw[aC] at hw;obtain⟨a,ha,rfl⟩:=aH.mp hw;show h a (aM ha) B hj (λq O d=>J q/\O=U/\(xs.take i).map E++[d]=(xs.take (i+1)).map E) λq Y=>#[Y,BB,by rw[zw ha,a9];rfl];grind
def zor(I:Nat->Ev->Nat->Prop)(U:I 0 D n)(h:∀i q B,i<r->I i q B->mg (.d (.int (i:Int))) q λF=>fb F B { k with nx:=I (i+1),ct:=I (i+1),bk:=k.nx })(Y:∀ q B,I r q B->k.nx q B):zoq mg fb D k (zhS 0 r) n:=by
 show#[I,U,λi w q B J O=>?_,λq B O=>Y q B ?_];unfold zhS at J;rw[aC] at J;obtain⟨j,h1,rfl⟩:=aH.mp J;obtain⟨hi,h2⟩:=ah.mp h1;rw[cj] at h2;right;unfold zhS at O;right
def ziT{α:Type}(xs:List α)(F:α->W)(Y:l=xs.map F)(I:Nat->Ev->Nat->Prop)(Z:I 0 D n)(h:∀i a q B,xs[i]?=some a->I i q B->mg (F a) q λJ=>fb J B { k with nx:=I (i+1),ct:=I (i+1),bk:=k.nx })(hd:∀ q B,I xs.length q B->k.nx q B):zoq mg fb D k l n:=by
 subst Y;show#[I,Z,λi w q B O U=>?_,λq B U=>hd q B (by right)];rw[aC] at O;obtain⟨a,ha,rfl⟩:=aH.mp O;show h i a q B ha U
def zcb(I:Nat->Ev->Nat->Prop)(O:I 0 D n)(h:∀i q F,i<r->I i q F->∀ (C B:Ev->Nat->Prop) (E:AV),(∀ {D m},I (i+1) D m->C D m)->(∀ {D m},k.nx D m->B D m)->(∀ {w m},k.rt w m->E w m)->mg (.d (.int (i:Int))) q λJ=>fb J F { rt:=E,nx:=C,ct:=C,bk:=B })(U:∀ q F,I r q F->k.nx q F):zoq mg fb D k (zhS 0 r) n:=
 zor I O (λi q F hi Y=>h i q F hi Y (I (i+1)) k.nx k.rt (λz=>z) (λz=>z) λz=>z) U
def xf{α:Type}(xs:List α)(F:α->W)(U:l=xs.map F)(I:Nat->Ev->Nat->Prop)(Y:I 0 D n)(h:∀i a q J,xs[i]?=some a->I i q J->∀ (C B:Ev->Nat->Prop) (E:AV),(∀ {D m},I (i+1) D m->C D m)->(∀ {D m},k.nx D m->B D m)->(∀ {w m},k.rt w m->E w m)->mg (F a) q λO=>fb O J { rt:=E,nx:=C,ct:=C,bk:=B })(Z:∀ q J,I xs.length q J->k.nx q J):zoq mg fb D k l n:=
 ziT xs F U I Y (λi a q J ha hI=>h i a q J ha hI (I (i+1)) k.nx k.rt (λz=>z) (λz=>z) λz=>z) Z
def zk9{α:Type}(xs:List α)(O:α->W)(hl:l=xs.map O)(Z:xs.length<=lim)(I:Nat->Ev->Nat->AS->Prop)(h0:I 0 J n [])(h:∀i a q B acc,xs[i]?=some a->I i q B acc->∀C:Ev->Nat->AS->Prop,(∀ {D m l},I (i+1) D m l->C D m l)->mg (O a) q λF=>U F B λb n2=>if b=true then Y F n2 λx n3=>∃d,x = .d d/\C F n3 (acc++[d]) else C F n2 acc)(fin:∀ q B acc,I xs.length q B acc->Q (.d (.lst acc)) B):zdO mg U Y J Q l n:=by
 subst hl;show#[by right,I,h0,λi w q B acc hw hI=>?_,λq B acc hI=>fin q B acc (by right)];rw[aC] at hw;obtain⟨a,ha,rfl⟩:=aH.mp hw;show h i a q B acc ha hI (I (i+1)) λz=>z
def zgD {α:Type}{l:List α}{i:Nat}{x:α}(h:l[i]?=some x):atI l (i:Int)=some x:=by
 have:=(ah.mp h).1;unfold atI ixN;right
def zqY {α:Type}{l:List α}{i:Int}(B:0<=i)(h1:i<l.length):∃d,atI l i=some d/\d∈l:=by
 obtain⟨j,rfl⟩:∃j:Nat,i=j:=#[i.toNat,by lia];have q:j<l.length:=by lia
 show#[l[j],zgD (ak q),bz q]
def zt5 {a b:Dt}:atI [a,b] 0=some a:=rfl
def zt6 {a b:Dt}:atI [a,b] 1=some b:=rfl
def znZ {st:AG}{b:Int}(B:0<=b)(h1:b<st.length):atI (st.map Dt.int) b=some (.int (zN st b)):=by
 obtain⟨j,rfl⟩:∃j:Nat,b=j:=#[b.toNat,by lia];have q:j<st.length:=by lia
 show zgD ?_;rw[aC,ak q,zE];simp[q]
def gw (g:List (Int×Int))(i:Nat):AQ:=(g.find? λq=>decide (q.1=(i:Int))).map (·.2)
def cho (rm:AG)(g:List (Int×Int))(i:Nat):AG:=match gw g i with
 | some w=>[w]
 | none=>z8 (rm.getD i 0)
def chs (rm:AG)(g:List (Int×Int)):AF:=(List.range rm.length).map (cho rm g)
def zuO (rm:AG)(g:List (Int×Int)):AF:=zaD (chs rm g)
section
variable {X:Cx}{Pn:PN}{M S:AR}{fr fr':Bool}{e a b c:Expr}{es:AO}{f fa fb fc:AD}{pos p p2:Pos}
theorem zho:∀ (l k:AS) (i:Nat),(ziW l k)[i]?=(l[i]?).bind λx=>(k[i]?).map λy=>W.d (.tup [x,y])
 | [],_,_=>by simp[ziW]
 | _::_,[],_=>by simp[ziW]
 | x::r,y::s,0=>by simp[ziW]
 | x::r,y::s,i+1=>by have:=zho r s i;simp only[ziW,bD,this]
theorem zhp:∀ (l k:AS),(ziW l k).length=min l.length k.length
 | [],_=>by simp[ziW]
 | _::_,[]=>by simp[ziW]
 | x::r,y::s=>by rw[ziW,aJ,aJ,aJ,zhp r s];lia
def zoX (fa:AC):AC:=λD n Q=>fa D n λq m=>∃l k,q=[.d (.lst l),.d (.lst k)]/\Q (ziW l k) m
def zlB(h:yg A H I=some (.lst xs))(O:IsL (yg A H) l xs)(h':yg A H J=some (.lst ys))(U:IsL (yg A H) k ys):ItV false A H (Izl K I J) (ziW l k) where
 one:=λi w A2 H2 e s _ hA=>by rw[zho] at e;obtain⟨d,h1,e⟩:=eA.mp e;obtain⟨d',q,rfl⟩:=aH.mp e;obtain⟨x,Y,hd⟩:=O.getD h1;obtain⟨y,Z,B⟩:=U.getD q;have g:=zo _ _ (s.lst h);have g':=zo _ _ (s.lst h');show#[#[xs,ys,x,y,.of g,.of g',Y,Z],?_];rintro v H3 ⟨T,z,z',e1,hT,e3,hz,F⟩;subst e1 e3;have q1:=hz xs (.of g);have q2:=F ys (.of g');rw[Y] at q1;rw[Z] at q2;cases q1;cases q2;have S:=yT.upd (o:=.tup [x,y]) hT;show#[S,Val.of #[T,_,BB,zG (hA T hT) zi,_,_,BB,(hd.stay s).stay (zy.same (x5 S)),_,_,BB,(B.stay s).stay (zy.same (x5 S)),BB]]
 stop:=λA2 H2 s _=>#[xs,ys,.of (zo _ _ (s.lst h)),.of (zo _ _ (s.lst h')),by rw[zhp,O.length,U.length];lia]
def zoL {B:AO}{x1}{tpos:Pos}{fs:AC}(O:Gl X "zip")(U:X.mg "zip" = none)(Y:JA X Pn M [a,b] fs)(hs:starEach [a,b] X.env=[(false,eval a X.env),(false,eval b X.env)]:=by rfl)(J:starEach [b] X.env=[(false,eval b X.env)]:=by rfl):JI X Pn M false (.Tuple B x1 tpos) (.Call (.Name "zip" p) [a,b] [] pos) (zoX fs):=by obtain⟨te,q,r⟩:=Y.ex;show#[_,zpY O U q hs J,#[λA G H D n Q R E P Z k=>?_]];show r.run A G H D n _ _ E P Z  ?_;rintro ws m vs H1 ⟨l,kk,e,r⟩ hv g;subst e;obtain⟨v,s,rfl,⟨ad,xs,rfl,F,hl⟩,v2,s2,rfl,⟨bd,ys,rfl,I,hk⟩,hs⟩:=hv;cases hs;show#[ad,bd,BB,#[xs,.of (zo _ _ F)],#[ys,.of (zo _ _ I)],k _ m _ H1 r (zlB F hl I hk) g]
def zuS (i:Nat)(f:AD):Ms:=λD n k=>(∃l,D[i]?=some (some (.d (.lst l))))/\f D n λw m=>∃l q,D[i]?=some (some (.d (.lst l)))/\w = .d (.lst q)/\l.length+q.length<=lim/\k.nx (D.set i (some (.d (.lst (l++q))))) m
def zne (i:Nat){x:Str}{ap U sp Y:Pos}(he:JE X Pn M fr' e f)(hi:i∈M:=by ext)(hN:X.N[i]?=some x:=by rfl)(hv:Vis X.env.scope x:=by fail"v")(hd:Ah x:=by ext)
  (al:(x==("__classdict__" : Str))=false:=by ext) (Z:starEach (e::[]) X.env=(false,eval e X.env)::starEach [] X.env:=by rfl) (hs:swapsWith (.Call (.Attribute (.Name x Y) "extend" ap) [e] [] U) none sp.line X.env=pure false:=by rfl) (J:attributeBase (.Name x Y) "extend" X.env (eval (.Name x Y) X.env)=eval (.Name x Y) X.env:=by rfl) (O:(ap.endLine==U.line)=true:=by rfl)
  (ac:((backTo U (starEach [e] X.env)).all (λx=>!x.1)&&(backToKw U (keywordEach [] X.env)).all (λx=>x.1.isSome)&&decide (([e]:AO).length+([]:List Keyword).length+(if ([]:List Keyword).isEmpty then 0 else 1)<30))=true:=by rfl) (I:(backTo U (starEach [] X.env)).any (·.1)=false:=by rfl) :
  JS X Pn S M fr (.Expr (.Call (.Attribute (.Name x Y) "extend" ap) [e] [] U) sp) (zuS i f):=by
 obtain⟨te,q,r⟩:=he.ex;show#[_,zgj (znx en PySem.F.slot_list_extend PySem.F.type_list_extend zjH (qv i hN hv hd al) (zZ q yR Z) J ac O Z I) hs,#[ ?_]];rintro B A G H D n k BH a kk ⟨⟨l0,e0⟩,hf⟩;obtain⟨ad,as,s1,hA,g0,_⟩:=a.own hi e0;show#[.ref ad,s1,.inl #[BB,_,SqL.of g0],?_];show r.run A G H D n _ _ a.env a.pn hf  ?_;rintro w m v H' ⟨l,l2,e,ed,hz,r⟩ hv g _;subst ed;have a':=a.step g;obtain⟨a0,xs,s2,_,g4,hl⟩:=a'.own hi e;rw[s1] at s2;cases s2;obtain⟨b2,ys,rfl,an,ag⟩:=hv;show#[ad,b2,xs,ys,BB,BB,g4,zo _ _ an,zdt (by rw[hl.length,ag.length];show hz),kk.nx A G _ _ m (a'.wr hi e s1 (hl.append ag)) r]
def zm9 {α:Type}(l:List α)(k:Nat)(x:α):List α:=l.take k++x::l.drop k
def zuU (i:Nat)(fk f:AD):Ms:=λD n k=>(∃l,D[i]?=some (some (.d (.lst l))))/\fk D n λy m=>f D m λw q=>∃l d j,D[i]?=some (some (.d (.lst l)))/\w = .d d/\y = .d (.int j)/\0<=j/\j<=l.length/\l.length<lim/\k.nx (D.set i (some (.d (.lst (zm9 l j.toNat d))))) q
def znf(i:Nat){x:Str}{ap U sp Y:Pos}(hc:JE X Pn M ag c fc)(he:JE X Pn M fr' e f)(hi:i∈M:=by ext)(hN:X.N[i]?=some x:=by rfl)(hv:Vis X.env.scope x:=by fail"v")(hd:Ah x:=by ext)(al:(x==("__classdict__" : Str))=false:=by ext)(Z:starEach (c::[e]) X.env=(false,eval c X.env)::starEach [e] X.env:=by rfl)(an:starEach (e::[]) X.env=(false,eval e X.env)::starEach [] X.env:=by rfl)(hs:swapsWith (.Call (.Attribute (.Name x Y) "insert" ap) [c,e] [] U) none sp.line X.env=pure false:=by rfl)(J:attributeBase (.Name x Y) "insert" X.env (eval (.Name x Y) X.env)=eval (.Name x Y) X.env:=by rfl)(O:(ap.endLine==U.line)=true:=by rfl)(ac:((backTo U (starEach [c,e] X.env)).all (λx=>!x.1)&&(backToKw U (keywordEach [] X.env)).all (λx=>x.1.isSome)&&decide (([c,e]:AO).length+([]:List Keyword).length+(if ([]:List Keyword).isEmpty then 0 else 1)<30))=true:=by rfl)(I:(backTo U (starEach [e] X.env)).any (·.1)=false:=by rfl) :
  JS X Pn S M fr (.Expr (.Call (.Attribute (.Name x Y) "insert" ap) [c,e] [] U) sp) (zuU i fc f):=by
 obtain⟨te,q,r⟩:=he.ex;obtain⟨tc,qc,rc⟩:=hc.ex;show#[_,zgj (znx en PySem.F.slot_list_insert PySem.F.type_list_insert zjI (qv i hN hv hd al) (zZ qc (zZ q yR an) Z) J ac O Z I) hs,#[ ?_]];rintro B A G H D n k BH a kk ⟨⟨l0,e0⟩,hf⟩;obtain⟨ad,a0,s1,hA,g0,_⟩:=a.own hi e0;show#[.ref ad,s1,.inl #[BB,_,SqL.of g0],?_];show rc.run A G H D n _ _ a.env a.pn hf λw1 m1 v1 H1 r1 as g1 _=>?_;have a1:=a.step g1;show r.run A G H1 D m1 _ _ a1.env a1.pn r1  ?_;rintro w m v H' ⟨l,d,j,e,ed,ey,j0,j1,hz,r⟩ hv g _;subst ed ey;have e1:v1 = .int j:=as;subst e1;have a':=a1.step g;obtain⟨a2,xs,s2,_,g4,hl⟩:=a'.own hi e;rw[s1] at s2;cases s2;show#[ad,xs,j,v,BB,BB,g4,j0,by rw[hl.length];show j1,zgZ (by rw[hl.length];show cH hz),kk.nx A G _ _ m (a'.wr hi e s1 ?_) r];show (hl.take _).append #[v,_,BB,hv.is,hl.drop _]
def ziP:AU->Mo W:=λB n Q=>∃ns:AG,B=[.d (.lst (ns.map .int))]/\ns.length<64/\∀q:AG,q.Perm ns->q.Pairwise (·<=·)->Q (.d (.lst (q.map .int))) n
def zqI:FL Pn true zkh ziP:=#[by
 rintro A H xs Z n Q R I b P ⟨ns,e,q,h⟩ k;subst e;obtain⟨v,rfl,J⟩:=zb6 b;obtain⟨a,ys,rfl,O,U⟩:=y4 J;obtain rfl:=U.of_ints;show#[a,ns,BB,O,q,λB Y hs p H' F g S=>k _ n _ H' (h B Y hs) (u7 (H:=H) IsL.ints (zy.same S) (I.new F) g) (Go.same P S) λz=>uK (H:=H) IsL.ints S F g]]
def ziR:AU->Mo W:=λB n Q=>∃ (BF:AF) (m:Nat),B=[.d (.lst (BF.map stD))]/\1<=m/\(∀st∈BF,st.length=m)/\BF.Nodup/\∀q:AF,q.Perm BF->(q.Pairwise λa b=>HT.lexLt a b=true)->Q (.d (zaB q)) n
def zqJ:FL Pn true zp6 ziR:=#[by
 rintro A H xs ws n Q R J b P ⟨BF,m,e,h1,U,F,h⟩ k;subst e;obtain⟨v,rfl,Y⟩:=zb6 b;obtain⟨a,ys,rfl,Z,hl⟩:=y4 Y;show#[a,ys,BF,m,BB,Z,hl.stay (zy.same zo),h1,U,F,λI q hy hp hs p H' O g S=>?_];have B:IsL (yg A H) (q.map stD) I:=zbe J.noT (xC q) hy;show k _ n _ H' (h q hp hs) (u7 B (zy.same S) (J.new O) g) (Go.same P S) λz=>uK B S O g]
def zoI:JE X Pn M true (.Dict [] [] pos) (mC (.dt [])):=#[_,zmi,#[λA G H D n Q R E P B k=>λp H' q g S=>k _ n _ H' B #[p,[],BB,zG (E.new q) g,BB] (Go.same P S) λ_=>#[p,BB,.of q,p,[],BB,g,BB]]]
def zia {κ:Type}[DecidableEq κ](BD:List (κ×Dt))(k:κ)(d:Dt):List (κ×Dt):=
 if (BD.any λkv=>decide (kv.1=k))=true then BD.map (λkv=>if kv.1=k then (kv.1,d) else kv) else BD++[(k,d)]
theorem zat.any {κ:Type}[DecidableEq κ]{BG:Hp}{k:κ}:∀ {BD:List (κ×Dt)} {ks:List (κ×V)},zat BG BD ks->(ks.any λkv=>decide (kv.1=k))=BD.any λkv=>decide (kv.1=k)
 | [],_,h=>by cases h;rfl
 | q::r,ks,⟨v,s,e,h1,h2⟩=>by subst e;rw[cY,cY,zat.any h2]
theorem zat.map1 {κ:Type}[DecidableEq κ]{BG:Hp}{k:κ}{d:Dt}{x:V}(F:Is BG d x):∀ {BD:List (κ×Dt)} {ks:List (κ×V)},zat BG BD ks->zat BG (BD.map λkv=>if kv.1=k then (kv.1,d) else kv) (ks.map λkv=>if kv.1=k then (kv.1,x) else kv)
 | [],_,h=>by cases h;rfl
 | q::r,ks,⟨v,s,e,h1,h2⟩=>by
  subst e;rw[aD,aD];by_cases B:q.1=k;rw[if_pos B,if_pos B];show#[x,_,BB,F,zat.map1 F h2];rw[if_neg B,if_neg B];show#[v,_,BB,h1,zat.map1 F h2]
theorem zat.snoc {κ:Type}{BG:Hp}{k:κ}{d:Dt}{x:V}(B:Is BG d x):∀ {BD:List (κ×Dt)} {ks:List (κ×V)},zat BG BD ks->zat BG (BD++[(k,d)]) (ks++[(k,x)])
 | [],_,h=>by cases h;show#[x,[],BB,B,BB]
 | q::r,ks,⟨v,s,e,h1,h2⟩=>by subst e;show#[v,_,BB,h1,zat.snoc B h2]
def zat.put{κ:Type}[DecidableEq κ]{k:κ}{BD:List (κ×Dt)}{ks:List (κ×V)}(h:zat BG BD ks)(q:Is BG d x):zat BG (zia BD k d) (zah ks k x):=by
 unfold zia zah;rw[h.any];split;show h.map1 q;show h.snoc q
theorem zat.len {κ:Type}{BG:Hp}:∀ {BD:List (κ×Dt)} {ks:List (κ×V)},zat BG BD ks->ks.length=BD.length
 | [],_,h=>by cases h;rfl
 | q::r,ks,⟨v,s,e,h1,h2⟩=>by subst e;rw[aJ,aJ,zat.len h2]
def At3.wrX(h:At3 Pn B S M A G H D n)(hi:i∈M)(e:D[i]?=some (some w))(s:G[i]?=some (some (.ref ad)))(hw:WAt (L2.upd H ad o) (yg A H) w' (.ref ad))(hm':w'.mut=true)(np:NP o)(nt:Mt o):At3 Pn B S M A G (L2.upd H ad o) (D.set i (some w')) n:=by
 obtain⟨v,s1,_,s3⟩:=h.env.val i w e;rw[s] at s1;cases s1;obtain⟨a2,e2,hA,_,_⟩:=s3 hi;cases e2;have hlen:i<D.length:=(ah.mp e).1
 have hE:EnvR A M G (L2.upd H ad o) (D.set i (some w')):=by
  show#[by rw[bI];show h.env.len,λj u ej=>?_,λj q u u' b hj hq hne e1 e2=>?_,λb hb=>?_];by_cases hj:j=i;subst hj;rw[aS hlen] at ej;cases ej;show#[.ref ad,s,λz=>absurd hi z,λ_=>#[ad,BB,hA,by change WAt _ _ _ _;rw[yx hA];show hw,hm']];rw[aB (Ne.symm hj)] at ej;obtain⟨v,t1,t2,t3⟩:=h.env.val j u ej;show#[v,t1,λz=>?_,λz=>?_];change WAt _ _ _ _;rw[yx hA];show t2 z;obtain⟨b,rfl,hb,hbb,hm⟩:=t3 z;have hne:b≠ad:=λq=>h.env.dis i j w u ad hi z (Ne.symm hj) e ej s (by rw[t1,q]);show#[b,BB,hb,?_,hm];change WAt _ _ _ _;rw[yx hA]
  cases u with
  | d x=>
   cases x with
   | lst l=>obtain⟨a2,xs,e2,g1,g2⟩:=hbb;cases e2;show#[b,xs,BB,by rw[zf hne];show g1,g2]
   | dct=>obtain⟨a2,xs,e2,g1,g2⟩:=hbb;cases e2;show#[b,xs,BB,by rw[zf hne];show g1,g2]
   | _=>cases hm
  | pen p=>cases hm
  | dk k=>obtain⟨a2,xs,e2,g1,g2⟩:=hbb;cases e2;show#[b,xs,BB,by rw[zf hne];show g1,g2]
  | dt k=>obtain⟨a2,xs,e2,g1,g2⟩:=hbb;cases e2;show#[b,xs,BB,by rw[zf hne];show g1,g2]
  | ss P w k=>obtain⟨a2,xs,e2,g1,g2⟩:=hbb;cases e2;show#[b,xs,BB,by rw[zf hne];show g1,g2]
  | df k=>obtain⟨a2,ob,xs,e2,g1,g2⟩:=hbb;cases e2;show#[b,ob,xs,BB,by right,g2]
  | kf k=>obtain⟨a2,ob,xs,e2,g1,g2⟩:=hbb;cases e2;show#[b,ob,xs,BB,by right,g2]
  | ad a x=>cases hm
  | tz BD x=>cases hm
  | fl k=>obtain⟨a2,ob,xs,e2,g1,g2⟩:=hbb;cases e2;show#[b,ob,xs,BB,by right,g2]
  have get:∀q (u:W),(D.set i (some w'))[q]?=some (some u)->∃u',D[q]?=some (some u'):=λq u z=>by
   by_cases hq:q=i;subst hq;show#[w,e];rw[aB (Ne.symm hq)] at z;show#[u,z]
  obtain⟨v1,f1⟩:=get j u e1;obtain⟨v2,f2⟩:=get q u' e2;show h.env.dis j q v1 v2 b hj hq hne f1 f2;by_cases hb':b=ad;subst hb';show#[_,zi,np,nt];rw[zf hb'];show h.env.al b hb
 show#[hE,#[h.frm.sub,h.frm.new,λb o eb nn nc=>?_,h.frm.al,h.frm.cn,λb z=>(by
  by_cases hb':b=ad;subst hb';show#[_,zi,np];rw[zf hb'];show h.frm.cs b z)],h.pn.upd hA,by rw[yx hA];show h.prot,h.fix,λj u b hj ej sj=>?_]
 have hne:b≠ad:=λq=>by
  subst q;rcases h.mine i w b hi e s with z | z;show z o eb nn;show nc z
 rw[zf hne];show h.frm.st b o eb nn nc;by_cases hj':j=i;subst hj';show h.mine j w b hj e sj;rw[aB (Ne.symm hj')] at ej;show h.mine j u b hj ej sj
def zjy (i:Nat)(fk f:AD):Ms:=λD n k=>(∃BD,D[i]?=some (some (.dt BD)))/\f D n λw m=>fk D m λy q=>∃BD st d,D[i]?=some (some (.dt BD))/\w = .d d/\y = .d (stD st)/\BD.length<lim/\k.nx (D.set i (some (.dt (zia BD st d)))) q
def zlH (i:Nat){x:Str}{np sp:Pos}(hu:X.A.units+1<cLine)(hk:JB X Pn M c fc)(he:JE X Pn M fr' e f)(hi:i∈M:=by ext)(hN:X.N[i]?=some x:=by rfl)(hv:Vis X.env.scope x:=by fail"v")(hd:Ah x:=by ext)
  (I:(x==("__classdict__" : Str))=false:=by ext) (hs:swapsWith e (some (.Subscript (.Name x np) c p)) sp.line X.env=pure false:=by rfl) :
  JS X Pn S M fr (.Assign [.Subscript (.Name x np) c p] e sp) (zjy i fc f):=by
 obtain⟨te,q,r⟩:=he.ex;obtain⟨tk,qk,rk⟩:=hk.ex;show#[_,zep hu (qv i hN hv hd I) qk q hs,#[ ?_]];rintro B A G H D n k BH a kk ⟨⟨l0,e0⟩,hf⟩;obtain⟨v0,J,_,o3⟩:=a.env.val i _ e0;obtain⟨O,rfl,hA,ag,_⟩:=o3 hi;show r.run A G H D n _ _ a.env a.pn hf λw m v H1 r1 U g1 _=>#[.ref O,J,?_];have Y:=a.step g1;show rk.run A G H1 D m _ _ Y.env Y.pn r1  ?_;rintro y m2 v2 H2 ⟨BD,st,d,e,ed,ey,hz,r2⟩ b2 g2;subst ed ey;have a2:=Y.step g2;obtain⟨v3,s3,_,o4⟩:=a2.env.val i _ e;rw[J] at s3;cases s3;obtain⟨al,e4,_,hb,_⟩:=o4 hi;cases e4;obtain⟨a5,ks,e5,Z,F⟩:=hb;cases e5;obtain⟨bd,xs,rfl,ac,hx⟩:=uH b2;obtain rfl:=hx.of_ints;show#[O,_,BB,zfE.i Z ac (zgZ (by rw[F.len];show cH hz)),kk.nx A G _ _ m2 (a2.wrX (w':=.dt (zia BD st d)) hi e J #[O,_,BB,zi,F.put (U.stay g2.st).is] BB (λk z=>by cases z) BB) r2]
end
end L3
namespace L3
open L2
section
variable {X:Cx}{Pn:PN}{M S:AR}{fr fr':Bool}{e a b c:Expr}{es:AO}{f fa fb fc:AD}{pos p:Pos}
def zvs(h1:QI X tg e q)(h2:QI X tg e B):QI X tg e (λG H R=>q G H R\/B G H R):=#[λBC s G H R I h=>h.elim (h1.run BC s G H R I) (h2.run BC s G H R I)]
def zuX (fa:AD):AC:=λD n Q=>ztM fa D n Q\/ztN fa D n Q
def znc(K:AH)(q:X.K=K)(h:JE X Pn M fr e f):JI X Pn M false tg e (zuX f):=by obtain⟨U,B,F⟩:=(zav (tg:=tg) K q h).ex;obtain⟨Y,I,J⟩:=(zeY (tg:=tg) K q h).ex;show#[_,zvs B I,#[λA G H D n Q R E P O k=>O.elim (λz=>.inl (F.run A G H D n Q R E P z k)) λz=>.inr (J.run A G H D n Q R E P z k)]]
def zoY (fa:AC):AC:=λD n Q=>fa D n λq m=>∃l k,q=[.d (.lst l),.d (.tup k)]/\l.length=k.length/\Q (ziW l k) m
def zoM {B:AO}{x1}{tpos:Pos}{fs:AC}(U:Gl X "zip")(Y:X.mg "zip" = none)(Z:JA X Pn M [a,b] fs)(hs:starEach [a,b] X.env=[(false,eval a X.env),(false,eval b X.env)]:=by rfl)(O:starEach [b] X.env=[(false,eval b X.env)]:=by rfl):JI X Pn M false (.Tuple B x1 tpos) (.Call (.Name "zip" p) [a,b] [] pos) (zoY fs):=by obtain⟨te,q,r⟩:=Z.ex;show#[_,zkc false U Y q hs O,#[λA G H D n Q R E P hf k=>?_]];show r.run A G H D n _ _ E P hf  ?_;rintro ws m vs H1 ⟨l,kk,e,F,r⟩ hv g;subst e;obtain⟨v,s,rfl,⟨ad,xs,rfl,I,hl⟩,v2,s2,rfl,⟨bd,ys,rfl,J,hk⟩,hs⟩:=hv;cases hs;show#[ad,bd,BB,#[xs,.of (zo _ _ I)],#[ys,.of (zo _ _ J)],k _ m _ H1 r (zgT F (λs=>.of (zo _ _ (s.lst I))) hl J hk) g]
def ziN:AU->Mo W:=λq n Q=>∃BD,q=[.dt BD]/\((BD.map (·.1)).Nodup->Q (.d (.lst ((BD.map (·.1)).map stD))) n)
theorem zat.keys {κ:Type}{BG:Hp}:∀ {BD:List (κ×Dt)} {ks:List (κ×V)},zat BG BD ks->ks.map (·.1)=BD.map (·.1)
 | [],_,h=>by cases h;rfl
 | q::r,_,⟨v,s,e,_,h⟩=>by subst e;rw[aD,aD,zat.keys h]
def zqH:FL Pn true zkf ziN:=#[by
 rintro A H xs ws n Q R J b P ⟨BD,Z,h⟩ k;subst Z;obtain⟨v,r,rfl,b1,b2⟩:=b;cases b2;obtain⟨ad,ks,rfl,F,I⟩:=b1;show#[ad,ks,BB,F,λO ys q p H' U g S=>?_];rw[I.keys] at O q;have B:=J.stay (zy.same S);have Y:=q.stay (zy.same S);show k _ n _ H' (h O) (Val.of #[p,ys,BB,zG (J.new U) g,zbe B.noT (xC _) Y]) (Go.same P S) λ_=>#[p,BB,.of U,p,ys,BB,g,zbe (λb xs z e=>?_) (xC _) Y];rcases z with z | z;show B.noT b xs z e;subst z;rw[g] at e;cases e]
def zuI(BH:DfnD X.K X.mg x st ps ds fA fd)(BG:FnOk X.prog X.w X.K X.mg X.base CX0 j fA fd ps (spV k fr F))(O:Room J X.A)(U:JA X Pn M (e::es) fs)(q:j<=J:=by ext)(Y:Gl X x:=by rfl)(B:Ah x:=by ext)(Z:starEach (e::es) X.env=(false,eval e X.env)::starEach es X.env:=by rfl)(I:(backTo pos (starEach es X.env)).any (·.1)=false:=by rfl) :
  JE X Pn M fr (.Call (.Name x p) (e::es) [] pos) (mFn k (F Pn) fs):=by
 obtain⟨ta,qa,ra⟩:=U.ex;show#[_,zny BH BG O qa q Y B Z I,zsJ ra]
def zo1 (i j:Nat):Ms:=λD n k=>∃w,D[j]?=some (some w)/\k.nx ((D.set j none).set i (some w)) n
def zu1 (i j:Nat)(fs:AC):Ms:=λD n k=>fs D n λq m=>∃w u,q=[w,u]/\k.nx ((D.set i (some w)).set j (some u)) m
def zng {i j:Nat}{x y:Str}{fs:AC}{px F I:Pos}{kt k2 pt2}(Z:X.calm=true)(hN:X.N.Nodup)(hi:X.N[i]?=some x)(hj:X.N[j]?=some y)(hx:X.env.scope.names.lookup x=some .local)(hy:X.env.scope.names.lookup y=some .local)(ha:JA X Pn M [a,b] fs)(J:i≠j:=by ext)(O:i∉M:=by ext)(U:j∉M:=by ext)(ac:i∉S:=by ext)(ad:j∉S:=by ext)
  (hw:swappedStores [.Tuple [.Name x px,.Name y F] kt I] (.Tuple [a,b] k2 pt2) X.env=pure (some [x,y]):=by rfl)
  (hs:swapsWithSole [.Tuple [.Name x px,.Name y F] kt I] (.Tuple [a,b] k2 pt2) pos.line X.env=pure false:=by rfl) :
  JS X Pn S M fr (.Assign [.Tuple [.Name x px,.Name y F] kt I] (.Tuple [a,b] k2 pt2) pos) (zu1 i j fs):=by
 obtain⟨ta,qa,ra⟩:=ha.ex;show#[_,#[zso Z hN hi hj J hx hy qa.run hw hs],#[λB A G H D n k BH a kk hf=>?_]];show ra.run A G H D n _ _ a.env a.pn hf  ?_;rintro ws m vs H1 ⟨w,u,e,r⟩ hv g;subst e;obtain⟨v,y,rfl,b1,b2⟩:=zqL hv;have Y:=a.step g;show#[v,y,BB,kk.nx A _ H1 _ m (EnvR.mineG Y ((Y.env.set O b1).set U b2) λq hq=>?_) r];have qi:i≠q:=λz=>by right
 have qj:j≠q:=λz=>by right
 right
end
end L3
namespace L3
open L2
def zgn (n w:Nat):List.range ((n+1) * w)=List.range w++(List.range (n * w)).map (w+·):=by rw[Nat.succ_mul,Nat.add_comm,List.range_add]
theorem zgI (w:Nat)(B:0<w):∀rows:AF,(List.range (rows.length * w)).map (λk=>rows.getD (k / w) []++[((k % w:Nat):Int)])=uJ rows (z8 w)
 | []=>by simp[uJ]
 | r::rows=>by
  have F:=zgI w B rows;have e:uJ (r::rows) (z8 w)=(z8 w).map (λv=>r++[v])++uJ rows (z8 w):=by unfold uJ;rw[List.flatMap_cons]
  rw[e,aJ,zgn,a9,aO,<- F];congr 1;unfold z8;rw[aO,aQ];apply cP;intro k I;have q:=aK.mp I;rw[Nat.div_eq_of_lt q,Nat.mod_eq_of_lt q];rfl;apply cP;right
structure StOk (rm st:AG):Prop where
 len:st.length=rm.length
 box:∀b:Int,0<=b->b<rm.length->0<=zN st b/\zN st b<zN rm b
def ue:∀ (ns:AG),(∀n∈ns,1<=n)->((zaD (ns.map z8)).length:Int)=yz ns:=by
 have:∀ (k:Nat) (ns:AG),ns.length=k->(∀n∈ns,1<=n)->((zaD (ns.map z8)).length:Int)=yz ns:=by
  intro k
  induction k with
  | zero=>intro ns e _;rw[aU e];rfl
  | succ k B=>
   intro ns e h
   obtain⟨m,x,rfl⟩:∃m x,ns=m++[x]:=by
    have q:ns≠[]:=by intro z;rw[z] at e;cases e
    show#[ns.dropLast,ns.getLast q,(bm q).symm]
   rw[aj] at e;rw[a9,aD,eO,xU,zdj,xl,zbl];have h1:=B m (by simpa using e) λn hn=>h n (bN _ hn);have h2:=h x (aT _ (by simp));rw[ek,h1,fN (by lia)]
 right
def zj5:∀ {ns:AG},(∀n∈ns,1<=n)->1<=yz ns:=λ{ns} h=>by
 have h1:=ue ns h
 have:∀ (ns:AG) (a:Int),1<=a->(∀n∈ns,1<=n)->1<=ns.foldl (· * ·) a:=by
  intro ns
  induction ns with
  | nil=>intro a q _;show q
  | cons n ns B=>
   intro a q hn;show B (a * n) ?_ λm F=>hn m (ar _ F);have:=hn n am;show Int.le_trans (by ext) (Int.mul_le_mul q this (by ext) (by lia))
 show this ns 1 (by ext) h
def zj6 {ns:AG}(q:ns≠[])(h:∀n∈ns,2<=n):2<=yz ns:=by
 obtain⟨m,x,rfl⟩:∃m x,ns=m++[x]:=#[ns.dropLast,ns.getLast q,(bm q).symm];rw[xl];have h1:=zj5 (ns:=m) λn hn=>by have:=h n (bN _ hn);lia
 have h2:=h x (aT _ (by simp));show Int.le_trans (by simp) (Int.mul_le_mul h1 h2 (by ext) (by lia))
def zot (a b:AG)(k:Nat):Wi:=#[((List.range a.length).filter λi=>!decide (i=k)).map λi:Nat=>((i:Int),a.getD i 0),(k:Int),b.getD k 0,a.getD k 0]
def zlr {rm a b:AG}{k:Nat}(J:StOk rm a)(O:StOk rm b)(U:k<a.length)(F:a.getD k 0≠b.getD k 0):WishOk rm (zot a b k):=by
 have Y:=J.len;have A:∀i:Nat,i<rm.length->0<=a.getD i 0/\a.getD i 0<zN rm (i:Int):=λi hi=>by have:=J.box (i:Int) (by lia) (by lia);rwa[zE] at this
 have Bb:∀i:Nat,i<rm.length->0<=b.getD i 0/\b.getD i 0<zN rm (i:Int):=λi hi=>by have:=O.box (i:Int) (by lia) (by lia);rwa[zE] at this
 have B:k<rm.length:=by lia
 show#[#[λq I=>?_,?_],by change (0:Int)<=(k:Int);lia,by change (k:Int)<_;lia,λq I=>?_,(Bb k B).1,(Bb k B).2,(A k B).1,(A k B).2,λz=>F z.symm];obtain⟨i,hi,rfl⟩:=aF.mp I;right;change List.Pairwise (λa b:Int×Int=>a.1<b.1) (((List.range a.length).filter λi=>!decide (i=k)).map λi:Nat=>((i:Int),a.getD i 0));rw[b6];show gl (R:=λi j:Nat=>i<j) (λ{i j} h=>?_) (List.Pairwise.filter _ List.pairwise_lt_range);grind;obtain⟨i,hi,rfl⟩:=aF.mp I;have:=(cB.mp hi).2;change (i:Int)≠(k:Int);grind
def zt7 (rm:AG)(bk:AW)(g:List (Int×Int)):AF:=(zuO rm g).filter λst=>decide (xY bk st (g.map (·.1))=[])
abbrev uF (bk:AW):Dt:=.tup (bk.map uv)
def za8 (rm:AG)(bk:AW):Prop:=∀x∈bk,WishOk rm x
def zg4 (x:Wi):(uv x).noL=true:=by have h:=zpb x.g;unfold uv;simp only[Dt.noL,Dt.noLs,fw,Bool.true_and] at h ⊢;show h
abbrev F_bett:FV:=λ_ q n R=>∃rm bk st hs,q=[.d (stD rm),.d (uF bk),.d (stD st),.d (stD hs)]/\RoomOk rm/\za8 rm bk/\st.length=rm.length/\R (.d (zaB (zbr bk st hs))) n
abbrev ztx:FV:=λ_ q n R=>∃rm bk g,q=[.d (stD rm),.d (uF bk),.d (ztG g)]/\RoomOk rm/\za8 rm bk/\Giv rm g/\R (.d (zaB (zt7 rm bk g))) n
def xF (r:Nat):zhS 0 r=(List.range r).map λk:Nat=>W.d (.int (k:Int)):=by
 unfold zhS;right
def uw{rows:AF}(h:i<rows.length):atI (rows.map stD) (i:Int)=some (stD (rows.getD i [])):=by
 show zgD ?_;right
def zgC {ns:AG}(I:ns.length<=8)(q:∀m∈ns,2<=m/\m<=4)(k:Nat):(zaD ((ns.take k).map z8)).length<=65536:=by
 have:=zkX (cs:=ns.map z8) (by right) (λc B=>by obtain⟨m,F,rfl⟩:=aF.mp B;have:=q m F;rw[zbl];lia) k;right
def zM{rows:AF}(h:i<rows.length):rows.getD i []∈rows:=by right
def zqX {L:AS}{a:Int}{BG:Dt->Prop}(q:0<=a)(h1:a<L.length)(h:∀x∈L,BG x):∃x,atI L a=some x/\BG x:=by obtain⟨d,h2,B⟩:=zqY q h1;show#[d,h2,h d B]
def zqd (rm:AG):Bool:=decide (rm≠[]/\rm.length<=8/\(∀r∈rm,2<=r/\r<=4)/\yz rm<=256)
def ur(rm:AG)(e:d=stD rm)(h:zqd rm=true):∃rm,d=stD rm/\RoomOk rm/\yz rm<=256:=by obtain⟨h1,h2,q,B⟩:=bK h;show#[rm,e,#[h1,h2,q],B]
def zbz:∀ {rm:AG},(∀r∈rm,2<=r/\r<=4)->yz rm<=256->rm.length<=8:=λ{rm} B I=>by
 have:∀ (k:Nat) (rm:AG),rm.length=k->(∀r∈rm,2<=r/\r<=4)->(2:Int) ^ k<=yz rm:=by
  intro k
  induction k with
  | zero=>intro rm e _;rw[aU e];decide
  | succ k F=>
   intro rm e B
   obtain⟨m,x,rfl⟩:∃m x,rm=m++[x]:=by
    have q:rm≠[]:=by intro z;rw[z] at e;cases e
    show#[rm.dropLast,rm.getLast q,(bm q).symm]
   rw[aj] at e;have h1:=F m (by simpa using e) λn hn=>B n (bN _ hn);have h2:=B x (aT _ (by simp));rw[xl,Int.pow_succ];have J:(0:Int)<=2 ^ k:=Int.pow_nonneg (by ext);show Int.mul_le_mul h1 h2.1 (by ext) (by lia)
 apply bR;intro hn;have h1:=this _ rm BB B
 have h2:(2:Int) ^ 9<=2 ^ rm.length:=by
  have:(2:Nat) ^ 9<=2 ^ rm.length:=dN (by ext) (by lia)
  exact_mod_cast this
 grind
def ziG {a b:AG}(B:a.length=b.length)(q:a≠b):∃k zx,((List.range a.length).filter λk=>!decide (a.getD k 0=b.getD k 0))=k::zx/\k<a.length/\a.getD k 0≠b.getD k 0:=by
 cases h:(List.range a.length).filter λk=>!decide (a.getD k 0=b.getD k 0) with
 | nil=>
  exfalso;apply q;apply eZ B;right
 | cons k zx=>
  have F:k∈(List.range a.length).filter λk=>!decide (a.getD k 0=b.getD k 0):=by rw[h];simp
  obtain⟨h1,h2⟩:=cB.mp F;right
def StOk.snoc {rm st:AG}{w v:Int}(h:StOk rm st)(I:0<=v)(J:v<w):StOk (rm++[w]) (st++[v]):=by
 have O:=h.len;show#[by right,λb q B=>?_];rw[aj] at B;by_cases F:b<(rm.length:Int);rw[zbv q (by lia),zbv q F];show h.box b q F
 have e:b=(rm.length:Int):=by
  have:b<(rm.length:Int)+1:=by simpa using B
  lia
 subst e;rw[zbu,<- O,zbu];show#[I,J]
def zhW {BF q B:AF}{k w:Nat}(I:k<BF.length)(hN:BF.Nodup)(h1:q.Nodup)(h2:∀x∈q,∃a∈BF.take k,∃v:Int,0<=v/\v<w/\x=a++[v])(h3:q.length=k * w)(J:B.Perm ((List.range w).map λv:Nat=>BF.getD k []++[(v:Int)])) :
  (q++B).Nodup/\(∀x∈q++B,∃a∈BF.take (k+1),∃v:Int,0<=v/\v<w/\x=a++[v])/\(q++B).length=(k+1) * w:=by
 have O:BF.getD k []=BF[k]:=by simp[I]
 have ht:BF.take (k+1)=BF.take k++[BF[k]]:=zw (ak I)
 have U:∀x∈B,∃v:Int,0<=v/\v<w/\x=BF[k]++[v]:=λx F=>by
  obtain⟨v,hv,rfl⟩:=aF.mp (J.mem_iff.mp F);right
 have nB:B.Nodup:=by
  show J.nodup_iff.mpr ?_;change List.Pairwise _ _;rw[b6];show gl (λ{a b} h e=>h ?_) dS;have:=List.append_cancel_left e;grind
 have ac:BF[k]∉BF.take k:=λz=>by have Y:=hN;rw[<- aX k BF,cA I] at Y;show (gm.mp Y).2.2 _ z _ am BB
 show#[gm.mpr #[h1,nB,λx F y hy e=>?_],λx F=>?_,?_];obtain⟨a,Z,v,_,_,rfl⟩:=h2 x F;obtain⟨u,_,_,rfl⟩:=U y hy;right;rw[ht];rcases ax.mp F with z | z;obtain⟨a,Z,r⟩:=h2 x z;show#[a,bN _ Z,r];obtain⟨v,r⟩:=U x z;show#[_,aT _ (by simp),v,r];rw[aj,h3,J.length_eq,ab,aA,Nat.succ_mul]
def xM {α q:Type}(f:α->q)(l:List α)(lo hi:AQ):y6 (l.map f) lo hi=(y6 l lo hi).map f:=by
 unfold y6;right
def y8 {α:Type}{l:List α}{lo hi:AQ}{x:α}(h:x∈y6 l lo hi):x∈l:=cF (bw h)
def yH {α:Type}(l:List α)(lo hi:AQ):(y6 l lo hi).length<=l.length:=by unfold y6;rw[bp,eX];lia
def zq4 {st:AG}{b w:Int}(q:0<=b):y6 st none (some b)++[w]++y6 st (some (b+1)) none=chg st b w:=by
 have h:=zil st (w:=w) q;have B:zdk (st.map V.int) none (some b)=(y6 st none (some b)).map V.int:=by rw[<- xM];rfl
 have F:zdk (st.map V.int) (some (b+1)) none=(y6 st (some (b+1)) none).map V.int:=by rw[<- xM];rfl
 rw[B,F] at h;have I:(y6 st none (some b)).map V.int++[V.int w]++(y6 st (some (b+1)) none).map V.int=(y6 st none (some b)++[w]++y6 st (some (b+1)) none).map V.int:=by rw[a9,a9];rfl
 rw[I] at h;show fW (by grind) |>.mp h
def zdw {l:AF}(h:l.Nodup){k:Nat}(q:k+1<l.length):l.getD k []≠l.getD (k+1) []:=by have:=bv.mp h k (k+1) (by lia) q (by lia);simpa [show k<l.length by lia,q] using this
def za8.cut{rm:AG}(h:za8 rm bk)(lo hi:AQ):za8 rm (y6 bk lo hi):=λx q=>h x (y8 q)
def za8.app{rm:AG}(h:za8 rm bk)(h':za8 rm q):za8 rm (bk++q):=λx B=>(ax.mp B).elim (h x) (h' x)
def za8.set{rm:AG}(h:za8 rm bk)(q:WishOk rm x)(i:Nat):za8 rm (bk.set i x):=λy B=>(List.mem_or_eq_of_mem_set B).elim (h y) λe=>e ▸ q
def za8.ins{rm:AG}(h:za8 rm bk)(q:WishOk rm x)(i:Nat):za8 rm (zm9 bk i x):=λy B=>by
 rcases ax.mp B with z | z;show h y (bw z);rcases ay.mp z with rfl | z;show q;show h y (cF z)
def zoC {α q:Type}(f:α->q)(l:List α)(i:Nat)(x:α):zm9 (l.map f) i (f x)=(zm9 l i x).map f:=by
 unfold zm9;right
def zoB {α:Type}(l:List α)(i:Nat)(x:α):(zm9 l i x).length=l.length+1:=by
 unfold zm9;grind
def zdV (n:Nat):AG:=(List.range n).map λi:Nat=>(i:Int)
def zfl (n:Nat):zmv n=(zdV n).map Dt.int:=by unfold zmv zdV;rw[aO];rfl
def zcf{x:Int}(h:x∈zdV n):0<=x/\x<n:=by
 obtain⟨i,hi,rfl⟩:=aF.mp h;grind
def yU (n:Nat):(zdV n).length=n:=by unfold zdV;rw[ab,aA]
def zcg (n:Nat):(zdV n).Nodup:=by unfold zdV;change List.Pairwise _ _;rw[b6];show gl (by grind) dS
def unI:Dt->Int
 | .int i=>i
 | _=>0
def zcF{xs:AG}(h:l.Perm (xs.map Dt.int)):∃ys:AG,l=ys.map Dt.int/\ys.Perm xs:=by
 show#[l.map unI,?_,?_];rw[aO];have:∀d∈l,(Dt.int ∘ unI) d=d:=λd q=>by obtain⟨x,_,rfl⟩:=aF.mp (h.mem_iff.mp q);rfl
 show (List.map_id'' (f:=Dt.int ∘ unI) (l:=l) |> λ_=>(cP this).trans (List.map_id l)).symm;have:=h.map unI;rw[aO] at this;have e:xs.map (unI ∘ Dt.int)=xs:=(cP λ_ _=>rfl).trans (List.map_id xs);rwa[e] at this
def u8 {α:Type}(l:List α)(k:Nat):y6 l none (some (k:Int))=l.take k:=by
 unfold y6;rw[HT.sIx_none,HT.sIx_nat,eK,Nat.sub_zero];grind
structure ParOk (rm:AG)(box:Int)(qs:AG):Prop where
 up:qs.Pairwise (· < ·)
 ok:∀q∈qs,0<=q/\q<rm.length/\q≠box
def ParOk.cut {rm:AG}{B:Int}{F:AG}(h:ParOk rm B F)(lo hi:AQ):ParOk rm B (y6 F lo hi):=
 #[(h.up.drop).take,λq I=>h.ok q (y8 I)]
def zr3{rm:AG}{bs ps F:AG}{t:AQ}(J:bs.Perm (zdV rm.length))(O:k<bs.length)(U:ps.Perm (bs.take k))(Y:F.Perm (y6 ps none t))(hu:F.Pairwise (·<=·)):ParOk rm (bs.getD k 0) F:=by
 have Z:bs.Nodup:=J.nodup_iff.mpr (zcg _);have np:ps.Nodup:=U.nodup_iff.mpr (Z.sublist (cw _ _));have nq:F.Nodup:=Y.nodup_iff.mpr ((np.sublist (eG _ _)).sublist (cw _ _));have B:bs.getD k 0=bs[k]:=by simp[O]
 show#[?_,λq I=>?_];show (List.Pairwise.and hu nq).imp λ{a b} h=>by obtain⟨h1,h2⟩:=h;lia
 have h1:q∈bs.take k:=U.mem_iff.mp (y8 (Y.mem_iff.mp I));have h2:=zcf (J.mem_iff.mp (bw h1));show#[h2.1,h2.2,λz=>?_];have hd:=Z;rw[<- aX k bs,cA O] at hd;show (gm.mp hd).2.2 _ h1 _ am (by rw[z,B])
def znX:∀ (ns st:AG),st∈zaD (ns.map z8)->StOk ns st:=by
 have:∀ (k:Nat) (ns:AG),ns.length=k->∀st,st∈zaD (ns.map z8)->StOk ns st:=by
  intro k
  induction k with
  | zero=>
   intro ns e st q;rw[aU e] at q ⊢;rw[ao.mp q];show#[BB,λb Y F=>absurd F (by simp;lia)]
  | succ k I=>
   intro ns e st q
   obtain⟨m,x,rfl⟩:∃m x,ns=m++[x]:=by
    have B:ns≠[]:=by intro z;rw[z] at e;cases e
    show#[ns.dropLast,ns.getLast B,(bm B).symm]
   rw[aj] at e;rw[a9,aD,eO,xU] at q;obtain⟨r,J,q⟩:=List.mem_flatMap.mp q;obtain⟨v,O,rfl⟩:=aF.mp q;obtain⟨j,U,rfl⟩:=aF.mp O;have:=aK.mp U;show (I m (by simpa using e) r J).snoc (by lia) (by lia)
 right
def zow {rm:AG}{I:Int}{B st:AG}(h:ParOk rm I B)(hs:StOk (B.map (zN rm)) st):Giv rm (B.zip st)/\∀q∈B.zip st,q.1≠I:=by
 have O:=hs.len;rw[ab] at O;have J:∀q∈B.zip st,q.1∈B:=λq F=>(fF F).1;show#[#[λq F=>?_,?_],λq F=>(h.ok _ (J q F)).2.2];obtain⟨i,hi,e⟩:=ck.mp F;rw[List.getElem_zip] at e;rw[List.length_zip] at hi;have h1:=h.ok _ (J q F);have h2:=hs.box (i:Int) (by lia) (by grind);have U:zN st (i:Int)=q.2:=by rw[zE,<- e];simp[show i<st.length by lia]
 have Y:zN (B.map (zN rm)) (i:Int)=zN rm q.1:=by rw[zE,<- e];simp[show i<B.length by lia]
 right;have e:(B.zip st).map (·.1)=B:=List.map_fst_zip (by lia);have:=h.up;rw[<- e,b6] at this;show this
theorem zhq:∀ (B st:AG),ziW (B.map Dt.int) (st.map Dt.int)=(B.zip st).map λq=>W.d (xQ q)
 | [],_=>by cases ‹AG› <;> rfl
 | _::_,[]=>rfl
 | q::B,s::st=>by change _::ziW (B.map Dt.int) (st.map Dt.int)=_::_;rw[zhq B st];rfl
def zpK {κ:Type}[DecidableEq κ](BD:List (κ×Dt))(k:κ)(d:Dt):(zia BD k d).length<=BD.length+1:=by
 unfold zia;split
 all_goals right
def zdp (bk:AW)(x:Wi)(st hs:AG):xY (bk++[x]) st hs=xY bk st hs++(if (zbd st x&&!hs.contains x.b)=true then [chg st x.b x.r] else []):=by
 unfold xY;grind
def zdl {ns:AG}:(Dt.lst (ns.map .int)).eqOk:=yq (ns:=ns)
def zn6{st:AG}{b x:Int}(q:0<=b)(B:st.length<=1000)(h:Q (.d (stD (chg st b x))) n):zfV (.d (.tup (y6 (st.map Dt.int) none (some b)))) (.d (.tup [.int x])) n λw m=>zfV w (.d (.tup (y6 (st.map Dt.int) (some (b+1)) none))) m Q:=by
 have F:=yH st none (some b);have I:=yH st (some (b+1)) none;rw[xM,xM];show#[_,_,BB,BB,by rw[ab];show aq (by simp;lia:_<=1001) (by ext),_,_,BB,BB,by rw[aj,ab,ab];show aq (by simp;lia:_<=2001) (by ext),?_];have e:(y6 st none (some b)).map Dt.int++[Dt.int x]++(y6 st (some (b+1)) none).map Dt.int=(chg st b x).map Dt.int:=by rw[<- zq4 q,a9,a9];rfl
 rw[e];show h
section
variable {X:Cx}{Pn:PN}{M S:AR}{fr fr':Bool}{e a b c:Expr}{es:AO}{f fa fb fc:AD}{pos p:Pos}
end
end L3
namespace L2
open PyProof.Rows
section
variable {prog:Aa}{w:Ab}{A:Ae}{E:AA}{R:Result->AZ->Prop}{s:AZ}
variable {X:Cx}{BC:AB}{G:St}{H:Hp}{a:Addr}{y v:V}{u r:Value}{o:Option V}
variable {Fam:Cx->Prop}{scope:Scope}{N:AM}{BE:List (Option Nat)}{z:Str}{use:Option (Value->Sem Unit)}{Qp:AA}{elt ke ve tg iter tg2 iter2:Expr}{ifs ifs2:AO}{pos ipos spos px:Pos}{wi wi2:TI}{g g2:TG}{ti ti2:TT}{te tk tv:TE}{Q:VK}{o0:HO}
end
end L2
namespace L3
open L2
section
variable {X:Cx}{Pn:PN}{M S:AR}{fr fr':Bool}{e a b c:Expr}{es:AO}{f fa fb fc:AD}{pos p:Pos}
def zrh (mg:W->Ev->(Ev->Prop)->Prop)(U:Ev->Mo Bool)(fk fv:AD)(J:Ev)(Q:AV):AU->Nat->Prop:=λl Y=>l.length<=lim/\∃I:Nat->Ev->Nat->List (AG×Dt)->Prop,I 0 J Y []/\
 (∀i w B F acc,l[i]?=some w->I i B F acc->mg w B λq=>U q F λb O=>if b=true then fk q O λy Z=>fv q Z λx n4=>∃st d,y = .d (stD st)/\x = .d d/\I (i+1) q n4 (zia acc st d) else I (i+1) q O acc)/\
 ∀ B F acc,I l.length B F acc->Q (.dt acc) F
abbrev zuR (q:AC) (mg:W->Ev->(Ev->Prop)->Prop) (B:Ev->Mo Bool) (fk fv:AD) (BE:List (Option Nat)):AD:=λD n Q=>q D n (zrh mg B fk fv (zh9 D BE) Q)
def zrg (mg:W->Ev->(Ev->Prop)->Prop)(U:Ev->Mo Bool)(fk fv:AD)(J:Ev)(Q:AV):AU->Nat->Prop:=λl Y=>l.length<=lim/\∃I:Nat->Ev->Nat->List (Key×Dt)->Prop,I 0 J Y []/\
 (∀i w B F acc,l[i]?=some w->I i B F acc->mg w B λq=>U q F λb O=>if b=true then fk q O λy Z=>fv q Z λx n4=>∃ (j:Int) (d:Dt),y = .d (.int j)/\x = .d d/\I (i+1) q n4 (zia acc (Sum.inl j) d) else I (i+1) q O acc)/\
 ∀ B F acc,I l.length B F acc->Q (.dk acc) F
abbrev zuQ (q:AC) (mg:W->Ev->(Ev->Prop)->Prop) (B:Ev->Mo Bool) (fk fv:AD) (BE:List (Option Nat)):AD:=λD n Q=>q D n (zrg mg B fk fv (zh9 D BE) Q)
end
abbrev onI (w:W) (P:Int->Prop):Prop:=match w with | .d (.int i)=>P i | _=>False
abbrev onB (w:W) (P:Bool->Prop):Prop:=match w with | .d (.bl i)=>P i | _=>False
abbrev onT (w:W) (P:AS->Prop):Prop:=match w with | .d (.tup i)=>P i | _=>False
abbrev onL (w:W) (P:AS->Prop):Prop:=match w with | .d (.lst i)=>P i | _=>False
abbrev onS (w:W) (P:AS->Prop):Prop:=match w with | .d (.lst i)=>P i | .d (.tup i)=>P i | _=>False
abbrev onD (w:W) (P:Dt->Prop):Prop:=match w with | .d i=>P i | _=>False
abbrev onK (w:W) (P:List (Key×Dt)->Prop):Prop:=match w with | .dk i=>P i | _=>False
abbrev onE (w:W) (P:List (AG×Dt)->Prop):Prop:=match w with | .dt i=>P i | _=>False
abbrev onO {α:Type} (o:Option α) (P:α->Prop):Prop:=match o with | some i=>P i | none=>False
abbrev onC (c:Bool) (A B:Prop):Prop:=match c with | true=>A | false=>B
abbrev on1 (l:AU) (P:W->Prop):Prop:=match l with | [a]=>P a | _=>False
abbrev on2 (l:AU) (P:W->W->Prop):Prop:=match l with | [a,b]=>P a b | _=>False
abbrev onV:Ev->Nat->(W->Prop)->Prop
 | [],_,_=>False
 | a::_,0,P=>onO a P
 | _::r,i+1,P=>onV r i P
abbrev onP:Ev->Nat->W->(Ev->Prop)->Prop
 | [],_,_,Q=>Q []
 | _::r,0,w,Q=>Q (some w::r)
 | a::r,i+1,w,Q=>onP r i w λq=>Q (a::q)
abbrev onN:Ev->Nat->(Ev->Prop)->Prop
 | [],_,Q=>Q []
 | _::r,0,Q=>Q (none::r)
 | a::r,i+1,Q=>onN r i λq=>Q (a::q)
abbrev zcA {α:Type}:Nat->List α->Prop->Prop
 | 0,[],P=>P
 | k+1,_::r,P=>zcA k r P
 | _,_,_=>False
def x8{P:Int->Prop}:onI w P = ∃i,w = .d (.int i)/\P i:=propext #[λh=>by rcases w with (x|x|x|x|_|_) <;> first | show False.elim h | (cases x <;> first | show False.elim h | show#[_,BB,h]),by right]
def zfb:onB w P = ∃i,w = .d (.bl i)/\P i:=propext #[λh=>by rcases w with (x|x|x|x|_|_) <;> first | show False.elim h | (cases x <;> first | show False.elim h | show#[_,BB,h]),by rintro⟨i,e,h⟩;subst e;show h]
def zaq:onT w P = ∃i,w = .d (.tup i)/\P i:=propext #[λh=>by rcases w with (x|x|x|x|_|_) <;> first | show False.elim h | (cases x <;> first | show False.elim h | show#[_,BB,h]),by right]
def xE:onL w P = ∃i,w = .d (.lst i)/\P i:=propext #[λh=>by rcases w with (x|x|x|x|_|_) <;> first | show False.elim h | (cases x <;> first | show False.elim h | show#[_,BB,h]),by right]
def zfe:onS w P = ∃i,(w = .d (.lst i)\/w = .d (.tup i))/\P i:=propext #[λh=>by rcases w with (x|x|x|x|_|_) <;> first | show False.elim h | (cases x <;> first | show False.elim h | show#[_,.inl BB,h] | show#[_,.inr BB,h]),by rintro⟨i,e,h⟩;rcases e with e | e <;> subst e <;> show h]
def xD:onD w P = ∃i,w = .d i/\P i:=propext #[λh=>by cases w <;> first | show False.elim h | show#[_,BB,h],by right]
def zno{P:List (AG×Dt)->Prop}:onE w P = ∃i,w = .dt i/\P i:=propext #[λh=>by cases w <;> first | show False.elim h | show#[_,BB,h],by right]
def zfd {α:Type}{w:Option α}{P:α->Prop}:onO w P = ∃i,w=some i/\P i:=propext #[λh=>by cases w <;> first | show False.elim h | show#[_,BB,h],by right]
def zcz{A B:Prop}:onC c A B=if c=true then A else B:=by cases c <;> simp[onC]
def uQ:on1 l P = ∃a,l=[a]/\P a:=propext #[λh=>by rcases l with (_|⟨a,_|⟨b,l⟩⟩) <;> first | show False.elim h | show#[_,BB,h],by right]
def zg7:on2 l P = ∃a b,l=[a,b]/\P a b:=propext #[λh=>by rcases l with (_|⟨a,_|⟨b,_|⟨c,l⟩⟩⟩) <;> first | show False.elim h | show#[_,_,BB,h],by right]
theorem zbw:∀ {D:Ev} {i:Nat} {P:W->Prop},onV D i P = ∃w,D[i]?=some (some w)/\P w
 | [],i,P=>by simp[onV]
 | some w::r,0,P=>by simp[onV]
 | none::r,0,P=>by simp[onV]
 | some w::r,i+1,P=>by simpa [onV] using zbw (D:=r) (i:=i) (P:=P)
 | none::r,i+1,P=>by simpa [onV] using zbw (D:=r) (i:=i) (P:=P)
theorem uR:∀ {D:Ev} {i:Nat} {w:W} {Q:Ev->Prop},onP D i w Q=Q (D.set i (some w))
 | [],i,w,Q=>rfl
 | a::r,0,w,Q=>rfl
 | a::r,i+1,w,Q=>by rw[onP,uR];rfl
theorem znp:∀ {D:Ev} {i:Nat} {Q:Ev->Prop},onN D i Q=Q (D.set i none)
 | [],i,Q=>rfl
 | a::r,0,Q=>rfl
 | a::r,i+1,Q=>by rw[onN,znp];rfl
theorem zbY {α:Type}:∀ {k:Nat} {l:List α} {P:Prop},zcA k l P=(l.length=k/\P)
 | 0,[],P=>by simp[zcA]
 | 0,a::r,P=>by simp[zcA]
 | k+1,[],P=>by simp[zcA]
 | k+1,a::r,P=>by simp[zcA,zbY (l:=r)]
def yG {P:Prop}[Decidable P]{A B:Prop}(h1:P->A)(h2:¬ P->B):onC (decide P) A B:=by
 by_cases h:P
 all_goals right
def zeh {P:Prop}[Decidable P]{A B:Prop}(h1:¬ P->A)(h2:P->B):onC (!decide P) A B:=by
 by_cases h:P
 all_goals right
def zjR{A B:Prop}(h1:c=true->A)(h2:c=false->B):onC c A B:=by
 cases c;show h2 BB;show h1 BB
def zfc{A B:Prop}(h1:c=false->A)(h2:c=true->B):onC (!c) A B:=by
 cases c;show h1 BB;show h2 BB
def zve{A B:Prop}(h:c=true)(h1:A):onC c A B:=by subst h;show h1
def zvd{A B:Prop}(h:c=false)(h1:B):onC c A B:=by subst h;show h1
def xO {α:Type}{o:Option α}{a:α}{P:α->Prop}(e:o=some a)(h:P a):onO o P:=by subst e;show h
def onA{st:AG}{b:Int}(q:0<=b)(h1:b<st.length)(h:P (.int (zN st b))):onO (atI (st.map Dt.int) b) P:=xO (znZ q h1) h
def zjQ {L:AS}{a:Int}{P:Dt->Prop}(q:0<=a)(h1:a<L.length)(h:∀x∈L,P x):onO (atI L a) P:=by obtain⟨x,e,B⟩:=zqX q h1 h;show xO e B
section
variable {X:Cx}{Pn:PN}{M S:AR}{fr fr':Bool}{e a b c:Expr}{es:AO}{f fa fb fc g:AD}{pos p:Pos}{t u:Ev->Mo Bool}{fs gs:AC}
def wE (h:f=g)(j:JE X Pn M fr e f):JE X Pn M fr e g:=h ▸ j
def wB (h:f=g)(j:JB X Pn M e f):JB X Pn M e g:=h ▸ j
def wT (h:t=u)(j:JT X Pn M e t):JT X Pn M e u:=h ▸ j
def wW (h:t=u)(j:JW X Pn M e t):JW X Pn M e u:=h ▸ j
def wO {f g:Ev->Mo AQ}{e:Option Expr}(h:f=g)(j:JO X Pn M e f):JO X Pn M e g:=h ▸ j
def wG {f g:W->Ev->(Ev->Prop)->Prop}(h:f=g)(j:JG X S M e f):JG X S M e g:=h ▸ j
def wH {f g:AS->Ev->(Ev->Prop)->Prop}(h:f=g)(j:JGs X S M es f):JGs X S M es g:=h ▸ j
def wI(h:fs=gs)(j:JI X Pn M q tg e fs):JI X Pn M q tg e gs:=h ▸ j
def wS {s:Stmt}{f g:Ms}(h:f=g)(j:JS X Pn S M fr s f):JS X Pn S M fr s g:=h ▸ j
abbrev zkW (i:Nat):AD:=λD n Q=>onV D i λw=>Q w n
def zjF:zrJ i=zkW i:=by funext D n Q;show zbw.symm
def kv (i:Nat){x:Str}(hi:i∉M:=by ext)(B:X.N[i]?=some x:=by rfl)(F:Vis X.env.scope x:=by fail"v")(I:Ah x:=by ext)
  (q:(x==("__classdict__" : Str))=false:=by ext):JE X Pn M false (.Name x pos) (zkW i):=wE zjF (zuL i hi B F I q)
def kb(i:Nat)(B:X.N[i]?=some x:=by rfl)(F:Vis X.env.scope x:=by fail"v")(I:Ah x:=by ext)(q:(x==("__classdict__" : Str))=false:=by ext):JB X Pn M (.Name x pos) (zkW i):=wB zjF (zuG i B F I q)
abbrev zup (fa:AD):Ev->Mo Bool:=λD n Q=>fa D n λx m=>onB x λc=>Q c m
def zk:zo7 fa=zup fa:=by funext D n Q;simp only[zo7,zup,zfb]
abbrev dAnd (t u:Ev->Mo Bool):Ev->Mo Bool:=λD n Q=>t D n λc m=>onC c (u D m Q) (Q false m)
def zax:ztK t u=dAnd t u:=by funext D n Q;simp only[ztK,dAnd,zcz]
abbrev dOr (t u:Ev->Mo Bool):Ev->Mo Bool:=λD n Q=>t D n λc m=>onC c (Q true m) (u D m Q)
def uP:mOr t u=dOr t u:=by funext D n Q;simp only[mOr,dOr,zcz]
abbrev dNot (t:Ev->Mo Bool):Ev->Mo Bool:=λD n Q=>t D n λc m=>onC c (Q false m) (Q true m)
def uk:zu0 t=dNot t:=by funext D n Q;simp only[zu0,dNot];congr 1;funext c m;cases c <;> rfl
abbrev zq5 (fa fb:AD):AD:=λD n Q=>fa D n λx m=>onB x λc=>onC c (fb D m Q) (Q (.d (.bl false)) m)
def zbV:zoU fa fb=zq5 fa fb:=by funext D n Q;simp only[zoU,zq5,zcz,zfb]
abbrev dOrV (fa fb:AD):AD:=λD n Q=>fa D n λx m=>onB x λc=>onC c (Q (.d (.bl true)) m) (fb D m Q)
abbrev zrb (fa:AD):AD:=λD n Q=>fa D n λx m=>onB x λc=>Q (.d (.bl (!c))) m
def zlT:zo3 fa=zrb fa:=by funext D n Q;simp only[zo3,zrb,zfb]
abbrev dIf (t:Ev->Mo Bool) (fa fb:AD):AD:=λD n Q=>t D n λc m=>onC c (fa D m Q) (fb D m Q)
abbrev dI (C:Int->Int->Prop) (g:Int->Int->Dt):W->W->Mo W:=λx y n Q=>onI x λi=>onI y λj=>C i j/\Q (.d (g i j)) n
def zoi {C:Int->Int->Prop}{g:Int->Int->Dt}:fI C g=dI C g:=by funext x y n Q;simp only[dI,x8];show propext #[by rintro⟨i,j,q,B,h⟩;show#[i,q,j,B,h],by rintro⟨i,q,j,B,h⟩;show#[i,j,q,B,h]]
abbrev dI0 (g:Int->Int->Dt):W->W->Mo W:=λx y n Q=>onI x λi=>onI y λj=>Q (.d (g i j)) n
def zdm {g:Int->Int->Dt}:fI0 g=dI0 g:=by funext x y n Q;simp only[dI0,x8];show propext #[by rintro⟨i,j,q,B,h⟩;show#[i,q,j,B,h],by rintro⟨i,q,j,B,h⟩;show#[i,j,q,B,h]]
def xu:F2 Pn false (rI0 λi j=>.int (i+j)) (dI0 λi j=>.int (i+j)):=zdm ▸ zvS
def zmO:F2 Pn false (rI0 λi j=>.int (i - j)) (dI0 λi j=>.int (i - j)):=zdm ▸ zv4
def zqC:F2 Pn false (rI zmX λi j=>.int (i * j)) (dI zmX λi j=>.int (i * j)):=zoi ▸ zv1
def znP:F2 Pn false (rI zqQ λi j=>.int (i / j)) (dI zqQ λi j=>.int (i / j)):=zoi ▸ ztq
def zmL:F2 Pn false (rI (λ_ j=>0<j) λi j=>.int (i % j)) (dI (λ_ j=>0<j) λi j=>.int (i % j)):=zoi ▸ zv0
def ztj:F2 Pn false (rI0 λi j=>.bl (decide (i<j))) (dI0 λi j=>.bl (decide (i<j))):=zdm ▸ v_lt
def zvR:F2 Pn false (rI0 λi j=>.bl (decide (i<=j))) (dI0 λi j=>.bl (decide (i<=j))):=zdm ▸ v_le
def zvM:F2 Pn false (rI0 λi j=>.bl (decide (i > j))) (dI0 λi j=>.bl (decide (j<i))):=zdm ▸ v_gt
def u_ge:F2 Pn false (rI0 λi j=>.bl (decide (i ≥ j))) (dI0 λi j=>.bl (decide (j<=i))):=zdm ▸ v_ge
abbrev zum:W->Mo W:=λx n Q=>onI x λi=>Q (.d (.int (-i))) n
def zkL:F1 Pn false (rU λi=>.int (-i)) zum:=(show zuA=zum by funext x n Q;simp only[zuA,zum,x8]) ▸ zv3
abbrev dEq:W->W->Mo W:=λx y n Q=>onD x λa=>onD y λb=>onO (sEq a b) λr=>Q (.d (.bl r)) n
def zrl:fEq=dEq:=by
 funext x y n Q;simp only[fEq,dEq,xD,zfd];right
abbrev dNe:W->W->Mo W:=λx y n Q=>onD x λa=>onD y λb=>onO (sEq a b) λr=>Q (.d (.bl (!r))) n
def zrn:fNe=dNe:=by
 funext x y n Q;simp only[fNe,dNe,xD,zfd];right
def zbR:F2 Pn false rEq dEq:=zrl ▸ v_eq
def zmM:F2 Pn false rNe dNe:=zrn ▸ v_ne
abbrev zub:W->W->Mo W:=λx y n Q=>onD x λa=>onD y λb=>a.eqOk/\b.eqOk/\∀r:Bool,(r=true↔a=b)->Q (.d (.bl r)) n
abbrev zul:W->W->Mo W:=λx y n Q=>onD x λa=>onD y λb=>a.eqOk/\b.eqOk/\∀r:Bool,(r=true↔a=b)->Q (.d (.bl (!r))) n
def zoh:zut=zub:=by
 funext x y n Q;simp only[zut,zub,xD];right
def zoo:zuz=zul:=by
 funext x y n Q;simp only[zuz,zul,xD];right
def zqA:F2 Pn false ztS zub:=zoh ▸ zvU
def zqD:F2 Pn false ztU zul:=zoo ▸ zv2
abbrev dIsB:W->W->Mo W:=λx y n Q=>onB x λa=>onB y λb=>Q (.d (.bl (a==b))) n
abbrev zuf:W->W->Mo W:=λx y n Q=>onB x λa=>onB y λb=>Q (.d (.bl (a != b))) n
abbrev zud:W->W->Mo W:=λx y n Q=>onI x λb=>onS y λl=>∃ns:AG,l=ns.map .int/\Q (.d (.bl (ns.contains b))) n
abbrev zfQ:W->W->Mo W:=λx y n Q=>onI x λb=>onS y λl=>∃ns:AG,l=ns.map .int/\Q (.d (.bl (!ns.contains b))) n
def zok:zuv=zud:=by funext x y n Q;simp only[zuv,zud,x8,zfe];show propext #[by rintro⟨a,b,q,B,h⟩;show#[a,q,_,B,b,BB,h],by rintro⟨a,q,l,B,b,e,h⟩;subst e;show#[a,b,q,B,h]]
def zhB:zfW=zfQ:=by funext x y n Q;simp only[zfW,zfQ,x8,zfe];show propext #[by rintro⟨a,b,q,B,h⟩;show#[a,q,_,B,b,BB,h],by rintro⟨a,q,l,B,b,e,h⟩;subst e;show#[a,b,q,B,h]]
def zvQ:F2 Pn false (rIn K false) zud:=zok ▸ zvW
def zmN:F2 Pn false (rIn K true) zfQ:=zhB ▸ zmR
abbrev xr:Bool->Bool->Bool
 | false,b=>b
 | true,b=>!b
abbrev zuc (q:Bool):W->W->Mo W:=λx y n Q=>onD x λd=>onS y λds=>d.eqOk/\(Dt.lst ds).eqOk/\∀b:Bool,(b=true↔d∈ds)->Q (.d (.bl (xr q b))) n
def ztv {q b:Bool}:(if q then !b else b)=xr q b:=by cases q <;> rfl
def zoj:zuu q=zuc q:=by
 funext x y n Q;simp only[zuu,zuc,xD,zfe,ztv];right
def zvO:F2 Pn false (zvv q) (zuc q):=zoj ▸ zvV
abbrev zq8:W->W->Mo W:=λx y n Q=>onT x λl=>onI y λi=>onO (atI l i) λd=>Q (.d d) n
abbrev zui:W->W->Mo W:=λx y n Q=>onL x λl=>onI y λi=>onO (atI l i) λd=>Q (.d d) n
def zom:zux=zq8:=by
 funext x y n Q;simp only[zux,zq8,zaq,x8,zfd];right
def zol:zuw=zui:=by
 funext x y n Q;simp only[zuw,zui,xE,x8,zfd];right
def ud:F2 Pn false (zsD K) zq8:=zom ▸ zvY
def yM:F2 Pn false (ztT K) zui:=zol ▸ zvX
abbrev zob:W->W->Mo W:=λx y n Q=>onT x λl=>onT y λm=>l.length+m.length<=lim/\Q (.d (.tup (l++m))) n
abbrev zoa:W->W->Mo W:=λx y n Q=>onL x λl=>onL y λm=>l.length+m.length<=lim/\Q (.d (.lst (l++m))) n
def zln:zfV=zob:=by
 funext x y n Q;simp only[zfV,zob,zaq];right
def zlm:zog=zoa:=by
 funext x y n Q;simp only[zog,zoa,xE];right
def zbJ:F2 Pn false (zmn K) zob:=zln ▸ ztp
def uC:F2 Pn true zp2 zoa:=zlm ▸ zto
abbrev zoc:W->W->Mo W:=λx y n Q=>onT x λl=>onI y λj=>(1<=j/\j<=1000000/\l.length * j.toNat<=lim)/\Q (.d (.tup (List.replicate j.toNat l).flatten)) n
abbrev dRepL:W->W->Mo W:=λx y n Q=>onL x λl=>onI y λj=>(0<=j/\j<=1000000/\l.length * j.toNat<=lim)/\Q (.d (.lst (List.replicate j.toNat l).flatten)) n
def zlo:zop=zoc:=by
 funext x y n Q;simp only[zop,zoc,zaq,x8,and_assoc];right
def znR:F2 Pn false zp5 zoc:=zlo ▸ zts
def ws1:on1 q P = ∃a,q=[a]/\P a:=uQ
abbrev zuj:AU->Mo W:=λq n Q=>on1 q λx=>onO (lenD x) λk=>Q (.d (.int (k:Int))) n
def zon:zuy=zuj:=by
 funext ws n Q;simp only[zuy,zuj,uQ,zfd];right
def yQ:FL Pn false (λxs H Q=>∃x n,xs=[x]/\ztz K x H n/\Q (.int n) H) zuj:=zon ▸ zvZ
abbrev dAbs:AU->Mo W:=λq n Q=>on1 q λx=>onI x λi=>Q (.d (.int (if i<0 then -i else i))) n
abbrev dMin:AU->Mo W:=λq n Q=>on2 q λx y=>onI x λi=>onI y λj=>Q (.d (.int (if j<i then j else i))) n
abbrev dMax:AU->Mo W:=λq n Q=>on2 q λx y=>onI x λi=>onI y λj=>Q (.d (.int (if j > i then j else i))) n
abbrev zua:AU->Mo W:=λq n Q=>on1 q λx=>onL x λl=>∃bs:List Bool,l=bs.map .bl/\Q (.d (.bl (bs.all id))) n
def zof:zus=zua:=by funext ws n Q;simp only[zus,zua,uQ,xE];show propext #[by rintro⟨x,e,h⟩;show#[_,e,_,BB,x,BB,h],by right]
def zvL:FL Pn false (λxs H Q=>∃ (p:Addr) (bs:List Bool),xs=[.ref p]/\H p=some (.lst (bs.map V.bl))/\Q (.bl (bs.all id)) H) zua:=zof ▸ zvT
abbrev zq9:AU->Mo W:=λq n Q=>on1 q λx=>onS x λl=>Q (.d (.lst l)) n
abbrev zm4:AU->Mo W:=λq n Q=>on1 q λx=>onS x λl=>Q (.d (.tup l)) n
def zs0:(∃l,(q=[.d (.lst l)]\/q=[.d (.tup l)])/\P l)=on1 q λx=>onS x P:=by
 simp only[uQ,zfe];grind
def znQ:FL Pn true (zkg K) zq9:=(show zrm=zq9 by funext ws n Q;show zs0) ▸ ztr
def xT:FL Pn false (zgm K) zm4:=(show zm8=zm4 by funext ws n Q;show zs0) ▸ zqK
abbrev dDictT:AU->Mo W:=λq n Q=>on1 q λx=>onT x λl=>∃ps:List (Int×Dt),l=ps.map prD/\(ps.map (·.1)).Nodup/\ps.length<=1000/\Q (.dk (ps.map kvD)) n
abbrev dInt1:AU->Mo W:=λq n Q=>on1 q λx=>match x with
 | .d (.int i)=>Q (.d (.int i)) n
 | .d (.bl b)=>Q (.d (.int (if b then 1 else 0))) n
 | _=>False
abbrev ziz:AU->Mo W:=λB n Q=>on1 B λx=>onL x λl=>∃ns:AG,l=ns.map .int/\ns.length<64/\∀q:AG,q.Perm ns->q.Pairwise (·<=·)->Q (.d (.lst (q.map .int))) n
def ziQ:ziP=ziz:=by funext ws n Q;simp only[ziP,ziz,uQ,xE];show propext #[by rintro⟨x,e,h⟩;show#[_,e,_,BB,x,BB,h],by right]
def zqE:FL Pn true zkh ziz:=ziQ ▸ zqI
abbrev ziA:AU->Mo W:=λB n Q=>on1 B λx=>onL x λl=>∃ (BF:AF) (m:Nat),l=BF.map stD/\1<=m/\(∀st∈BF,st.length=m)/\BF.Nodup/\∀q:AF,q.Perm BF->(q.Pairwise λa b=>HT.lexLt a b=true)->Q (.d (zaB q)) n
def ziS:ziR=ziA:=by funext ws n Q;simp only[ziR,ziA,uQ,xE];show propext #[by rintro⟨x,m,e,h⟩;show#[_,e,_,BB,x,m,BB,h],by right]
def zqF:FL Pn true zp6 ziA:=ziS ▸ zqJ
abbrev ziy:AU->Mo W:=λq n Q=>on1 q λx=>onE x λBD=>((BD.map (·.1)).Nodup->Q (.d (.lst ((BD.map (·.1)).map stD))) n)
def ziO:ziN=ziy:=by funext ws n Q;simp only[ziN,ziy,uQ,zno];show propext #[by right,by right]
def zqB:FL Pn true zkf ziy:=ziO ▸ zqH
end
section
variable {fa fb fc f fk fd fv:AD}{t u:Ev->Mo Bool}{fs gs:AC}
abbrev zrc (fa:AD):Ev->Mo AQ:=λD n Q=>fa D n λx m=>onI x λi=>Q (some i) m
def zD:zo4 fa=zrc fa:=by funext D n Q;simp only[zo4,zrc,x8]
abbrev dSlT (fa:AD) (fl q:Ev->Mo AQ):AD:=λD n Q=>fa D n λx B=>fl D B λlo F=>q D F λhi I=>onT x λl=>Q (.d (.tup (y6 l lo hi))) I
def zcu {fl q:Ev->Mo AQ}:zu4 fa fl q=dSlT fa fl q:=by funext D n Q;simp only[zu4,dSlT,zaq]
abbrev dSlL (fa:AD) (fl q:Ev->Mo AQ):AD:=λD n Q=>fa D n λx B=>fl D B λlo F=>q D F λhi I=>onL x λl=>Q (.d (.lst (y6 l lo hi))) I
def yh {fl q:Ev->Mo AQ}:zu3 fa fl q=dSlL fa fl q:=by funext D n Q;simp only[zu3,dSlL,xE]
abbrev dRevT (fa:AD):AD:=λD n Q=>fa D n λx m=>onT x λl=>Q (.d (.tup l.reverse)) m
abbrev zre (fa:AD):AD:=λD n Q=>fa D n λx m=>onL x λl=>Q (.d (.lst l.reverse)) m
def zbW:zo6 fa=zre fa:=by funext D n Q;simp only[zo6,zre,xE]
abbrev dDGet (fd fk:AD):AD:=λD n Q=>fd D n λx q=>fk D q λy B=>onK x λBD=>onO (ztI y) λk=>onO (zc4 BD k) λd=>Q (.d d) B
abbrev dDIn (q:Bool) (fk fd:AD):AD:=λD n Q=>fk D n λy B=>fd D B λx F=>onK x λBD=>onO (ztI y) λk=>Q (.d (.bl (xr q (zc4 BD k).isSome))) F
abbrev dFn (k:Nat) (F:AU->Mo W) (fs:AC):AD:=λD n Q=>fs D n λq m=>zcA k q (F q m Q)
def zm:mFn k F fs=dFn k F fs:=by funext D n Q;simp only[mFn,dFn,zbY]
abbrev dFnB (k:Nat) (fr:Bool) (F:AU->Mo W) (fs:AC):AD:=λD n Q=>fs D n λq m=>zcA k q (F q m λw B=>W.flat fr w=true/\Q w B)
abbrev eN (i:Nat):W->Ev->(Ev->Prop)->Prop:=λw D Q=>onP D i w Q
def yf:gN i=eN i:=by funext w D Q;show uR.symm
abbrev eNl:AS->Ev->(Ev->Prop)->Prop:=λds D Q=>match ds with | []=>Q D | _=>False
def zdn:gNl=eNl:=by
 funext ds D Q
 cases ds with
 | nil=>simp[gNl,eNl]
 | cons _ _=>simp[gNl,eNl]
abbrev eCn (g:W->Ev->(Ev->Prop)->Prop) (u:AS->Ev->(Ev->Prop)->Prop):AS->Ev->(Ev->Prop)->Prop:=λds D Q=>match ds with | d::r=>g (.d d) D λq=>u r q Q | []=>False
def xz {g:W->Ev->(Ev->Prop)->Prop}{u:AS->Ev->(Ev->Prop)->Prop}:gCn g u=eCn g u:=by
 funext ds D Q
 cases ds with
 | nil=>simp[gCn,eCn]
 | cons d r=>show propext #[by rintro⟨d',q,e,h⟩;cases e;show h,λh=>#[d,r,BB,h]]
abbrev eTp (n:Nat) (u:AS->Ev->(Ev->Prop)->Prop):W->Ev->(Ev->Prop)->Prop:=λw D Q=>onT w λds=>zcA n ds (u ds D Q)
def zdo {n:Nat}{u:AS->Ev->(Ev->Prop)->Prop}:gTp n u=eTp n u:=by funext w D Q;simp only[gTp,eTp,zaq,zbY]
abbrev zug (fa:AD):AC:=λD n Q=>fa D n λx m=>onL x λl=>Q (l.map W.d) m
abbrev zuh (fa:AD):AC:=λD n Q=>fa D n λx m=>onT x λl=>Q (l.map W.d) m
def zay:ztM fa=zug fa:=by funext D n Q;simp only[ztM,zug,xE]
def zcs:ztN fa=zuh fa:=by funext D n Q;simp only[ztN,zuh,zaq]
abbrev dItR (fs:AC):AC:=λD n Q=>fs D n λq m=>on1 q λx=>onI x λj=>(j<=1000000/\-1000000<=j)/\Q (zhS 0 j.toNat) m
def yJ:zuW fs=dItR fs:=by funext D n Q;simp only[zuW,dItR,uQ,x8];congr 1;funext ws m;show propext #[by right,by right]
abbrev dItR2 (fs:AC):AC:=λD n Q=>fs D n λq m=>on2 q λx y=>onI x λi=>onI y λj=>(j<=1000000/\-1000000<=j/\i<=1000000/\-1000000<=i)/\Q (zhS i (j - i).toNat) m
abbrev dItE (fs:AC):AC:=λD n Q=>fs D n λq m=>on1 q λx=>onT x λl=>Q (enW 0 l) m
abbrev dItEL (fs:AC):AC:=λD n Q=>fs D n λq m=>on1 q λx=>onL x λl=>Q (enW 0 l) m
def zoW:zuV fs=dItE fs:=by funext D n Q;simp only[zuV,dItE,uQ,zaq];congr 1;funext ws m;show propext #[by right,by right]
abbrev dItZ (fs:AC):AC:=λD n Q=>fs D n λq m=>on2 q λx y=>onT x λl=>onT y λk=>l.length=k.length/\Q (ziW l k) m
abbrev zq7 (fs:AC):AC:=λD n Q=>fs D n λq m=>on2 q λx y=>onL x λl=>onT y λk=>l.length=k.length/\Q (ziW l k) m
abbrev zq6 (fs:AC):AC:=λD n Q=>fs D n λq m=>on2 q λx y=>onL x λl=>onL y λk=>Q (ziW l k) m
def zoZ:zuY fs=dItZ fs:=by funext D n Q;simp only[zuY,dItZ,zg7,zaq];congr 1;funext ws m;show propext #[by rintro⟨i,j,e,h⟩;show#[_,_,e,i,BB,j,BB,h],by rintro⟨x,y,e,i,q,j,B,h⟩;subst q B;show#[i,j,e,h]]
def zlR:zoY fs=zq7 fs:=by funext D n Q;simp only[zoY,zq7,zg7,zaq,xE];congr 1;funext ws m;show propext #[by rintro⟨i,j,e,h⟩;show#[_,_,e,i,BB,j,BB,h],by rintro⟨x,y,e,i,q,j,B,h⟩;subst q B;show#[i,j,e,h]]
def zlQ:zoX fs=zq6 fs:=by funext D n Q;simp only[zoX,zq6,zg7,xE];congr 1;funext ws m;show propext #[by rintro⟨i,j,e,h⟩;show#[_,_,e,i,BB,j,BB,h],by rintro⟨x,y,e,i,q,j,B,h⟩;subst q B;show#[i,j,e,h]]
abbrev dIfS (t:Ev->Mo Bool) (f g:Ms):Ms:=λD n k=>t D n λc m=>onC c (blk f D m k) (blk g D m k)
def zr {f g:Ms}:zuT t f g=dIfS t f g:=by funext D n k;simp only[zuT,dIfS,zcz]
abbrev zuo (i:Nat):Ms:=λD n k=>onV D i λw=>k.rt w n
def zd6:zo5 i=zuo i:=by funext D n k;show zbw.symm
abbrev dSet (i:Nat) (f:AD):Ms:=λD n k=>f D n λw m=>onP D i w λq=>k.nx q m
def zn:zqS f (gN i)=dSet i f:=by change zqS f (gN i)=zqS f (eN i);rw[yf]
abbrev dOwn (i:Nat) (f:AD):Ms:=λD n k=>f D n λw m=>onC (W.mut w) (onP D i w λρ'=>k.nx ρ' m) False
def xo:zrI i f=dOwn i f:=by funext D n k;simp only[zrI,dOwn,uR (Q:=λρ'=>k.nx ρ' _)];congr 1;funext w m;cases h:W.mut w <;> simp
abbrev dApp (i:Nat) (f:AD):Ms:=λD n k=>onV D i λv=>onL v λl=>f D n λw m=>onD w λd=>l.length<lim/\onP D i (.d (.lst (l++[d]))) λq=>k.nx q m
def zd4:(onV D i λv=>onL v P) = ∃l,D[i]?=some (some (.d (.lst l)))/\P l:=by simp only[zbw,xE];show propext #[by right,by right]
def zrj{P:List (AG×Dt)->Prop}:(onV D i λv=>onE v P) = ∃l,D[i]?=some (some (.dt l))/\P l:=by simp only[zbw,zno];show propext #[by right,by right]
def zjw:ztL i f=dApp i f:=by
 funext D n k;simp only[ztL,dApp,zd4,xD,uR (Q:=λq=>k.nx q _)];show propext #[λ⟨⟨l,e⟩,h⟩=>#[l,e,?_],λ⟨l,e,h⟩=>#[#[l,e],?_]]
 all_goals
  right
abbrev dExt (i:Nat) (f:AD):Ms:=λD n k=>onV D i λv=>onL v λl=>f D n λw m=>onL w λB=>l.length+B.length<=lim/\onP D i (.d (.lst (l++B))) λq=>k.nx q m
def zjA:zuS i f=dExt i f:=by
 funext D n k;simp only[zuS,dExt,zd4];simp only[xE,uR (Q:=λq=>k.nx q _)];show propext #[λ⟨⟨l,e⟩,h⟩=>#[l,e,?_],λ⟨l,e,h⟩=>#[#[l,e],?_]]
 all_goals
  right
abbrev dIns (i:Nat) (fk f:AD):Ms:=λD n k=>onV D i λv=>onL v λl=>fk D n λy m=>f D m λw B=>onD w λd=>onI y λj=>(0<=j/\j<=l.length/\l.length<lim)/\onP D i (.d (.lst (zm9 l j.toNat d))) λq=>k.nx q B
def zjB:zuU i fk f=dIns i fk f:=by
 funext D n k;simp only[zuU,dIns,zd4,xD,x8,uR (Q:=λq=>k.nx q _)];show propext #[λ⟨⟨l,e⟩,h⟩=>#[l,e,?_],λ⟨l,e,h⟩=>#[#[l,e],?_]]
 all_goals
  show (congrArg (fk D n) ?_).mp h;funext y m;show congrArg (f D m) ?_;funext w m2;show propext ?_;simp[e,and_assoc]
abbrev dPopS (i:Nat) (fk:AD):Ms:=λD n k=>onV D i λv=>onL v λl=>fk D n λy m=>onI y λj=>(0<=j/\j<l.length/\l.length<=lim)/\onP D i (.d (.lst (l.eraseIdx j.toNat))) λq=>k.nx q m
abbrev ztF (i:Nat):Ms:=λD n k=>onV D i λv=>onL v λl=>onP D i (.d (.lst l.reverse)) λq=>k.nx q n
abbrev dPut (i:Nat) (fk f:AD):Ms:=λD n k=>onV D i λv=>onL v λl=>f D n λw m=>fk D m λy B=>onD w λd=>onI y λj=>(0<=j/\j<l.length)/\onP D i (.d (.lst (l.set j.toNat d))) λq=>k.nx q B
def zjE:zu2 i fk f=dPut i fk f:=by
 funext D n k;simp only[zu2,dPut,zd4,xD,x8,uR (Q:=λq=>k.nx q _)];show propext #[λ⟨⟨l,e⟩,h⟩=>#[l,e,?_],λ⟨l,e,h⟩=>#[#[l,e],?_]]
 all_goals
  show (congrArg (f D n) ?_).mp h;funext y m;show congrArg (fk D m) ?_;funext w m2;show propext ?_;simp[e,and_assoc]
abbrev onSt (w:W) (P:AG->Prop):Prop:=∃st,w = .d (stD st)/\P st
abbrev dDGetT (fd fk:AD):AD:=λD n Q=>fd D n λx q=>fk D q λy B=>onE x λBD=>∃st,y = .d (stD st)/\onO (zc4 BD st) λd=>Q (.d d) B
abbrev zm3 (i:Nat) (fk f:AD):Ms:=λD n k=>onV D i λv=>onE v λBD=>f D n λw m=>fk D m λy B=>onD w λd=>∃st,y = .d (stD st)/\BD.length<lim/\onP D i (.dt (zia BD st d)) λq=>k.nx q B
def zjz:zjy i fk f=zm3 i fk f:=by
 funext D n k;simp only[zjy,zm3,zrj,xD,uR (Q:=λB=>k.nx B _)];show propext #[λ⟨⟨l,e⟩,h⟩=>#[l,e,?_],λ⟨l,e,h⟩=>#[#[l,e],?_]]
 all_goals
  show (congrArg (f D n) ?_).mp h;funext y m;show congrArg (fk D m) ?_;funext w m2;show propext ?_;constructor
 rintro⟨BD,st,d,q,F,I,h1,h2⟩;rw[e] at q;cases q;show#[d,F,st,I,h1,h2];right;right;rintro⟨BD,st,d,q,F,I,h1,h2⟩;rw[e] at q;cases q;show#[d,F,st,I,h1,h2]
abbrev zra (i j:Nat):Ms:=λD n k=>onV D j λw=>onN D j λq=>onP q i w λB=>k.nx B n
def zlS:zo1 i j=zra i j:=by funext D n k;simp only[zo1,zra,zbw,uR (Q:=λq=>k.nx q _),znp (Q:=λB=>k.nx (B.set i (some _)) n)]
abbrev dPar (i j:Nat) (fs:AC):Ms:=λD n k=>fs D n λF m=>on2 F λw u=>onP D i w λq=>onP q j u λB=>k.nx B m
def zjD:zu1 i j fs=dPar i j fs:=by funext D n k;simp only[zu1,dPar,zg7,uR (Q:=λq=>k.nx q _),uR (Q:=λB=>k.nx (B.set j (some _)) _)]
abbrev dIsi (B:Dt->Bool) (f:AD):AD:=λD n Q=>f D n λw m=>onD w λd=>Q (.d (.bl (B d))) m
def uj:znm B f=dIsi B f:=by funext D n Q;simp only[znm,dIsi,xD]
abbrev zgJ (fs:AC):AD:=λD n Q=>fs D n λq m=>on1 q λx=>onI x λj=>(0<=j/\j<=1000)/\Q (.d (.lst (zmv j.toNat))) m
abbrev zrf (fs:AC):AD:=λD n Q=>fs D n λq m=>on1 q λx=>onI x λj=>(0<=j/\j<=1000)/\Q (.d (.tup (zmv j.toNat))) m
def zsQ {q:AU}{P:Nat->Prop}:(∃j:Nat,q=[.d (.int (j:Int))]/\j<=1000/\P j)=on1 q λx=>onI x λj=>(0<=j/\j<=1000)/\P j.toNat:=by simp only[uQ,x8];show propext #[by rintro⟨j,e,h1,h⟩;show#[_,e,_,BB,#[by lia,by lia],by simpa using h],by rintro⟨x,e,j,B,⟨h1,h2⟩,h⟩;show#[j.toNat,by grind,by lia,h]]
def zct:zd5 fs=zgJ fs:=by funext D n Q;simp only[zd5,zgJ];congr 1;funext ws m;show zsQ (P:=λj=>Q (.d (.lst (zmv j))) m)
abbrev dTru (f:AD):Ev->Mo Bool:=λD n Q=>f D n λw m=>onO (truD w) λb=>Q b m
abbrev zm2 (F BG:W->W->Mo W) (fa fb fc:AD):AD:=λD n Q=>fa D n λx B=>fb D B λy I=>F x y I λz q=>onB z λk=>onC k (fc D q λu J=>BG y u J Q) (Q (.d (.bl false)) q)
def zjx:zg1 F BG fa fb fc=zm2 F BG fa fb fc:=by funext D n Q;simp only[zg1,zm2,zfb,zcz]
def zgG{α:Type}(xs:List α)(F:α->W)(hl:l=xs.map F)(U:xs.length<=lim)(I:Nat->Ev->Nat->AS->Prop)(h0:I 0 O n [])(h:∀i a q J acc,xs[i]?=some a->I i q J acc->∀C:Ev->Nat->AS->Prop,(∀ {D m l},I (i+1) D m l->C D m l)->mg (F a) q λB=>Y B J λb n2=>onC b (Z B n2 λx n3=>onD x λd=>C B n3 (acc++[d])) (C B n2 acc))(fin:∀ q J acc,I xs.length q J acc->Q (.d (.lst acc)) J):zdO mg Y Z O Q l n:=by
 show zk9 xs F hl U I h0 (λi a q J acc ha hI C hC=>?_) fin;have:=h i a q J acc ha hI C hC;simp only[zcz,xD] at this;show this
def zfN{α:Type}(xs:List α)(F:α->W)(hl:l=xs.map F)(J:Ev->Prop)(P:α->Bool)(E:α->Dt)(O:xs.length<=lim)(j0:J I)(h:∀a∈xs,∀ B,J B->∀C:Ev->Nat->Option Dt->Prop,(∀ {q},P a=true->J q->C q n (some (E a)))->(∀ {q},P a=false->J q->C q n none)->mg (F a) B λq=>U q n λb Z=>onC b (Y q Z λx n3=>onD x λd=>C q n3 (some d)) (C q Z none))(fin:Q (.d (.lst ((xs.filter P).map E))) n):zdO mg U Y I Q l n:=by
 show zio xs F hl J P E O j0 (λa ha B hj C hC=>?_) fin;have:=h a ha B hj C (λ{q} e z=>by right) λ{q} e z=>by have:=hC q z;rwa[if_neg (by rw[e];decide)] at this
 simp only[zcz,xD] at this;show this
def zb8{α:Type}(xs:List α)(F:α->W)(Y:l=xs.map F)(J:Ev->Prop)(E:α->Dt)(O:xs.length<=lim)(Z:J I)(h:∀a∈xs,∀ B,J B->∀C:Ev->Nat->Dt->Prop,(∀ {q},J q->C q n (E a))->mg (F a) B λq=>U q n λx n3=>onD x λd=>C q n3 d)(fin:Q (.d (.lst (xs.map E))) n):zdO mg ztP U I Q l n:=by
 show zla xs F Y J E O Z (λa ha B hj C hC=>?_) fin;have:=h a ha B hj C λ{q} z=>hC q z;simp only[xD] at this;show this
end
abbrev rep:Nat->(Ev->Prop)->Prop
 | 0,Q=>Q []
 | k+1,Q=>rep k λD=>Q (none::D)
abbrev beg:AU->Nat->(Ev->Prop)->Prop
 | [],r,Q=>rep r Q
 | w::q,r,Q=>beg q r λD=>Q (some w::D)
theorem zkl:∀ {r:Nat} {Q:Ev->Prop},rep r Q=Q (List.replicate r none)
 | 0,Q=>rfl
 | r+1,Q=>by rw[rep,zkl];rfl
theorem zm1:∀ {q:AU} {r:Nat} {Q:Ev->Prop},beg q r Q=Q (q.map some++List.replicate r none)
 | [],r,Q=>by rw[beg,zkl];rfl
 | w::q,r,Q=>by rw[beg,zm1];rfl
def znn {P:Aa}{w:Ab}{K:AH}{mg:AI}{base:Heap}{I:Str}{st:Stmt}{f:Addr}{fd:Ac}{N ps:AM}{k m:Nat}{fr:Bool}{F:PN->AU->Mo W}(M:AR)(r:Nat)(U:(∀vs H Q E,spV m fr F vs H Q E->vs.length=ps.length)->(∀ (B:Value) (A:Ae) (q:List Env) (s:AZ) (H:Hp) (vs:AT) (Q:VK) (E:XK),Room k (A.deeper (PyProof.Rows.envOfC I (zd st) s.heap.objs.size f B))->spV m fr F vs H Q E->
   ∃t,QSs (zeG CX0 P w K mg base N I (zd st) f B A q s H E).nox (zC st) t/\t { nx:=λ_ H'=>Q .non H',rt:=Q } (L2.xx N vs) H)->FnOk P w K mg base CX0 (k+1) f fd ps (spV m fr F)) (Y:m=ps.length) (Z:∀i∈M,m<=i) (hN:N.length=m+r)
  (J:∀ (B:Value) (A:Ae) (q:List Env) (s:AZ) (H:Hp) (E:XK) (Pn:PN),Room k (A.deeper (PyProof.Rows.envOfC I (zd st) s.heap.objs.size f B))->
   ∃fs,JSs (zeG CX0 P w K mg base N I (zd st) f B A q s H E).nox Pn [] M fr (zC st) fs/\∀O n R,F Pn O n R->beg O r λD=>fs D n { nx:=λ_ n'=>onC fr False (R (.d .non) n'),rt:=R }):FnOk P w K mg base CX0 (k+1) f fd ps (spV m fr F):=by
 show zrO M U Y Z λB A q s H E Pn hr=>?_;obtain⟨fs,h1,h2⟩:=J B A q s H E Pn hr;show#[fs,h1,λO n R hl hF=>?_];have:=h2 O n R hF;rw[zm1] at this;have e:za3 N O=O.map some++List.replicate r none:=by unfold za3;rw[hN,hl,Nat.add_sub_cancel_left]
 grind
def Fun.okW(M:AR)(r:Nat)(Fu:Fun K x q st f fd)(S:FnScope N ps (zd st))(U:m=ps.length)(Y:∀i∈M,m<=i)(Z:N.length=m+r)(B:∀ (J:Value) (A:Ae) (I:List Env) (s:AZ) (H:Hp) (E:XK) (Pn:PN),Room k (A.deeper (PyProof.Rows.envOfC q (zd st) s.heap.objs.size f J))->
   ∃fs,JSs (zeG CX0 P w K mg base N q (zd st) f J A I s H E).nox Pn [] M fr (zC st) fs/\∀O n R,F Pn O n R->beg O r λD=>fs D n { nx:=λ_ n'=>onC fr False (R (.d .non) n'),rt:=R }):FnOk P w K mg base CX0 (k+1) f fd ps (spV m fr F):=znn M r (λl b=>Fun.okQ Fu S l b) U Y Z B
def FunD.okW(M:AR)(r:Nat)(Fu:FunD K x q st f fd)(S:FnScope N ps (zd st))(U:m=ps.length)(Y:∀i∈M,m<=i)(Z:N.length=m+r)(B:∀ (J:Value) (A:Ae) (I:List Env) (s:AZ) (H:Hp) (E:XK) (Pn:PN),Room k (A.deeper (PyProof.Rows.envOfC q (zd st) s.heap.objs.size f J))->
   ∃fs,JSs (zeG CX0 P w K mg base N q (zd st) f J A I s H E).nox Pn [] M fr (zC st) fs/\∀O n R,F Pn O n R->beg O r λD=>fs D n { nx:=λ_ n'=>onC fr False (R (.d .non) n'),rt:=R }):FnOk P w K mg base CX0 (k+1) f fd ps (spV m fr F):=znn M r (λl b=>FunD.okQ Fu S l b) U Y Z B
abbrev dItS (i:Nat):AC:=λD n Q=>onV D i λx=>onS x λl=>Q (l.map W.d) n
def zjC:zuX (zkW i)=dItS i:=by
 funext D n Q;simp only[zuX,zay,zcs,zug,zuh,dItS,zbw,zfe,xE,zaq];grind
def zsN{fs:Ms}(h:rep r λD=>fs (a::b::D) n k):fs (a::b::List.replicate r none) n k:=by rw[zkl] at h;show h
def zvb {BG:Prop}(b:Nat)(P:Nat->Prop)(h:(∀a,a<=b->P a)->BG)(r:∀a,a<=b->P a):BG:=h r
def zrL {BG:Prop}(P:W->Prop)(h:(∀a,P a)->BG)(r:∀a,P a):BG:=h r
def zrK {α:Type}{BG:Prop}(C:α->Prop)(P:α->Prop)(h:(∀a,C a->P a)->BG)(r:∀a,C a->P a):BG:=h r
def ztJ {st:AG}{x:Dt}(h:st.length<=1000):(st.map Dt.int).length+[x].length<=lim:=by rw[ab];show aq (by simp;lia:_<=1001) (by ext)
def ztD {st:AG}{x:Int}:st.map Dt.int++[Dt.int x]=(st++[x]).map Dt.int:=by right
def onX{rows:AF}{i:Int}(q:0<=i)(h1:i<rows.length)(h:P (stD (rows.getD i.toNat []))):onO (atI (rows.map stD) i) P:=by obtain⟨j,rfl⟩:∃j:Nat,i=j:=#[i.toNat,by lia];show xO (uw (by lia)) h
def zn7 {st:AG}{b x:Int}(q:0<=b)(B:st.length<=1000):y6 (st.map Dt.int) none (some b)++[Dt.int x]++y6 (st.map Dt.int) (some (b+1)) none=(chg st b x).map Dt.int:=by
 have key:∀z:W,zfV (.d (.tup (y6 (st.map Dt.int) none (some b)))) (.d (.tup [.int x])) 0 (λw m=>zfV w (.d (.tup (y6 (st.map Dt.int) (some (b+1)) none))) m λw' _=>w' = .d (stD (chg st b x))):=λz=>zn6 q B BB;obtain⟨l,m,F,I,_,J,O,U,Y,_,h⟩:=key (.d .non);grind
def zk7 {st:AG}{b:Int}{x:Dt}(q:st.length<=1000):(y6 (st.map Dt.int) none (some b)).length+[x].length<=lim:=by have:=yH (st.map Dt.int) none (some b);rw[ab] at this;show aq (by simp;lia:_<=1001) (by ext)
def zk8{st:AG}{b c:Int}(q:st.length<=1000):(y6 (st.map Dt.int) none (some b)++[x]).length+(y6 (st.map Dt.int) (some c) none).length<=lim:=by have h1:=yH (st.map Dt.int) none (some b);have h2:=yH (st.map Dt.int) (some c) none;rw[ab] at h1 h2;rw[aj];show aq (by simp;lia:_<=2001) (by ext)
def scR (mg:W->Ev->(Ev->Prop)->Prop)(U:Ev->Mo Bool)(Y:AD)(J:Ev)(Q:AF->Nat->Prop):AU->Nat->Prop:=λl Z=>∃I:Nat->Ev->Nat->AF->Prop,I 0 J Z []/\
 (∀i w q F acc,l[i]?=some w->I i q F acc->mg w q λB=>U B F λb O=>if b=true then Y B O λx n3=>∃st,x = .d (stD st)/\I (i+1) B n3 (acc++[st]) else I (i+1) B O acc)/\
 (∀i q F acc ks,I i q F acc->List.Nodup ks->(∀z∈ks,z∈acc)->ks.length<300)/\
 ∀ q F acc ks,I l.length q F acc->List.Nodup ks->(∀z,z∈ks↔z∈acc)->Q ks F
abbrev zu5 (q:AC) (mg:W->Ev->(Ev->Prop)->Prop) (B:Ev->Mo Bool) (F:AD) (BE:List (Option Nat)):AD:=λD n Q=>q D n (scR mg B F (zh9 D BE) λks I=>∃m,ks.length<64/\1<=m/\(∀st∈ks,st.length=m)/\∀l':AF,l'.Perm ks->(l'.Pairwise λa b=>HT.lexLt a b=true)->Q (.d (zaB l')) I)
section
variable {X:Cx}{Pn:PN}{M S:AR}{fr fr':Bool}{pos p:Pos}
end
abbrev dGetI (fd fk q:AD):AD:=λD n Q=>fd D n λx B=>onK x λBD=>fk D B λy F=>q D F λz I=>onO (ztI y) λk=>onI z λi=>Q (.d ((zc4 BD k).getD (.int i))) I
section
variable {X:Cx}{Pn:PN}{M:AR}{a b c:Expr}{fa fb fc:AD}{apos cpos:Pos}
end
end L3
namespace L2
open PyProof.Rows
section
variable {X:Cx}{e lo st:Expr}{te tl tk:TE}{pos p2:Pos}
end
end L2
namespace L3
open L2
abbrev dFromL (fa fl fk:AD):AD:=λD n Q=>fa D n λx q=>onL x λl=>fl D q λy B=>onI y λc=>fk D B λz F=>onI z λk=>(0<=c/\1<=k)/\∀ys:AS,ys.Sublist (l.drop c.toNat)->Q (.d (.lst ys)) F
section
variable {X:Cx}{Pn:PN}{M:AR}{e lo st:Expr}{f fl fk:AD}{pos p2:Pos}
end
def zuC:HO:=.dK [(Sum.inr "at",.non)]
abbrev gone (H:Hp)(a:Addr):Hp:=L2.upd H a zuC
section
variable {X:Cx}{Pn:PN}{M S:AR}{fr fr':Bool}{pos p:Pos}
abbrev dGiv (i:Nat) (F:AU->Mo W) (f1 f2:AD):Ms:=λD n k=>f1 D n λw1 m1=>f2 D m1 λw2 m2=>onV D i λw=>F [w1,w2,w] m2 λw' m'=>onC (W.mut w') (onP D i w' λρ'=>k.nx ρ' m') False
end
end L3
namespace L2
open PyProof.Rows PySem.W PySem.SeqAt
section
variable {X:Cx}
end
end L2
namespace L3
open L2
section
variable {X:Cx}{Pn:PN}{M S:AR}{fr fr':Bool}{e o:Expr}{f fo:AD}{pos p:Pos}
abbrev dLenK:AU->Mo W:=λq n Q=>on1 q λx=>onK x λBD=>Q (.d (.int (BD.length:Nat))) n
abbrev dListK:AU->Mo W:=λq n Q=>on1 q λx=>onK x λBD=>∃ns:AG,BD.map (·.1)=ns.map Sum.inl/\Q (.d (.lst (ns.map .int))) n
abbrev dIndex (fo f:AD):AD:=λD n Q=>fo D n λx q=>onL x λl=>f D q λy B=>onI y λk=>∃ns:AG,l=ns.map .int/\k∈ns/\Q (.d (.int (ns.idxOf k:Nat))) B
abbrev zuk (f:AD):AD:=λD n Q=>f D n λx q=>onL x λl=>∃ns:AG,l=ns.map .int/\ns.Nodup/\ns.length<=1000/\Q (.d (.int (ns.length:Nat))) q
end
end L3
namespace L2
def us_1 {α:Type}{us:List α}(h:us.length=1):∃a,us=[a]:=match us,h with | [a],_=>#[a,BB]
def us_2 {α:Type}{us:List α}(h:us.length=2):∃a b,us=[a,b]:=match us,h with | [a,b],_=>#[a,b,BB]
def us_3 {α:Type}{us:List α}(h:us.length=3):∃a b c,us=[a,b,c]:=match us,h with | [a,b,c],_=>#[a,b,c,BB]
def us_4 {α:Type}{us:List α}(h:us.length=4):∃a b c d,us=[a,b,c,d]:=match us,h with | [a,b,c,d],_=>#[a,b,c,d,BB]
def us_5 {α:Type}{us:List α}(h:us.length=5):∃a b c d e,us=[a,b,c,d,e]:=match us,h with | [a,b,c,d,e],_=>#[a,b,c,d,e,BB]
def us_6 {α:Type}{us:List α}(h:us.length=6):∃a b c d e f,us=[a,b,c,d,e,f]:=match us,h with | [a,b,c,d,e,f],_=>#[a,b,c,d,e,f,BB]
open PyProof.Rows PySem.W PySem.Calls
end L2
namespace L3
open L2
section
variable {X:Cx}{Pn:PN}{M S:AR}{fr fr':Bool}{e a b c:Expr}{es:AO}{f fa fb fc:AD}{pos p:Pos}
end
theorem zi9:∀ {bs:List Bool} {xs:AT},IsL BG (bs.map .bl) xs->xs=bs.map V.bl
 | [],_,h=>h
 | b::bs,xs,h=>by obtain⟨x,r,rfl,h1,h2⟩:=h;have e:x = .bl b:=h1;rw[e,zi9 h2];rfl
theorem zi1:∀bs:List Bool,inV (.bl b) (bs.map V.bl)=bs.contains b
 | []=>rfl
 | c::bs=>by have:=zi1 (b:=b) bs;unfold inV at this ⊢;rw[aD,cY,this,List.contains_cons];cases b <;> cases c <;> rfl
theorem zgN:∀bs:List Bool,(bs.map V.bl).all zc3=true
 | []=>rfl
 | _::bs=>by rw[aD,dF,zgN bs];rfl
section
variable {Pn:PN}{K:AH}
abbrev dInB:W->W->Mo W:=λx y n Q=>onB x λb=>onL y λl=>∃bs:List Bool,l=bs.map .bl/\Q (.d (.bl (bs.contains b))) n
def zvN:F2 Pn false (rIn K false) dInB:=#[λA H x y J O n Q R U B q P h k=>by simp only[dInB,zfb,xE] at h;obtain⟨b,rfl,l,rfl,bs,rfl,h⟩:=h;obtain⟨a,xs,rfl,F,I⟩:=y4 q;obtain rfl:=zi9 I;have e:x = .bl b:=B;subst e;show#[a,_,BB,.inl (.of F),BB,zgN bs,k _ n _ H h (Val.of (by rw[zi1];rfl)) (Go.refl P) λz=>by cases z]]
end
end L3
namespace L2
open PyProof.Rows PySem.W PySem.Calls
section
variable {prog:Aa}{w:Ab}{A:Ae}{E:AA}{s:AZ}
variable {X:Cx}
end
end L2
namespace L3
open L2
section
variable {X:Cx}{Pn:PN}{M S:AR}{fr fr':Bool}{pos p:Pos}{e:Expr}{f:AD}
abbrev dSAdd (P:Aa) (w:Ab) (i:Nat) (f:AD):Ms:=λD n k=>onV D i λv=>∃ks,v = .ss P w ks/\f D n λx m=>∃st:AG,x = .d (stD st)/\ks.length<300/\
 ∀q:AF,(∀y,y∈q↔y=st\/y∈ks)->q.length<=ks.length+1->q.Nodup->onP D i (.ss P w q) λB=>k.nx B m
abbrev dSortS (P:Aa) (w:Ab):AU->Mo W:=λB n Q=>on1 B λx=>∃ (ks:AF) (m:Nat),x = .ss P w ks/\ks.length<64/\1<=m/\(∀st∈ks,st.length=m)/\∀q:AF,q.Perm ks->(q.Pairwise λa b=>HT.lexLt a b=true)->Q (.d (zaB q)) n
end
def zmD {α:Type}{p:List α->Prop}(q:p [])(hs:∀l x,p l->p (l++[x]))(l:List α):p l:=by
 have h:∀l:List α,p l.reverse:=λl=>by
  induction l with
  | nil=>show q
  | cons x l B=>rw[dH];show hs _ _ B
 have:=h l.reverse;grind
def zgQ {α:Type}(a b:List α)(i:Nat)(d:α)(h:i<a.length):(a++b).getD i d=a.getD i d:=by grind
def zlV:∀ {cs:AF} {st:AG},st∈zaD cs↔st.length=cs.length/\∀i,i<cs.length->st.getD i 0∈cs.getD i []:=by
 intro cs;show zmD (p:=λcs=>∀ {st:AG},st∈zaD cs↔st.length=cs.length/\∀i,i<cs.length->st.getD i 0∈cs.getD i []) ?_ ?_ cs;intro st;simp[zaD,List.length_eq_zero_iff];intro cs c I st;rw[xU];unfold uJ;rw[List.mem_flatMap];constructor;rintro⟨r,J,h⟩;obtain⟨w,O,rfl⟩:=aF.mp h;obtain⟨h1,h2⟩:=I.mp J;show#[by simp[h1],λi hi=>?_];simp at hi;by_cases e:i=cs.length;right;grind;rintro⟨h1,h2⟩;simp at h1;have q:st≠[]:=λz=>by rw[z] at h1;simp at h1
 have F:=bm q;have B:st.dropLast.length=cs.length:=by simp[h1]
 show#[st.dropLast,I.mpr #[B,λi hi=>?_],aF.mpr #[st.getLast q,?_,F]];have:=h2 i (by simp;omega);rw[zgQ _ _ _ _ hi] at this;rw[<- F,zgQ _ _ _ _ (by omega)] at this;show this;have:=h2 cs.length (by simp);rw[<- F] at this;have e:(st.dropLast++[st.getLast q]).getD cs.length 0=st.getLast q:=by simp[<- B]
 right
end L3
namespace L3
open L2
def dr{zN:Int}(q:zba K Pn p)(h:∀r,0<=r->r<zN->Q (.d (.int r)) (n+1))(hn:n<=1000000:=by lia)(h1:1<=zN:=by lia)(h2:zN<1073741824:=by lia):zie K Pn [.pen p,.d (.int zN)] n Q:=#[p,zN,q,BB,hn,h1,h2,h]
def zoe {α:Type}(f:α->Dt)(d:α)(l:List α):enW 0 (l.map f)=(List.range l.length).map λi:Nat=>W.d (.tup [.int (i:Int),f (l.getD i d)]):=by
 apply c8;intro i;rw[zfU,aC,aC];by_cases h:i<l.length
 all_goals right
def zdv {m b:Int}:b∈z8 m↔0<=b/\b<m:=by
 unfold z8;rw[aF];constructor;rintro⟨k,q,rfl⟩;grind;rintro⟨B,h1⟩;show#[b.toNat,aK.mpr (by lia),by lia]
def zva {α q:Type}{BG:Prop}(C:α->q->Prop)(P:α->q->Prop)(h:(∀a b,C a b->P a b)->BG)(r:∀a b,C a b->P a b):BG:=h r
def ziw {α:Type}(l:List α):y6 l (some 1) none=l.drop 1:=by
 unfold y6
 have h1:HT.sIx l.length 0 (some 1)=min 1 l.length:=by unfold HT.sIx;simp;try lia
 have h2:HT.sIx l.length l.length none=l.length:=rfl;rw[h1,h2,br (by simp)]
 cases l with
 | nil=>rfl
 | cons a l=>simp
theorem zgA:∀ (l k:AS) (i:Nat),(ziW l k)[i]?=(l[i]?).bind λx=>(k[i]?).map λy=>W.d (.tup [x,y])
 | [],k,i=>by simp[ziW]
 | x::r,[],i=>by
  simp only[ziW,List.getElem?_nil,Option.map_none];right
 | x::r,y::s,0=>rfl
 | x::r,y::s,i+1=>by rw[ziW,bD,bD,bD];show zgA r s i
def zmW (q:AF):ziW (q.map stD) (y6 (q.map stD) (some 1) none)=(List.range (q.length - 1)).map λi:Nat=>W.d (.tup [stD (q.getD i []),stD (q.getD (i+1) [])]):=by
 rw[ziw];apply c8;intro i;rw[zgA,ez,aC,aC,aC];grind
def zqo {rm st:AG}(h:StOk rm st):st∈zaD (rm.map z8):=by
 rw[zlV];have q:=h.len;show#[by grind,λi hi=>?_];rw[ab] at hi;have e:(rm.map z8).getD i []=z8 (rm.getD i 0):=by simp[hi]
 rw[e,zdv];have:=h.box (i:Int) (by lia) (by lia);rw[zE,zE] at this;show this
def zjG {l:AF}{st:AG}:(Dt.tup (st.map Dt.int)∈l.map stD)↔st∈l:=by
 constructor;intro z;obtain⟨s,hs,e⟩:=aF.mp z;have:s=st:=fW (by grind) |>.mp (Dt.tup.inj e);grind;show λz=>aF.mpr #[_,z,BB]
def zmG {rm st:AG}{b x:Int}(h:StOk rm st)(q:0<=b)(J:b<rm.length)(O:0<=x)(U:x<zN rm b):StOk rm (chg st b x):=by
 have F:=h.len;show#[by rw[zim q (by lia)];show F,λc B I=>?_];rw[zn8 q (by lia) B];split;right;show h.box c B I
end L3
namespace L3
open L2
def lpE (bk:AW)(q:Int)(st:AG):List (Int×Int):=(lpF bk q st).map λr=>(r.getD 0 0,r.getD 1 0)
end L3
namespace L3
open L2
end L3
namespace L2
open PyProof.Rows PySem.W PySem.Calls
section
variable {X:Cx}{BC:AB}{G:St}{H:Hp}{s:AZ}{a:Addr}
end
end L2
namespace L3
open L2
abbrev onZ (w:W) (P:List (AG×Dt)->Prop):Prop:=match w with | .df i=>P i | _=>False
section
variable {X:Cx}{Pn:PN}{M S:AR}{fr fr':Bool}{pos p:Pos}{e a b c:Expr}{f fa fb fc:AD}
abbrev dFrz (f:AD):AD:=λD n Q=>f D n λx m=>onE x λBD=>Q (.df BD) m
abbrev dItF (fa:AD):AC:=λD n Q=>fa D n λx m=>onZ x λBD=>(BD.map (·.1)).Nodup->Q (BD.map λq=>W.d (stD q.1)) m
abbrev dGetF (fd fk:AD):AD:=λD n Q=>fd D n λx q=>fk D q λy B=>onZ x λBD=>∃st,y = .d (stD st)/\onO (zc4 BD st) λd=>Q (.d d) B
abbrev dGetFD (fd fk q:AD):AD:=λD n Q=>fd D n λx B=>onZ x λBD=>fk D B λy F=>q D F λz I=>∃st,y = .d (stD st)/\onD z λi=>Q (.d ((zc4 BD st).getD i)) I
abbrev dDictL:AU->Mo W:=λB n Q=>on1 B λx=>∃BD:List (AG×Dt),x = .d (.lst (BD.map λq=>Dt.tup [stD q.1,q.2]))/\(BD.map (·.1)).Nodup/\BD.length<=lim/\Q (.dt BD) n
end
abbrev lpD (bk:AW) (b:Int) (st:AG):Dt:=.lst ((lpE bk b st).map xQ)
abbrev rowD (rm:AG) (bk:AW) (st:AG):Dt:=.lst ((List.range rm.length).map λb:Nat=>lpD bk (b:Int) st)
def zfY {rm:AG}{g:List (Int×Int)}(h:Giv rm g):g.length<=rm.length:=by
 have:=zaQ (l:=g.map (·.1)) (l':=z8 rm.length) (b6.mpr (h.up.imp λh e=>by lia)) λx B=>by obtain⟨q,F,rfl⟩:=aF.mp B;have:=h.ok q F;show zdv.mpr #[this.1,this.2.1]
 rw[ab,zbl] at this;lia
def zu9 {α q B:Type}{BG:Prop}(C:α->q->B->Prop)(P:α->q->B->Prop)(h:(∀a b c,C a b c->P a b c)->BG)(r:∀a b c,C a b c->P a b c):BG:=h r
section
variable {X:Cx}{Pn:PN}{M S cM:AR}{fr fr':Bool}{e:Expr}{es:AO}{pos:Pos}{A:AL}{acc:Addr}{H1 H H':Hp}{σc G:St}{ρc D:Ev}{n m:Nat}{ds:AS}
def inR (mg:W->Ev->(Ev->Prop)->Prop)(O:Ev->Mo Bool)(U:AD)(B:Ev)(F:AS)(K:Ev->Nat->AS->Prop):AU->Nat->Prop:=λl Y=>∃I:Nat->Ev->Nat->AS->Prop,I 0 B Y F/\
 (∀i w D n ds,l[i]?=some w->I i D n ds->mg w D λq=>O q n λb J=>if b=true then U q J λx Z=>∃d,x = .d d/\ds.length<=lim/\I (i+1) q Z (ds++[d]) else I (i+1) q J ds)/\
 ∀ D n ds,I l.length D n ds->K D n ds
def zq1 (mg:W->Ev->(Ev->Prop)->Prop)(Y:Ev->Mo Bool)(B:AC)(F:W->Ev->(Ev->Prop)->Prop)(J:Ev->Mo Bool)(Z:AD)(O:Ev)(Q:AV):AU->Nat->Prop:=λl n1=>∃I:Nat->Ev->Nat->AS->Prop,I 0 O n1 []/\
 (∀i w D n ds,l[i]?=some w->I i D n ds->mg w D λq=>Y q n λb U=>if b=true then B q U (inR F J Z q ds (I (i+1))) else I (i+1) q U ds)/\
 ∀ D n ds,I l.length D n ds->Q (.d (.lst ds)) n
abbrev mComp2 (I:AC) (mg:W->Ev->(Ev->Prop)->Prop) (J:Ev->Mo Bool) (q:AC) (B:W->Ev->(Ev->Prop)->Prop) (F:Ev->Mo Bool) (O:AD) (BE:List (Option Nat)):AD:=λD n Q=>I D n (zq1 mg J q B F O (zh9 D BE) Q)
end
end L3
namespace L2
open PyProof.Rows PySem.W PySem.Calls
section
variable {X:Cx}{BC:AB}{G:St}{H:Hp}{s:AZ}{a:Addr}
end
end L2
namespace L3
open L2
abbrev onY (w:W) (P:List (Key×Dt)->Prop):Prop:=match w with | .kf i=>P i | _=>False
section
variable {X:Cx}{Pn:PN}{M S:AR}{fr fr':Bool}{pos p:Pos}{e a b c:Expr}{f fa fb fc:AD}
abbrev dFrzK (f:AD):AD:=λD n Q=>f D n λx m=>onK x λBD=>Q (.kf BD) m
abbrev dItK (fa:AD):AC:=λD n Q=>fa D n λx m=>onY x λBD=>∃ns:AG,BD.map (·.1)=ns.map Sum.inl/\Q (ns.map λi=>W.d (.int i)) m
abbrev dGetY (fd fk:AD):AD:=λD n Q=>fd D n λx q=>fk D q λy B=>onY x λBD=>onI y λi=>onO (zc4 BD (Sum.inl i)) λd=>Q (.d d) B
abbrev dListY:AU->Mo W:=λq n Q=>on1 q λx=>onY x λBD=>∃ns:AG,BD.map (·.1)=ns.map Sum.inl/\Q (.d (.lst (ns.map .int))) n
abbrev dRetT (f:AD) (i:Nat):Ms:=λD n k=>f D n λw m=>onD w λd=>onV D i λx=>onL x λl=>k.rt (.d (.tup [d,.lst l])) m
end
end L3
namespace L2
open PyProof.Rows PySem.SeqAt
section
variable {prog:Aa}{w:Ab}{t:SetTable}{es:Array (Int×Value)}{xs:List (List Key×Addr)}{A:Ae}{E:AA}{s:AZ}
variable {X:Cx}
end
end L2
namespace L3
open L2
section
variable {X:Cx}{Pn:PN}{M S:AR}{fr fr':Bool}{pos p:Pos}{e o a b c:Expr}{es:AO}{f fo fa fc:AD}
abbrev dAug (F:Int->Int->Int) (i:Nat) (f:AD):Ms:=λD n k=>onV D i λx=>onI x λa=>f D n λy m=>onI y λb=>onP D i (.d (.int (F a b))) λq=>k.nx q m
abbrev dAugT (F:Int->Int->Int) (i:Nat) (fk f:AD):Ms:=λD n k=>onV D i λx=>onE x λBD=>fk D n λy m=>∃st,y = .d (stD st)/\∃a,zc4 BD st=some (.int a)/\f D m λw B=>onI w λb=>BD.length<lim/\onP D i (.dt (zia BD st (.int (F a b)))) λq=>k.nx q B
abbrev dSetL (P:Aa) (w:Ab):AU->Mo W:=λq n Q=>on1 q λx=>∃BF:AF,x = .d (.lst (BF.map stD))/\(∀ks:AF,ks.Nodup->(∀z∈ks,z∈BF)->ks.length<300)/\∀ks:AF,ks.Nodup->(∀st,st∈ks↔st∈BF)->Q (.ss P w ks) n
abbrev dInS (P:Aa) (w:Ab):W->W->Mo W:=λx y n Q=>∃ (st:AG) (ks:AF),x = .d (stD st)/\y = .ss P w ks/\∀c:Bool,(c=true↔st∈ks)->Q (.d (.bl c)) n
abbrev dItEF (fa:AC):AC:=λD n Q=>fa D n λq m=>on1 q λx=>onZ x λBD=>(BD.map (·.1)).Nodup->Q (enW 0 ((BD.map (·.1)).map stD)) m
abbrev zue (fo f:AD):AD:=λD n Q=>fo D n λx q=>onL x λl=>f D q λy B=>onD y λd=>d.eqOk/\(Dt.lst l).eqOk/\d∈l/\∀j:Nat,l[j]?=some d->(∀i,i<j->l[i]?≠some d)->Q (.d (.int j)) B
def zrx:JE X Pn M true (.Dict [] [] pos) (mC (.d .dct)):=#[_,zmh,#[λA G H D n Q R E P B k=>λp q=>k _ n _ _ B #[p,[],BB,zG (E.new q) zi,BB] (Go.same P (yT.upd q)) λ_=>#[p,BB,.of q,p,[],BB,zi,BB]]]
abbrev snN:AU->(AU->Prop)->Prop
 | [],P=>P [.d .non]
 | a::r,P=>snN r λq=>P (a::q)
theorem znJ:∀ {q:AU} {P:AU->Prop},snN q P=P (q++[.d .non])
 | [],P=>rfl
 | a::r,P=>by rw[snN,znJ];rfl
theorem za9.non:∀ {q:AU} {vs:AT},za9 A H q vs->za9 A H (q++[.d .non]) (vs++[.non])
 | [],_,h=>by cases h;show#[_,_,BB,Val.of BB,BB]
 | _::_,_,⟨v,r,e,h1,h2⟩=>by subst e;show#[v,_,BB,h1,za9.non h2]
abbrev dFnD (k:Nat) (F:AU->Mo W) (fs:AC):AD:=λD n Q=>fs D n λq m=>snN q λus=>zcA k us (F us m Q)
def zuH(BH:DfnD X.K X.mg x st ps [Value.none] fA fd)(BG:FnOk X.prog X.w X.K X.mg X.base CX0 j fA fd ps (spV k fr F))(O:Room q X.A)(U:JA X Pn M (e::es) fs)(B:j<=q:=by ext)(Y:Gl X x:=by rfl)(I:Ah x:=by ext)(Z:starEach (e::es) X.env=(false,eval e X.env)::starEach es X.env:=by rfl)(J:(backTo pos (starEach es X.env)).any (·.1)=false:=by rfl) :
  JE X Pn M fr (.Call (.Name x p) (e::es) [] pos) (dFnD k (F Pn) fs):=by
 obtain⟨ta,qa,ra⟩:=U.ex;show#[_,zsw (dv:=[.non]) BH (.cons BB .nil) BG O qa B Y I Z J,#[λA G H D n Q R E P hf q=>?_]];show ra.run A G H D n _ _ E P hf λws m vs H1 h b g=>?_;rw[znJ,zbY] at h;show#[Pn,A,_,m,R,(E.stay g.st).al,b.non,h.1,g.pn,h.2,λw m' v H' h1 h2 h3 h4=>q w m' v H' h1 h2 (g.trans h3) λz=>(h4 z).back g.st]
end
end L3
namespace L2
open PyProof.Rows
section
variable {X:Cx}{BC:AB}{G:St}{H BG G':Hp}{s:AZ}{d l:Addr}{ob:Obj}{BD:List (List Key×V)}
def DTo (P:Aa)(w:Ab)(BG:Hp)(d:Addr)(ob:Obj)(BD:List (List Key×V)):Prop:=BD.length<=sizeLine/\(d==sysModules)=false/\∃xs:List (List Key×Addr×Value),
 Paired (λ(p:List Key×V) (q:List Key×Addr×Value)=>p.1=q.1/\BG q.2.1=some (.tup (p.1.map kV))/\yo p.2 q.2.2) BD xs/\∃es B,ob.ExactDict/\ob.data = .dict es B/\es.toList=xs.map (entryOfKey (tupleKind (zY P w)))/\(xs.map (·.1)).Nodup
def DTo.st(h:DTo P w BG d ob BD)(t:zfH BG G'):DTo P w G' d ob BD:=by obtain⟨z,lo,xs,r,q⟩:=h;show#[z,lo,xs,Paired.imp' (λp q y=>#[y.1,t _ _ y.2.1,y.2.2]) r,q]
def Inv.thaw (I:Inv X BC G H s)(h:H d=some (kO d ob))(BH:DTo X.prog X.w H d ob BD):Inv X BC G (upd H d (.dT BD)) s:=by obtain⟨z,lo,xs,r,es,B,h2,F,J,O⟩:=BH;have h1:s.heap.get? d=some ob:=(show yk X.prog X.w H s.heap d (kO d ob) from I.hok d _ h).1;show I.write (x:=d) (e:=d) (h':=s.heap) (t':=s.toks) (by rw[h];trivial) (.inl BB) (λ_ _ _ e=>e) #[ob,h1] #[z,lo,xs,Paired.imp' (λp q y=>#[y.1,?_,y.2.2]) r,ob,es,B,h1,h2,F,J,O];rw[zf λe=>by have:=y.2.1;rw[e,h] at this;cases this];show y.2.1
def Inv.keep (I:Inv X BC G H s)(h:H d=some (.dT BD)):∃ob,DTo X.prog X.w H d ob BD/\s.heap.get? d=some ob/\Inv X BC G (upd H d (kO d ob)) s:=by obtain⟨z,lo,xs,r,o,es,q,h1,h2,B,F,J⟩:=(show yk X.prog X.w H s.heap d (.dT BD) from I.hok d _ h);show#[o,#[z,lo,xs,r,es,q,h2,B,F,J],h1,I.write (x:=d) (e:=d) (h':=s.heap) (t':=s.toks) (by rw[h];trivial) (.inl BB) (λ_ _ _ e=>e) #[o,h1] #[h1,#[o,h1],λh1 h2 p k=>k o p]]
def Inv.frzL(I:Inv X BC G H s)(h:H l=some (.lst xs)):∃ob,Inv X BC G (upd H l (.frz ob (.lst xs))) s:=by obtain⟨z,q,n,r,e⟩:=(show yk X.prog X.w H s.heap l (.lst xs) from I.hok l _ h);show#[_,I.write (x:=l) (e:=l) (h':=s.heap) (t':=s.toks) (by rw[h];trivial) (.inl BB) (λ_ _ _ e=>e) #[_,e] #[e,z,q,n,r,e]]
variable {e:Expr}{te:TE}
def zte (P:Aa)(w:Ab)(te:TE):TE:=λG H Q=>te G H λx H1=>∃d ob BD,H1 d=some (kO d ob)/\DTo P w H1 d ob BD/\Q x (upd H1 d (.dT BD))
def zpu (h:PE X e te):PE X e (zte X.prog X.w te):=λBC s G H Q I q=>thn (h BC s G H _ I q) λu F ⟨x,H1,I1,r,d,ob,BD,h1,h2,B⟩=>#[x,_,I1.thaw h1 h2,r,B]
def zs5 (P:Aa)(w:Ab)(te:TE):TE:=λG H Q=>te G H λx H1=>∃d BD,H1 d=some (.dT BD)/\∀ob,DTo P w H1 d ob BD->(∃h:Heap,h.get? d=some ob)->Q x (upd H1 d (kO d ob))
def zpp (h:PE X e te):PE X e (zs5 X.prog X.w te):=λBC s G H Q I q=>thn (h BC s G H _ I q) λu F ⟨x,H1,I1,r,d,BD,h1,B⟩=>by obtain⟨ob,BH,g,I2⟩:=I1.keep h1;show#[x,_,I2,r,B ob BH #[_,g]]
def znO (P:Aa)(w:Ab)(t:TA):TA:=λG H Q=>t G H λvs H1=>∃d BD,H1 d=some (.dT BD)/\∀ob,DTo P w H1 d ob BD->(∃h:Heap,h.get? d=some ob)->Q vs (upd H1 d (kO d ob))
def zpk(h:PA X es t):PA X es (znO X.prog X.w t):=λpos BC s G H Q I q=>by show bC (h pos BC s G H _ I q) ?_ λ_ _ x=>x;rintro us F ⟨vs,H1,I1,r,d,BD,h1,B⟩;obtain⟨ob,BH,g,I2⟩:=I1.keep h1;show#[vs,_,I2,r,B ob BH #[_,g]]
def zs4 (te:TE):TE:=λG H Q=>te G H λx H1=>∃l xs,x = .ref l/\H1 l=some (.lst xs)/\∀ob,Q x (upd H1 l (.frz ob (.lst xs)))
def zpo (h:PE X e te):PE X e (zs4 te):=λBC s G H Q I q=>thn (h BC s G H _ I q) λu F ⟨x,H1,I1,r,l,xs,ex,h1,B⟩=>by obtain⟨ob,I2⟩:=I1.frzL h1;show#[x,_,I2,r,B ob]
end
end L2
namespace L3
open L2
def Sm (BG G':Hp):Prop:=∀b o,BG b=some o->imm o=true\/¬ NP o->G' b=some o
def Sm.t(h:Sm BG G'):zfH BG G':=λb xs e=>h b _ e (.inl BB)
def zrM(h:∃h:Heap,h.get? d=some ob):¬ NP (kO d ob):=λn=>by have:=n [(Sum.inr "at",.non)] (by unfold kO pnK;dsimp only;rw[if_pos #[d,ob,h,BB]]);cases this
structure LdI where
 P:Aa
 w:Ab
 C:Addr
 a:Addr
 dx:Addr
 d:Addr
 rm:AG
 bk:AW
 hs:AG
def LdE (L:LdI)(BG:Hp)(q:AG×V):Prop:=StOk L.rm q.1/\∃B o xs,q.2 = .ref B/\BG B=some (.frz o (.lst xs))/\IsL BG ((zbr L.bk q.1 L.hs).map stD) xs
structure LdG (L:LdI)(BG:Hp):Prop where
 ex:∃ (x1 x2 x3:V) (ob:Obj) (ks:List (AG×V)),BG L.a=some (.ins L.C L.dx [("room",x1),("wishes",x2),("held",x3),("known",.ref L.d)])/\BG L.dx=some (.own L.a)/\Is BG (stD L.rm) x1/\Is BG (uF L.bk) x2/\zaC BG x3 L.hs/\
  BG L.d=some (kO L.d ob)/\(∃h:Heap,h.get? L.d=some ob)/\DTo L.P L.w BG L.d ob (zds ks)/\∀q∈ks,LdE L BG q
 room:RoomOk L.rm
 book:za8 L.rm L.bk
def LdE.sm{q:AG×V}(h:LdE L BG q)(s:Sm BG G'):LdE L G' q:=by obtain⟨B,F,o,xs,h1,h2,I⟩:=h;show#[B,F,o,xs,h1,s _ _ h2 (.inl BB),I.stayT s.t (xC _)]
def zaC.stayT{hs:AG}(h:zaC BG v hs)(s:zfH BG G'):zaC G' v hs:=h.imp id λ⟨p,e,q⟩=>#[p,e,s _ _ q]
def LdG.sm(h:LdG L BG)(s:Sm BG G'):LdG L G':=by
 obtain⟨⟨F,I,J,ob,ks,h1,h2,O,U,Y,Z,B,h8,h9⟩,hr,hb⟩:=h;have n1:(stD L.rm).noL=true:=by simpa [Dt.noL] using zaP L.rm
 have n2:(uF L.bk).noL=true:=by simpa [Dt.noL] using zaa L.bk
 show#[#[F,I,J,ob,ks,s _ _ h1 (.inl BB),s _ _ h2 (.inl BB),O.stayT s.t n1,U.stayT s.t n2,zaC.stayT Y s.t,s _ _ Z (.inr (zrM B)),B,h8.st s.t,λq hq=>(h9 q hq).sm s],hr,hb]
def LdG.close{ks:List (AG×V)}(h:LdG L BG)(s:∀b o,BG b=some o->b≠L.d->G' b=some o)(e:G' L.d=some (kO L.d ob))(F:∃h:Heap,h.get? L.d=some ob)(BH:DTo L.P L.w G' L.d ob (zds ks))(q:∀q∈ks,LdE L G' q):LdG L G':=by
 obtain⟨⟨I,J,O,U,Y,h1,h2,Z,h4,h5,B,h7,h8,h9⟩,hr,hb⟩:=h;have n1:(stD L.rm).noL=true:=by simpa [Dt.noL] using zaP L.rm
 have n2:(uF L.bk).noL=true:=by simpa [Dt.noL] using zaa L.bk
 have t:zfH BG G':=λb xs z=>s b _ z λy=>by subst y;rw[B] at z;cases z
 show#[#[I,J,O,ob,ks,s _ _ h1 (λy=>by rw[y,B] at h1;cases h1),s _ _ h2 (λy=>by rw[y,B] at h2;cases h2),Z.stayT t n1,h4.stayT t n2,zaC.stayT h5 t,e,F,BH,q],hr,hb]
def zex (P:Aa)(w:Ab)(C:Addr):Sp:=λvs H Q _=>∃ (L:LdI) (st:AG) (q:Addr),vs=[.ref L.a,.ref q]/\L.P=P/\L.w=w/\L.C=C/\LdG L H/\StOk L.rm st/\H q=some (.tup (st.map V.int))/\
 ∀ (B:Addr) (o:Obj) (ys:AT) (H':Hp),H' B=some (.frz o (.lst ys))->IsL H' ((zbr L.bk st L.hs).map stD) ys->LdG L H'->(∀b o,H b=some o->b≠L.d->H' b=some o)->Q (.ref B) H'
def ldF (q B F:V)(d:Addr):List (Str×V):=[("room",q),("wishes",B),("held",F),("known",.ref d)]
def zey (C:Addr):Sp:=λvs H Q _=>∃ (a dx:Addr) (q B F:V),vs=[.ref a,q,B,F]/\H a=some (.ins C dx [])/\
 ∀ (d:Addr) (H':Hp),H d=none->H' a=some (.ins C dx (ldF q B F d))->H' d=some (.dT [])->(∀b o,H b=some o->b≠a->H' b=some o)->Q .non H'
def ldJ (L:LdI):Jv where
 K:=λA H=>LdG L (yg A H)
 same:=λh s=>h.sm λb o e _=>x5 s b o e
 grow:=λ{A A' H} h g=>h.sm λb o e n=>by
  obtain⟨F,B⟩:=ya.mp e;show zG (λz=>?_) B;rcases g b z with q | ⟨o',q1,q2,q3⟩;show F q;rw[B] at q1;cases q1;rcases n with n | n;rw[show imm o=false from q3] at n;cases n;show n q2
 upd:=λ{A H p o} h I=>by rw[yx I];show h
 frz:=λ{A H p o o'} h I J O=>h.sm λb u e n=>by
  obtain⟨F,B⟩:=ya.mp e
  have U:b≠p:=λz=>by
   subst z;rw[I] at B;cases B;rcases n with n | n;rw[show imm o=false from O] at n;cases n;show n J
  show zG F (by rw[zf U];show B)
def zgY (q B F:V)(d:Addr):(ldF q B F d).lookup ("room" : Str)=some q:=by unfold ldF;rw[List.lookup,show (("room" : Str) == "room")=true by decide +kernel]
def zhF (B q F:V)(d:Addr):(ldF B q F d).lookup ("wishes" : Str)=some q:=by unfold ldF;rw[List.lookup,show (("wishes" : Str) == "room")=false by decide +kernel];dsimp only;rw[List.lookup,show (("wishes" : Str) == "wishes")=true by decide +kernel]
def zlO (B F q:V)(d:Addr):(ldF B F q d).lookup ("held" : Str)=some q:=by unfold ldF;rw[List.lookup,show (("held" : Str) == "room")=false by decide +kernel];dsimp only;rw[List.lookup,show (("held" : Str) == "wishes")=false by decide +kernel];dsimp only;rw[List.lookup,show (("held" : Str) == "held")=true by decide +kernel]
def zaL (q B F:V)(d:Addr):(ldF q B F d).lookup ("known" : Str)=some (.ref d):=by unfold ldF;rw[List.lookup,show (("known" : Str) == "room")=false by decide +kernel];dsimp only;rw[List.lookup,show (("known" : Str) == "wishes")=false by decide +kernel];dsimp only;rw[List.lookup,show (("known" : Str) == "held")=false by decide +kernel];dsimp only;rw[List.lookup,show (("known" : Str) == "known")=true by decide +kernel]
def zjl (q B F:V)(d:Addr):(ldF q B F d).lookup ("after" : Str)=none:=by unfold ldF;rw[List.lookup,show (("after" : Str) == "room")=false by decide +kernel];dsimp only;rw[List.lookup,show (("after" : Str) == "wishes")=false by decide +kernel];dsimp only;rw[List.lookup,show (("after" : Str) == "held")=false by decide +kernel];dsimp only;rw[List.lookup,show (("after" : Str) == "known")=false by decide +kernel];rfl
def zoT (q B F:V)(d:Addr):zbO "known" (.ref d) (zbO "held" F (zbO "wishes" B (zbO "room" q [])))=ldF q B F d:=by unfold ldF;simp only[zbO,if_neg (show ¬ ("room" : Str) = "wishes" by decide +kernel),if_neg (show ¬ ("room" : Str) = "held" by decide +kernel),if_neg (show ¬ ("room" : Str) = "known" by decide +kernel),if_neg (show ¬ ("wishes" : Str) = "held" by decide +kernel),if_neg (show ¬ ("wishes" : Str) = "known" by decide +kernel),if_neg (show ¬ ("held" : Str) = "known" by decide +kernel)]
theorem zaW (f:Str)(v:V):∀fs:List (Str×V),(zbO f v fs).length<=fs.length+1
 | []=>ai _
 | (g,x)::r=>by have:=zaW f v r;unfold zbO;split <;> simp <;> omega
structure LdC (K:AH)(C:Addr):Prop where
 cl:Cls K C
 n1:zai K C "room"
 n2:zai K C "wishes"
 n3:zai K C "held"
 n4:zai K C "known"
section
variable {K:AH}{P:Aa}{w:Ab}{C:Addr}{H:Hp}{Q:VK}{E:XK}{BH:Ends}
def zmq(c:LdC K C)(h:zey C vs H Q E)(J:∀ G H',Q .non H'->BH.nx G H') :
  zqw (zsW K (za4 0) (za4 1) "room") (zqw (zsW K (za4 0) (za4 2) "wishes") (zqw (zsW K (za4 0) (za4 3) "held") (zsW K (za4 0) znN "known"))) BH (vs.map some) H:=by
 obtain⟨a,dx,U,Y,Z,rfl,O,k⟩:=h;show#[_,BB,_,BB,a,C,dx,[],BB,O,c.cl,c.n1,by ext,?_];show#[_,BB,_,BB,a,C,dx,_,BB,zi,c.cl,c.n2,bg (zaW _ _ _) (by ext),?_];have I:∀x y:V,(zbO "wishes" x (zbO "room" y [])).length<=2:=λx y=>aq (zaW _ _ _) (dR (zaW _ _ _));show#[_,BB,_,BB,a,C,dx,_,BB,zi,c.cl,c.n3,bg (I _ _) (by ext),?_];rw[zeD,zeD];intro d F;have q:a≠d:=λe=>by rw[<- e,zi] at F;cases F
 have B:H d=none:=by rwa[zf q.symm] at F
 show#[_,BB,a,C,dx,_,BB,by rw[zf q,zi],c.cl,c.n4,bg (aq (zaW _ _ _) (dR (I _ _))) (by change 3<1000;decide),J _ _ ?_];rw[zoT];show k d _ B zi (by rw[zf q.symm,zi]) λb o e n=>?_;rw[zf n,zf (zc e B),zf n];show e
def zmd (ns:AG)(h:∀n∈ns,2<=n/\n<=4):yz ns<=4 ^ ns.length:=by
 have:∀ (ns:AG) (c:Int),0<=c->(∀n∈ns,2<=n/\n<=4)->ns.foldl (· * ·) c<=c * 4 ^ ns.length:=by
  intro ns
  induction ns with
  | nil=>intro c _ _;simp
  | cons n ns F=>
   intro c B h;obtain⟨h1,h2⟩:=h n am;have i:=F (c * n) (Int.mul_nonneg B (by omega)) λm I=>h m (ar _ I);have p:(0:Int)<=4 ^ ns.length:=Int.pow_nonneg (by ext);have q:c * n * 4 ^ ns.length<=c * 4 * 4 ^ ns.length:=Int.mul_le_mul_of_nonneg_right (Int.mul_le_mul_of_nonneg_left h2 B) p;rw[List.foldl_cons,aJ,Int.pow_succ];have r:c * (4 ^ ns.length * 4)=c * 4 * 4 ^ ns.length:=by rw[Int.mul_comm (4 ^ ns.length) 4,Int.mul_assoc]
   omega
 have:=this ns 1 (by ext) h;unfold yz
 omega
def LdE.len{ks:List (AG×V)}(B:RoomOk L.rm)(h:∀q∈ks,LdE L BG q)(n:(ks.map (·.1)).Nodup):ks.length<=65536:=by
 have h1:=zaQ (l':=zaD (L.rm.map z8)) n λx F=>by obtain⟨q,I,rfl⟩:=aF.mp F;show zqo (h q I).1
 have h2:=ue L.rm λn hn=>by have:=B.box n hn;omega
 have J:=zmd L.rm B.box
 have O:(4:Int) ^ L.rm.length<=4 ^ 8:=by
  have:=B.few
  exact_mod_cast dN (by decide:0<4) this
 rw[ab] at h1;have:(4:Int) ^ 8=65536:=by ext
 omega
def DTo.nd{ks:List (AG×V)}(h:DTo P w BG d ob (zds ks)):(ks.map (·.1)).Nodup:=by
 obtain⟨z,lo,xs,r,es,I,_,_,_,n⟩:=h
 have B:∀ {BD:List (List Key×V)} {xs:List (List Key×Addr×Value)},Paired (λ(p:List Key×V) (q:List Key×Addr×Value)=>p.1=q.1/\BG q.2.1=some (.tup (p.1.map kV))/\yo p.2 q.2.2) BD xs->BD.map (·.1)=xs.map (·.1):=by
  intro BD xs h
  induction h with
  | nil=>rfl
  | cons a _ F=>rw[aD,aD,F,a.1]
 rw[<- B r] at n;unfold zds at n;rw[aO] at n;have:(ks.map λq=>q.1.map (Sum.inl:Int->Key))=(ks.map (·.1)).map λl=>l.map Sum.inl:=by rw[aO];rfl
 rw[show ((λx:List Key×V=>x.1) ∘ λq:AG×V=>(q.1.map Sum.inl,q.2))=λq:AG×V=>q.1.map (Sum.inl:Int->Key) from rfl,this] at n;show (b6.mp n).imp λh e=>h (by rw[e])
def zmS{ks:List (AG×V)}{st:AG}(h:uE ks st=some v):(st,v)∈ks:=by
 unfold uE at h;obtain⟨q,B,rfl⟩:=aH.mp h;have e:q.1=st:=by simpa using List.find?_some B
 subst e;show List.mem_of_find?_eq_some B
def LdE.st{q:AG×V}(h:LdE L BG q)(B:BG L.d=some (kO L.d ob))(s:∀b o,BG b=some o->b≠L.d->G' b=some o):LdE L G' q:=by obtain⟨F,I,o,xs,h1,h2,J⟩:=h;show#[F,I,o,xs,h1,s _ _ h2 (λz=>by rw[z,B] at h2;cases h2),J.stayT (λb ys e=>s b _ e λz=>by rw[z,B] at e;cases e) (xC _)]
def LdG.at(h:LdG L BG):∃ (ra B:Addr) (xs:AT) (F:V) (ob:Obj) (ks:List (AG×V)),BG L.a=some (.ins L.C L.dx (ldF (.ref ra) (.ref B) F L.d))/\BG ra=some (.tup (L.rm.map V.int))/\BookAt BG L.rm B xs L.bk/\zaC BG F L.hs/\
  BG L.d=some (kO L.d ob)/\(∃h:Heap,h.get? L.d=some ob)/\DTo L.P L.w BG L.d ob (zds ks)/\∀q∈ks,LdE L BG q:=by
 obtain⟨⟨x1,x2,F,ob,ks,h1,h2,⟨ra,ys,rfl,O,I⟩,⟨B,xs,rfl,U,J⟩,Y,Z,h7,h8,h9⟩,hr,hb⟩:=h;obtain rfl:=I.of_ints;show#[ra,B,xs,F,ob,ks,h1,O,#[U,J,hb],Y,Z,h7,h8,h9]
def zmp(c:LdC K C)(h:zex P w C vs H Q E)(hD:BH.rt=Q) :
  zqw (zvI (tB (zkz (za4 1) (zte P w (zqt K (za4 0) "known")))) (zqf (zqt K (za4 0) "known") (za4 1) (zs4 (zdd znK [] E' (zbQ (zqt K (za4 0) "room") (zbQ (zqt K (za4 0) "wishes") (zbQ (za4 1) (zbQ (zqt K (za4 0) "held") zqv))))))) zqu)
   (ztb (zs5 P w (zqq (zqt K (za4 0) "known") (za4 1)))) BH (vs.map some) H:=by
 obtain⟨L,st,sa,rfl,rfl,rfl,rfl,BG,Z,B,k⟩:=h;subst hD;obtain⟨ra,ba,xs,x3,ob,ks,h1,h2,h3,h4,O,_,h6,h7⟩:=BG.at;have ac:L.a≠L.d:=λe=>by rw[e,O] at h1;cases h1
 have ag:sa≠L.d:=λe=>by rw[e,O] at B;cases B
 have al:H sa=some (.tup ((st.map Sum.inl).map kV)):=by rw[zch];show B
 have U:∀o,upd H L.d o L.a=some (.ins L.C L.dx (ldF (.ref ra) (.ref ba) x3 L.d)):=λo=>by rw[zf ac];show h1
 have I:zfH H (upd H L.d (.dT (zds ks))):=λb ys e=>by rw[zf λz=>by rw[z,O] at e;cases e];show e
 show#[_,BB,_,BB,L.a,L.C,L.dx,_,_,BB,h1,c.cl,c.n4,zaL _ _ _ _,L.d,ob,_,O,h6,L.d,_,BB,zc0.t zi (I _ _ al),_,BB,?_];rw[zgV]
 cases e:uE ks st with
 | some v=>
  show zrv ?_;show#[_,BB,L.a,L.C,L.dx,_,_,BB,U _,c.cl,c.n4,zaL _ _ _ _,_,BB,L.d,v,BB,by rw[<- e];show zc0.i (st:=st) zi (I _ _ B),L.d,_,zi,λF D' hh=>?_];rw[zeD];have s:∀b o,H b=some o->b≠L.d->upd H L.d (kO L.d F) b=some o:=λb o e n=>by rw[zf n];show e
  have G':LdG L (upd H L.d (kO L.d F)):=BG.close s zi hh (ks:=ks) (D'.st λb ys e=>by
   have n:b≠L.d:=λz=>by rw[z,zi] at e;cases e
   rw[zf n] at e ⊢;show e) λq J=>(h7 q J).st O s
  obtain⟨_,va,o,ys,e1,e2,e3⟩:=(h7 _ (zmS e)).st O s;obtain rfl:v = .ref va:=e1;show k va o ys _ e2 e3 G' s
 | none=>
  show iteT ?_;have hR:=BG.room;show#[_,BB,L.a,L.C,L.dx,_,_,BB,U _,c.cl,c.n1,zgY _ _ _ _,_,BB,L.a,L.C,L.dx,_,_,BB,U _,c.cl,c.n2,zhF _ _ _ _,_,BB,_,BB,L.a,L.C,L.dx,_,_,BB,U _,c.cl,c.n3,zlO _ _ _ _,?_];show#[.ref ra,x3,ba,sa,L.rm,xs,L.bk,st,L.hs,BB,hR.pos,hR.few,#[I _ _ h3.at',h3.is.stayT I (zaa _),h3.ok],hR.box,I _ _ B,Z.len,zaC.stayT h4 I,?_];rintro l H2 nl ⟨ys,hl,an⟩ S;show#[l,ys,BB,hl,λo=>?_];have ad:L.d≠l:=zc zi nl;have ap:H l=none:=by rwa[zf ad.symm] at nl
  have Y:yT (upd H L.d (.dT (zds ks))) (upd H2 l (.frz o (.lst ys))):=λb u e=>by rw[zf (zc e nl)];show S b u e
  show#[_,BB,L.a,L.C,L.dx,_,_,BB,Y _ _ (U _),c.cl,c.n4,zaL _ _ _ _,_,BB,L.d,_,BB,zfE.i (st:=st) (Y _ _ zi) (Y _ _ (I _ _ B)) (bg (LdE.len hR h7 (DTo.nd h6)) (by ext)),?_];have e':uE (zah ks st (.ref l)) st=some (.ref l):=by rw[zmT,if_pos rfl]
  show#[_,BB,L.a,L.C,L.dx,_,_,BB,by rw[zf ac];show Y _ _ (U _),c.cl,c.n4,zaL _ _ _ _,_,BB,L.d,.ref l,BB,by rw[<- e'];show zc0.i (st:=st) zi (by rw[zf ag];show Y _ _ (I _ _ B)),L.d,_,zi,λF D' hh=>?_];rw[zeD];have s:∀b u,H b=some u->b≠L.d->upd (upd H2 l (.frz o (.lst ys))) L.d (kO L.d F) b=some u:=λb u e n=>by rw[zf n];show Y b u (by rw[zf n];show e)
  have el:upd (upd H2 l (.frz o (.lst ys))) L.d (kO L.d F) l=some (.frz o (.lst ys)):=by rw[zf ad.symm,zi]
  have ey:IsL (upd (upd H2 l (.frz o (.lst ys))) L.d (kO L.d F)) ((zbr L.bk st L.hs).map stD) ys:=an.stayT (λb zs e=>by
   have n1:b≠l:=λz=>by rw[z,hl] at e;cases e
   have n2:b≠L.d:=λz=>by rw[z,S _ _ zi] at e;cases e
   rw[zf n2,zf n1];show e) (xC _)
  show k l o ys _ el ey (BG.close s zi hh (ks:=zah ks st (.ref l)) (D'.st λb zs e=>?_) λq J=>?_) s;have n:b≠L.d:=λz=>by rw[z,zi] at e;cases e
  rw[zf n] at e ⊢;show e;rw[zme _ e] at J;rcases ax.mp J with J | J;show (h7 q J).st O s;obtain rfl:=ao.mp J;show#[Z,l,o,ys,BB,el,ey]
end
end L3
namespace L2
open PyProof.Rows PySem.SeqAt
def rInF (q:Bool):R2:=λx y H Q=>∃ (d:Dt) (ds:AS) (a:Addr) (ob:Obj) (xs:AT),y = .ref a/\H a=some (.frz ob (.lst xs))/\IsL H ds xs/\Is H d x/\d.eqOk/\(Dt.lst ds).eqOk/\∀b:Bool,(b=true↔d∈ds)->Q (.bl (if q then !b else b)) H
section
variable {X:Cx}
def zr0 (F:X.A.units+64<cLine):OpQ X (compareOp .In) (rInF false):=#[by
 intro BC s G H x y v u Q I J O h;obtain⟨d,ds,a,ob,xs,rfl,U,Y,Z,B,ks,q⟩:=h;cases O;obtain⟨as,ra⟩:=xg I.hok 8 Z J B;obtain⟨l1,l2,l3⟩:=znj B ks F;obtain⟨_,_,ac,m,rv,e⟩:=(show yk X.prog X.w H s.heap a (.frz ob (.lst xs)) from I.hok a _ U);obtain⟨bs,r⟩:=ug I.hok 7 Y rv (by have k':PySem.W.kqdOk 8 (Dt.lst ds).toW=true:=ks;simpa [Dt.toW,PySem.W.kqdOk] using k');show in_list_reads (reads_list_at e BB BB (by simpa using r)) ra l1 l2 l3 #[.bl _,H,I,BB,q _ (zfI B ks)]]
end
end L2
namespace L3
open L2
def Pen.but{ns:AG}(h:Pen H p c ns n)(q:∀BD,H d≠some (.dK BD))(B:∀ob xs,H d≠some (.frz ob (.lst xs)))(s:∀b o,H b=some o->b≠d->H' b=some o):Pen H' p c ns n:=by obtain⟨⟨a,l,h1,h2⟩,F,I⟩:=h;show#[#[a,l,s _ _ h1 (λz=>q _ (z ▸ h1)),h2],(F.but λ_ _ _ e=>s _ _ e (λz=>B _ _ (z ▸ e))),I]
mutual
theorem zja {H H':Hp}(s:∀b o,H b=some o->(∀BD,o≠.dT BD)->H' b=some o):∀ {x:Dt} {v:V},Is H x v->Is H' x v
 | .non,_,h=>h
 | .bl _,_,h=>h
 | .int _,_,h=>h
 | .str _,_,h=>h
 | .tup l,_,h=>by obtain⟨p,xs,e,hp,hl⟩:=h;show#[p,xs,e,s _ _ hp (λ_ z=>by cases z),zf4 s hl]
 | .lst l,_,h=>by obtain⟨p,xs,e,hp,hl⟩:=h;show#[p,xs,e,s _ _ hp (λ_ z=>by cases z),zf4 s hl]
 | .dct,_,h=>by obtain⟨p,xs,e,hp,hl⟩:=h;show#[p,xs,e,s _ _ hp (λ_ z=>by cases z),hl]
theorem zf4 {H H':Hp}(s:∀b o,H b=some o->(∀BD,o≠.dT BD)->H' b=some o):∀ {ds:AS} {xs:AT},IsL H ds xs->IsL H' ds xs
 | [],_,h=>h
 | d::ds,xs,h=>by obtain⟨x,r,e,h1,h2⟩:=h;show#[x,r,e,zja s h1,zf4 s h2]
end
abbrev W.isD:W->Bool
 | .d _=>true
 | _=>false
theorem zhl(s:∀b o,yg A H b=some o->(∀BD,o≠.dT BD)->yg A H' b=some o):∀ {q:AU} {vs:AT},(q.all W.isD)=true->za9 A H q vs->za9 A H' q vs
 | [],_,_,h=>h
 | w::q,vs,n,h=>by
  obtain⟨v,r,e,h1,h2⟩:=h;rw[dF,bE] at n;show#[v,r,e,?_,zhl s n.2 h2]
  cases w with
  | d x=>show Val.of (zja s (Val.is h1))
  | _=>cases n.1
section
variable {X:Cx}{Pn:PN}{M:AR}{fr:Bool}{e:Expr}{f:AD}
abbrev onFl (w:W) (P:AS->Prop):Prop:=match w with | .fl i=>P i | _=>False
def zpd:onFl w P = ∃i,w = .fl i/\P i:=propext #[λh=>by cases w <;> first | show False.elim h | show#[_,BB,h],by right]
abbrev dInF (q:Bool):W->W->Mo W:=λx y n Q=>onD x λd=>onFl y λds=>d.eqOk/\(Dt.lst ds).eqOk/\∀b:Bool,(b=true↔d∈ds)->Q (.d (.bl (xr q b))) n
def zvP:F2 Pn false (rInF q) (dInF q):=#[by
 rintro A H x y wx wy n Q R al I B P h k;simp only[dInF,xD,zpd] at h;obtain⟨d,rfl,ds,rfl,J,O,h⟩:=h;obtain⟨U,ob,xs,rfl,F,Y⟩:=B;show#[d,ds,U,ob,xs,BB,F,Y.stay (zy.same zo),I.is,J,O,λb Z=>by rw[ztv];show k _ n _ H (h b Z) (Val.of BB) (Go.refl P) λz=>by cases z]]
def znk (P:Aa)(w:Ab)(C:Addr)(Pn:PN)(i:Nat)(fs:AC):AD:=λD n R=>∃L,Pn.J=ldJ L/\L.P=P/\L.w=w/\L.C=C/\D[i]?=some (some (.pen L.a))/\fs D n λq m=>∃st,q=[.d (stD st)]/\StOk L.rm st/\R (.fl ((zbr L.bk st L.hs).map stD)) m
def zmr(hi:i∉M)(ra:RA Pn M t fs):RE Pn M false (zs8 C "after" (zex P w C) [] E' (za4 i) t) (znk P w C Pn i fs):=#[by
 rintro A G H D n Q R E Pp ⟨L,U,rfl,rfl,rfl,Y,hf⟩ k;obtain⟨v,hv,Z,_⟩:=E.val i _ Y;obtain rfl:v = .ref L.a:=Z hi;have G0:LdG L (yg A H):=by have:=Pp.2;rw[U] at this;show this
 obtain⟨a1,ba,xs,x3,ob,ks,h1,h2,h3,h4,h5,_,h6,h7⟩:=G0.at;show#[_,hv,L.a,L.dx,_,BB,zo _ _ h1,zjl _ _ _ _,?_];show ra.run A G H D n _ _ E Pp hf ?_;rintro ws m vs H1 ⟨st,rfl,ac,r⟩ ad g;obtain⟨v1,zx,rfl,b1,b2⟩:=ad;obtain rfl:zx=[]:=b2;obtain⟨sa,rfl,ag⟩:=ztt b1;have G1:LdG L (yg A H1):=by have:=g.pn.2;rw[U] at this;show this
 obtain⟨_,_,_,_,an,_,_,_,_,_,g5,g6,_,_⟩:=G1.at;obtain⟨nd,B⟩:=ya.mp g5;have al:Al A H1:=(E.stay g.st).al;show#[L,st,sa,BB,BB,BB,BB,G1.sm λb o e _=>zo _ _ e,ac,ag,λva o ys H' e1 e2 G' s=>?_];have F:∀b,A b->∃u,H' b=some u/\NP u/\Mt u:=λb O=>by obtain⟨u,q,J,I⟩:=al b O;show#[u,s b u q (λz=>nd (z ▸ O)),J,I]
 have ap:¬ A va:=λz=>by obtain⟨u,q,J,I⟩:=F va z;rw[e1] at q;cases q;cases I
 have as:∀b xs,A b->H' b≠some (.tup xs):=λb xs O e=>by obtain⟨u,q,J,I⟩:=F b O;rw[e] at q;cases q;cases I
 have np:¬ NP (kO L.d an):=zrM g6;have a0:zy H1 H':=λb u e n=>s b u e λz=>by subst z;rw[B] at e;cases e;show np n
 show k _ m _ H' r #[va,o,ys,BB,zG ap e1,zbe as (xC _) e2] #[g.st.trans a0,?_,?_] λz=>by cases z
 have hp:=g.pn.1;split at hp;trivial;show#[Pen.but hp.1 (λ_ z=>by rw[B] at z;cases z) (λ_ _ z=>by rw[B] at z;cases z) s,hp.2];rw[U];show G'.sm λb u e n=>zG (λz=>?_) e;obtain⟨u',q,J,I⟩:=F b z;rw[e] at q;cases q;rcases n with n | n;rw[show imm u=false from I] at n;cases n;show n J]
def mFnL (k:Nat)(P:Aa)(w:Ab)(C:Addr)(F:PN->AU->Mo W)(Pn:PN)(dv:AU)(I O:AC):AD:=λD n R=>Pn.J=J0/\I D n λws1 U=>∃rm bk hs B,ws1++dv=[.d (stD rm),.d (uF bk),B]/\(B = .d (stD hs)\/hs=[]/\B = .d .non)/\RoomOk rm/\za8 rm bk/\
 O D U λq Y=>q.length+1=k/\q.all W.isD=true/\∀L:LdI,L.P=P->L.w=w->L.C=C->L.rm=rm->L.bk=bk->L.hs=hs->F #[Pn.pn,ldJ L] (.pen L.a::q) Y R
def zsK(ap:∀A H,za9 A H dv dvs)(r1:RA Pn M t1 f1)(r2:RA Pn M t2 f2) :
  RE Pn M fr (zdd (spV k fr F) [] E0 (znO P w (zbQ (zs7 C (zey C) dvs E' t1) t2))) (mFnL k P w C F Pn dv f1 f2):=#[by
 rintro A G H D n Q R E Pp ⟨hJ,hf⟩ kk;show r1.run A G H D n _ _ E Pp hf ?_;rintro ws1 m1 J H1 ⟨rm,bk,hs,v3,B,as,hR,hB,O⟩ b1 g1 x dx nx U Y;have E1:=E.stay g1.st
 have bb:za9 A H1 (ws1++dv) (J++dvs):=by
  clear B O
  induction ws1 generalizing J with
  | nil=>cases b1;show ap A H1
  | cons w0 ws1 ih=>obtain⟨v,r,rfl,q1,q2⟩:=b1;show#[v,_,BB,q1,ih _ q2]
 rw[B] at bb;obtain⟨y1,y2,y3,ev,q1,q2,q3⟩:=zv6 bb;rw[ev];have s1:yT H1 (upd (upd H1 dx (.own x)) x (.ins C dx [])):=λb o e=>by rw[zf (zc e nx),zf (zc e U)];show e
 show#[x,dx,y1,y2,y3,BB,zi,λd H2 nd h1 h2 Z=>#[BB,?_]];have ac:x≠d:=λe=>by rw[<- e,zi] at nd;cases nd
 have s2:yT H1 H2:=λb o e=>Z b o (s1 b o e) (zc e nx);have a0:H2 dx=some (.own x):=Z _ _ (by rw[zf Y,zi]) Y;have ad:H1 d=none:=s1.free nd;have E2:=E1.stay (zy.same s2);show r2.run A G H2 D m1 _ _ E2 (g1.pn.same s2) O ?_;rintro a1 m2 a2 H3 ⟨hk,a3,hF⟩ b2 g2;have z1:H3 x=some (.ins C dx (ldF y1 y2 y3 d)):=g2.st _ _ h1 λk q=>by cases q
 have z2:H3 d=some (.dT []):=g2.st _ _ h2 λk q=>by cases q
 have z3:H3 dx=some (.own x):=g2.st _ _ a0 λk q=>by cases q
 show#[d,[],z2,λob BH hh=>?_];have E3:=E2.stay g2.st;have ag:¬ A d:=E1.new ad;have I:∀b o,H3 b=some o->b≠d->upd H3 d (kO d ob) b=some o:=λb o e n=>by rw[zf n];show e
 have s5:∀b o,yg A H3 b=some o->(∀BD,o≠.dT BD)->yg A (upd H3 d (kO d ob)) b=some o:=λb o e n=>by obtain⟨B,e2⟩:=ya.mp e;show zG B (I b o e2 λz=>by rw[z,z2] at e2;cases e2;show n _ BB)
 have an:zy H1 H3:=(zy.same s2).trans g2.st;have sH:zy H (upd H3 d (kO d ob)):=λb o e np=>by have B:=g1.st b o e np;show I b o (an b o B np) λz=>by rw[z,ad] at B;cases B
 have up:∀ {x:Dt} {v:V},Val A H1 (.d x) v->Is (yg A (upd H3 d (kO d ob))) x v:=λh=>zja s5 (Val.is (h.stay an))
 have BG:LdG #[P,w,C,x,dx,d,rm,bk,hs] (yg A (upd H3 d (kO d ob))):=by
  show#[#[y1,y2,y3,ob,[],zG (E1.new nx) (I _ _ z1 ac),zG (E1.new U) (I _ _ z3 λz=>?_),up q1,up q2,?_,zG ag zi,hh,?_,λq z=>by cases z],hR,hB];have z:dx=d:=z;rw[z,z2] at z3;cases z3;rcases as with rfl | ⟨rfl,rfl⟩;obtain⟨p,ys,rfl,i1,i2⟩:=up q3;obtain rfl:=i2.of_ints;show .inr #[p,BB,i1];show .inl #[up q3,BB];obtain⟨u1,u2,us,u3,u4⟩:=BH;cases u3;show#[u1,u2,[],.nil,u4]
 change spV k fr F ((V.ref x::a2)++[]) _ Q E0;rw[cN];show#[#[Pn.pn,ldJ #[P,w,C,x,dx,d,rm,bk,hs]],A,.pen x::a1,m2,R,λa ha=>?_,#[_,_,BB,BB,zhl s5 a3 b2],hk,#[?_,BG],hF _ BB BB BB BB BB BB,λw' m' v H' h1 h2 Z h4=>kk w' m' v H' h1 h2 #[sH.trans Z.st,Z.pn.1,by rw[hJ];trivial] λz=>(h4 z).back sH];obtain⟨o,i1,i2⟩:=E3.al a ha;show#[o,I a o i1 (λz=>ag (z ▸ ha)),i2];have hp:=g2.pn.1;change match Pn.pn with | none=>True | some (p,c,ns)=>Pen _ p c ns m2/\(∀r,ns=0::r->¬ A c)/\¬ A p
 generalize Pn.pn=o at hp ⊢;rcases o with _ | ⟨p,c,ns⟩;trivial;show#[Pen.but hp.1 (λ_ z=>by rw[z2] at z;cases z) (λ_ _ z=>by rw[z2] at z;cases z) I,hp.2]]
end
def ym (s:Stmt)(i:Nat):Stmt:=match s with
 | .ClassDef (body:=b) ..=>b.getD i (.Pass #[0,0,0,0])
 | _=>.Pass #[0,0,0,0]
structure LdT (K:AH)(mg:AI)(s:Stmt)(C fI fA:Addr)(dI dA:Ac):Prop where
 c:LdC K C
 mM:Mk K C fI
 me:Meth K C "after" fA
 m:mg "Leads" = some (.ref C)
 FI:FunD K "__init__" "Leads.__init__" (ym s 0) fI dI
 FA:Fun K "after" "Leads.after" (ym s 1) fA dA
 b:zad K dI [Ai,Aj,Ak,Am] []
 bd:zad K dI [Ai,Aj,Ak,Am] [Value.none]
 bA:zad K dA [Ai,An] []
def Cm(X:K.In h)(BG:h.Ns mainGlobals mg)(a:PySem.W.nsIn K mainGlobals "Leads" = some (some (.ref C)))(a1:PySem.W.findIn K (.ref C) "__init__" = some (some (.ref Z)))(i1:PySem.W.isFn K (.ref Z)=true)(l1:K.lookup Z=some #[as,a3,.func (PySem.W.fnOf "__init__" "Leads.__init__" (yb (ym st 0)) (zC (ym st 0)) (zd (ym st 0)) (.ref T) B F I O q J),a7])(c1:PySem.W.codeIn K q "Leads.__init__" = true)(k1:PySem.W.keepIn K (.ref Z)=true)(t:K.lookup T=some #[ot,a5,.seq Y n3,bb])(a2:PySem.W.findIn K (.ref C) "after" = some (some (.ref f2)))(i2:PySem.W.isFn K (.ref f2)=true)(l2:K.lookup f2=some #[a0,a4,.func (PySem.W.fnOf "after" "Leads.after" (yb (ym st 1)) (zC (ym st 1)) (zd (ym st 1)) .none ac ad ag ap U al),ba])(c2:PySem.W.codeIn K U "Leads.after" = true)(k2:PySem.W.keepIn K (.ref f2)=true)(pg:PySem.W.plainGet K C Str.empty=true)(hd:PySem.W.hasDictIn K C=true)(po:PySem.W.plainOver K C=true)(sa:PySem.W.findIn K (.ref C) "__setattr__" = some (some (.builtin "object.__setattr__")))(mk:PySem.W.makesIn K C=true)(kc:PySem.W.keepIn K (.ref C)=true)(n1:PySem.W.findIn K (.ref C) "room" = some none)(n2:PySem.W.findIn K (.ref C) "wishes" = some none)(n3:PySem.W.findIn K (.ref C) "held" = some none)(n4:PySem.W.findIn K (.ref C) "known" = some none)(b:∀us:AN,(us++[]).length=4->∃k:Option AK->Sem (List (Str×Value)),bindArgs (PySem.W.fnOf "__init__" "Leads.__init__" (yb (ym st 0)) (zC (ym st 0)) (zd (ym st 0)) (.ref T) B F I O q J) #[us,[]]=seqItems? (.ref T) >>= k/\k (some Y)=pure (([Ai,Aj,Ak,Am]:AM).zip (us++[])))(e:∀us:AN,(us++[Value.none]).length=4->∃k:Option AK->Sem (List (Str×Value)),bindArgs (PySem.W.fnOf "__init__" "Leads.__init__" (yb (ym st 0)) (zC (ym st 0)) (zd (ym st 0)) (.ref T) B F I O q J) #[us,[]]=seqItems? (.ref T) >>= k/\k (some Y)=pure (([Ai,Aj,Ak,Am]:AM).zip (us++[Value.none])))(bA:∀ (kV dc pm:Value) (an:Option Addr) (cd ct:Value) (us:AN),us.length=2->bindArgs (PySem.W.fnOf "after" "Leads.after" (yb (ym st 1)) (zC (ym st 1)) (zd (ym st 1)) .none kV dc pm an cd ct) #[us,[]]=pure (([Ai,An]:AM).zip us)) :
  LdT K mg st C Z f2 (PySem.W.fnOf "__init__" "Leads.__init__" (yb (ym st 0)) (zC (ym st 0)) (zd (ym st 0)) (.ref T) B F I O q J) (PySem.W.fnOf "after" "Leads.after" (yb (ym st 1)) (zC (ym st 1)) (zd (ym st 1)) .none ac ad ag ap U al):=
 #[#[#[pg,hd,po,sa],n1,n2,n3,n4],#[mk,a1,i1,kc],#[a2,i2,k2],PySem.W.mg_of X BG a,ziU l1 c1 k1,zgP l2 c2 k2,zgE l1 BB t b,zgE l1 BB t e,(zgP l2 c2 k2).binds bA]
section
variable {X:Cx}{Pn:PN}{M:AR}{fr:Bool}{s:Stmt}{C fI fA:Addr}{dI dA:Ac}
def zoG {x:Str}{i j kk:Nat}{p apos pos:Pos}{e:Expr}{fs:AC}{pl:Sem Bool}(P:Aa)(w:Ab)(hP:X.prog=P)(hw:X.w=w)(T:LdT X.K X.mg s C fI fA dI dA)(BG:FnOk X.prog X.w X.K X.mg X.base CX0 j fA dA [Ai,An] (zex P w C))(hr:Room kk X.A)(hv:QE X (.Name x p) (za4 i))(hi:i∉M)(ha:JA X Pn M [e] fs)(hjk:j<=kk:=by ext)
  (hst:starEach [e] X.env=(false,eval e X.env)::starEach [] X.env:=by rfl) (hpl:(backTo pos (starEach [] X.env)).any (·.1)=false:=by rfl)
  (ht:eval (.Call (.Attribute (.Name x p) "after" apos) [e] [] pos) X.env=(do
   let ov <- eval (.Name x p) X.env
   standAt apos.atName
   let (f,first) <- holding [ov] (getMethod ov "after" pl)
   callWith pos f first (backTo pos (starEach [e] X.env)) (backToKw pos (keywordEach [] X.env))):=by rfl) :
  JE X Pn M false (.Call (.Attribute (.Name x p) "after" apos) [e] [] pos) (znk P w C Pn i fs):=by
 obtain⟨t,q,r⟩:=ha.ex;show#[_,#[zps hv.run T.c.cl T.me BG (hr.mono hjk) T.bA .nil zjY q.run hst hpl ht],zmr hi r]
def zuJ{x:Str}{st:Stmt}{ps:AM}{f:Addr}{fd:Ac}{F:PN->AU->Mo W}{dv:AU}{dvs:AT}{p p1 pos B:Pos}{q es:AO}{f1 f2:AC}(P:Aa)(w:Ab)(hP:X.prog=P)(hw:X.w=w)(T:LdT X.K X.mg s C fI fA dI dA)(BH:Dfn X.K X.mg x st ps f fd)(GI:FnOk X.prog X.w X.K X.mg X.base CX0 jI fI dI [Ai,Aj,Ak,Am] (zey C))(BG:FnOk X.prog X.w X.K X.mg X.base CX0 j f fd ps (spV k fr F))(hr:Room O X.A)(hb:zad X.K dI [Ai,Aj,Ak,Am] ds)(hd:zR dvs ds)(U:∀A H,za9 A H dv dvs)(h1:JA X Pn M (I::q) f1)(h2:JA X Pn M es f2)(Y:j<=O:=by ext)(Z:jI+1<=O:=by ext)(hg:Gl X x:=by rfl)(ac:Ah x:=by ext)(ad:Gl X "Leads" := by rfl)(ag:starEach (I::q) X.env=(false,eval I X.env)::starEach q X.env:=by rfl)(J:(backTo B (starEach q X.env)).any (·.1)=false:=by rfl)(he:starEach (.Call (.Name "Leads" p1) (I::q) [] B::es) X.env=(false,eval (.Call (.Name "Leads" p1) (I::q) [] B) X.env)::starEach es X.env:=by rfl)(al:(backTo pos (starEach es X.env)).any (·.1)=false:=by rfl) :
  JE X Pn M fr (.Call (.Name x p) (.Call (.Name "Leads" p1) (I::q) [] B::es) [] pos) (mFnL k P w C F Pn dv f1 f2):=by
 subst hP hw;obtain⟨t1,q1,r1⟩:=h1.ex;obtain⟨t2,q2,r2⟩:=h2.ex;show#[_,#[zr7 BH BG hr (zpk (zbk (zpr T.mM GI (hr.mono Z) ad T.m hb hd zjY q1.run (by ext) ag J) q2.run he)) Y hg ac he al],zsK U r1 r2]
def zo0 (C:Addr)(Pn:PN)(i:Nat):AD:=λD n R=>∃L,Pn.J=ldJ L/\L.C=C/\D[i]?=some (some (.pen L.a))/\R (.d (stD L.rm)) n
def zlF(I:LdC X.K C)(q:QE X (.Name x p) (za4 i))(hi:i∉M)(J:attributeBase (.Name x p) "room" X.env (eval (.Name x p) X.env)=eval (.Name x p) X.env:=by rfl):JE X Pn M false (.Attribute (.Name x p) "room" pos) (zo0 C Pn i):=by
 show#[_,#[zcE q.run J],#[?_]];rintro A G H D n Q R E Pp ⟨L,O,rfl,B,r⟩ k;obtain⟨v,q,F,_⟩:=E.val i _ B;obtain rfl:v = .ref L.a:=F hi;have G0:LdG L (yg A H):=by have:=Pp.2;rw[O] at this;show this
 obtain⟨ra,U,xs,Y,ob,ks,h1,h2,Z⟩:=G0.at;show#[_,q,L.a,L.C,L.dx,_,_,BB,zo _ _ h1,I.cl,I.n1,zgY _ _ _ _,k _ n _ H r (Val.of #[ra,_,BB,h2,IsL.ints]) (Go.refl Pp) λz=>by cases z]
end
end L3
namespace L2
open PyProof.Rows PySem.SeqAt
def okT:Nat->Dt->Bool
 | _,.non=>true
 | _,.int _=>true
 | _,.bl _=>true
 | _,.str x=>PyData.strOk x
 | n+1,.tup l=>l.all (okT n)
 | n+1,.lst l=>l.all (okT n)
 | _,_=>false
abbrev Dt.py (d:Dt):PyData:=PySem.W.kqdP d.toW
section
variable {P:Aa}{w:Ab}{H:Hp}{h:Heap}
variable {X:Cx}
end
end L2
namespace L3
open L2
section
variable {X:Cx}{Pn:PN}{M:AR}{e:Expr}{f:AD}{pos p:Pos}
abbrev dNeT:W->W->Mo W:=λx y n Q=>onD x λd=>onD y λe=>d=e/\okT 8 d=true/\Q (.d (.bl false)) n
abbrev dNiT:W->W->Mo W:=λx y n Q=>onD x λd=>onL y λds=>okT 8 d=true/\(Dt.lst ds).eqOk/\∀b:Bool,(d∈ds->b=true)->(b=true->∃e∈ds,PyData.eqv e.py d.py=true)->Q (.d (.bl (!b))) n
abbrev ztE (f:AD):AD:=λD n Q=>f D n λx q=>onL x λl=>∃BF:AF,l=BF.map stD/\(∀ks:AF,ks.Nodup->(∀z∈ks,z∈BF)->ks.length<300)/\∀ks:AF,ks.Nodup->(∀st,st∈ks↔st∈BF)->Q (.d (.int (ks.length:Nat))) q
end
end L3
namespace L2
open PyProof.Rows
section
variable {X:Cx}
end
end L2
namespace L3
open L2
section
variable {Pn:PN}
abbrev dMaxT:AU->Mo W:=λq n Q=>on1 q λx=>∃ns:AG,x = .d (stD ns)/\ns≠[]/\∀m,m∈ns->(∀x∈ns,x<=m)->Q (.d (.int m)) n
end
end L3
namespace L2
open PyProof.Rows
end L2
namespace L3
open L2
section
variable {X:Cx}{Pn:PN}{M S:AR}{fr:Bool}{a:Expr}{pos p:Pos}
def W.nl:W->Prop
 | .d x=>x.noL=true
 | .pen _=>True
 | _=>False
def Fg:Ev->Ev->Prop
 | [],q=>q=[]
 | o::D,q=>∃o' r,q=o'::r/\(o'=none\/(o'=o/\∀w,o=some w->w.nl))/\Fg D r
abbrev mInClr (i:Nat):Ms:=λD n k=>∃F l st q,D[i]?=some (some (.d (.tup [F,.lst l])))/\F.noL=true/\stD st∈l/\Fg D q/\onP q i (.d (.tup [F,.lst []])) λB=>k.nx B n
end
end L3
namespace L2
open PyProof.Rows PySem.W PySem.SeqAt
section
variable {X:Cx}
end
end L2
namespace L3
open L2
section
variable {X:Cx}{Pn:PN}{M S:AR}{fr fr':Bool}{e:Expr}{f:AD}{pos:Pos}
abbrev W.pl:W->W
 | .ad _ x=>.d x
 | w=>w
abbrev mVarA (i:Nat):AD:=λD n Q=>onV D i λw=>Q w.pl n
abbrev mSetA (i:Nat) (f:AD):Ms:=λD n k=>f D n λw m=>match w with
 | .d (.lst l)=>Dt.noLs l=true/\∀a,onP D i (.ad a (.lst l)) λq=>k.nx q m
 | w=>onP D i w λq=>k.nx q m
def NewA (q:Addr)(D:Ev):Prop:=∀ (j:Nat) (a:Addr) (l:AS),D[j]?=some (some (W.ad a (.lst l)))->a≠q
abbrev mSetW (i:Nat) (f:AD):Ms:=λD n k=>∃ q,Fg D q/\f q n λw m=>match w with
 | .d (.tup [F,.lst l])=>F.noL=true/\Dt.noLs l=true/\∀I,NewA I D->onP D i (.ad I (.tup [F,.lst l])) λB=>k.nx B m
 | _=>False
def W.nlA (q:Addr):W->Prop
 | .d x=>x.noL=true
 | .pen _=>True
 | .ad a _=>a≠q
 | _=>False
def FgA (B:Addr):Ev->Ev->Prop
 | [],q=>q=[]
 | o::D,q=>∃o' r,q=o'::r/\(o'=none\/(o'=o/\∀w,o=some w->w.nlA B))/\FgA B D r
abbrev mInApp (i:Nat):Ms:=λD n k=>onV D i λw=>match w with
 | .ad B (.tup [_,.lst l])=>l.length<10000/\∃ q,FgA B D q/\k.nx q n
 | _=>False
abbrev mRem (i:Nat) (fk:AD):Ms:=λD n k=>onV D i λv=>onL v λl=>fk D n λy m=>onI y λj=>∃ns:AG,l=ns.map Dt.int/\j∈ns/\onP D i (.d (lsD (ns.erase j))) λq=>k.nx q m
end
end L3
namespace L3
open L2
section
variable {X:Cx}{Pn:PN}{M S:AR}{fr fr':Bool}{e:Expr}{f:AD}{pos:Pos}
def One (x:Dt):Prop:=∃q l,x = .tup (q++[.lst l])/\Dt.noLs q=true/\Dt.noLs l=true
def NewB (q:Addr)(D:Ev):Prop:=∀ (j:Nat) (a:Addr) (x:Dt),D[j]?=some (some (W.ad a x))->One x->a≠q
abbrev mSetB (i:Nat) (f:AD):Ms:=λD n k=>∃ B,Fg D B/\f B n λw m=>onD w λx=>
 (x.noL=true/\onP D i (.d x) λq=>k.nx q m)\/(One x/\∀F,NewB F D->onP D i (.ad F x) λq=>k.nx q m)
abbrev ztO (i:Nat):Ms:=λD n k=>onV D i λw=>match w with
 | .ad F x=>One x/\(∀B l,x = .tup (B++[.lst l])->l.length<10000)/\∃ q,FgA F D q/\k.nx q n
 | _=>False
abbrev dGivA (i:Nat) (F:AU->Mo W) (O U:AD):Ms:=λD n k=>O D n λI Y=>U D Y λJ Z=>onV D i λw=>match w with
 | .ad ad (.lst l)=>(I.nl/\J.nl/\Dt.noLs l=true)/\∃ q,FgA ad D q/\F [I,J,.d (.lst l)] Z λw' m'=>match w' with
  | .d (.lst l')=>Dt.noLs l'=true/\∀a',onP q i (.ad a' (.lst l')) λB=>k.nx B m'
  | _=>False
 | _=>False
end
end L3
namespace L2
open PyProof.Rows PySem.W PySem.Calls
section
variable {X:Cx}{pos:Pos}
end
end L2
namespace L3
open L2
section
variable {X:Cx}{Pn:PN}{M S:AR}{fr fr':Bool}{pos p:Pos}{e a b c:Expr}{f fa fb fc:AD}
abbrev dDisp1 (fk fv:AD):AD:=λD n Q=>fk D n λy m=>fv D m λx q=>∃st,y = .d (stD st)/\onD x λd=>Q (.dt [(st,d)]) q
abbrev dNinT (fk fd:AD):AD:=λD n Q=>fk D n λy q=>fd D q λx B=>onE x λBD=>∃st,y = .d (stD st)/\Q (.d (.bl (!(zc4 BD st).isSome))) B
abbrev dSortZ:AU->Mo W:=λF n Q=>on1 F λx=>onZ x λBD=>∃m:Nat,1<=m/\(∀q∈BD,q.1.length=m)/\∀B:AF,B.Perm (BD.map (·.1))->(B.Pairwise λa b=>HT.lexLt a b=true)->Q (.d (zaB B)) n
abbrev dRetZ (i:Nat) (f:AD):Ms:=λD n k=>onV D i λx=>onE x λBD=>f D n λw m=>onD w λd=>k.rt (.tz BD d) m
abbrev dIxZ:W->W->Mo W:=λx y n Q=>match x with
 | .tz BD d=>match y with
  | .d (.int i)=>match i with
   | .ofNat 0=>Q (.df BD) n
   | .ofNat 1=>Q (.d d) n
   | _=>False
  | _=>False
 | _=>False
abbrev dForP (i:Nat) (F:AU->Mo W) (q B:AD) (mg:W->Ev->(Ev->Prop)->Prop) (fs:Ms):Ms:=λD n k=>q D n λI J=>onV D i λx=>onL x λl=>∃l' d,l=l'++[d]/\B (D.set i (some (.d (.lst l')))) J λO U=>F [I,.d d,O] U λw m=>onL w λr=>zoq mg fs (D.set i (some (.d (.lst l')))) k (r.map W.d) m
variable {p1 p2 p3 p4:Pos}{apos cpos:Pos}
abbrev dGetK (fd fk q:AD):AD:=λD n Q=>fd D n λx B=>onK x λBD=>fk D B λy F=>q D F λz I=>onO (ztI y) λk=>onD z λd=>Q (.d ((zc4 BD k).getD d)) I
def At3.moveO(h:At3 Pn B S M A G H D n)(hi:i∈M)(hj:j∈M)(ap:i∉S)(e:D[j]?=some (some w))(s:G[j]?=some (some (.ref U))):At3 Pn B S M A (G.set i (some (.ref U))) H ((D.set j none).set i (some w)) n:=by
 have O:∀q (u:W),((D.set j none).set i (some w))[q]?=some (some u)->q≠i->q≠j/\D[q]?=some (some u):=λq u F Y=>by
  rw[aB (Ne.symm Y)] at F;by_cases ac:q=j;subst ac;have I:=(ah.mp F).1;rw[bI] at I;rw[aS I] at F;cases F;rw[aB (Ne.symm ac)] at F;show#[ac,F]
 have Z:∀ (u:W) (b:Addr),((D.set j none).set i (some w))[i]?=some (some u)->i<G.length/\u=w:=λu b F=>by have I:=(ah.mp F).1;rw[bI] at I;rw[aS I] at F;rw[bI] at I;show#[by rw[h.env.len];show I,by cases F;rfl]
 obtain⟨v0,s0,_,o0⟩:=h.env.val j w e;rw[s] at s0;cases s0;show#[#[by simp[h.env.len],λq u F=>?_,λq k u u' b Y hk ag e1 e2 s1 s2=>?_,h.env.al],h.frm,h.pn,h.prot,#[λk hk=>?_,h.fix.2],λq u b Y F sq=>?_];by_cases Y:q=i;subst Y;obtain⟨I,rfl⟩:=Z u U F;show#[.ref U,aS I,λz=>absurd hi z,λ_=>o0 hj];obtain⟨_,z⟩:=O q u F Y;rw[aB (Ne.symm Y)];show h.env.val q u z;by_cases J:q=i;subst J;obtain⟨I,rfl⟩:=Z u U e1;rw[aS I] at s1;cases s1;obtain⟨k1,k2⟩:=O k u' e2 (Ne.symm ag);rw[aB ag] at s2;show h.env.dis j k _ u' U hj hk (Ne.symm k1) e k2 s s2;obtain⟨q1,q2⟩:=O q u e1 J;rw[aB (Ne.symm J)] at s1;by_cases an:k=i;subst an;obtain⟨I,rfl⟩:=Z u' U e2;rw[aS I] at s2;cases s2;show h.env.dis q j u _ U Y hj q1 q2 e s1 s;obtain⟨_,k2⟩:=O k u' e2 an;rw[aB (Ne.symm an)] at s2;show h.env.dis q k u u' b Y hk ag q2 k2 s1 s2;rw[aB (show i≠k from λz=>ap (by rw[z];show hk))];show h.fix.1 k hk;by_cases J:q=i;subst J;obtain⟨I,rfl⟩:=Z u U F;rw[aS I] at sq;cases sq;show h.mine j _ U hj e s;rw[aB (Ne.symm J)] at sq;show h.mine q u b Y (O q u F J).2 sq
def zlI(j:Nat){x y:Str}{px O sp:Pos}(Z:X.N.Nodup)(hi:X.N[i]?=some x)(hx:Loc X.env.scope x)(U:j∈M:=by ext)(q:i∈M:=by ext)(F:i∉S:=by ext)(I:X.N[j]?=some y:=by rfl)(hv:Vis X.env.scope y:=by fail"v")(hd:Ah y:=by ext)(J:(y==("__classdict__" : Str))=false:=by ext)(hs:swapsWith (.Name y O) (some (.Name x px)) sp.line X.env=pure false:=by rfl)(hf:X.fn x=true\/X.env.scope.names.lookup x=some .local:=by fail"l"):JS X Pn S M fr (.Assign [.Name x px] (.Name y O) sp) (zo1 i j):=by
 show#[_,uU (i:=i) Z hi hx (qv j I hv hd J) hs hf,#[ ?_]];rintro B A G H D n k BH a kk ⟨w,e,r⟩;obtain⟨v,Y,_,s3⟩:=a.env.val j w e;obtain⟨ad,rfl,hA,_,_⟩:=s3 U;show#[.ref ad,Y,kk.nx _ _ H _ n (a.moveO q U F e Y) r]
end
end L3
namespace L2
open PyProof.Rows PySem.W PySem.Calls
section
variable {prog:Aa}{w:Ab}{A:Ae}{E:AA}{s:AZ}
variable {X:Cx}{pos:Pos}
end
end L2
namespace L3
open L2
section
variable {X:Cx}{Pn:PN}{M S:AR}{fr fr':Bool}{e:Expr}{f:AD}{pos:Pos}
abbrev dSetZ (i j:Nat) (f:AD):Ms:=λD n k=>f D n λw m=>match w with
 | .tz BD d=>onP D i (.df BD) λq=>onP q j (.d d) λB=>k.nx B m
 | _=>False
abbrev dSetAA (i j:Nat) (f:AD):Ms:=λD n k=>f D n λw m=>match w with
 | .d (.lst [.lst F,.lst I])=>Dt.noLs F=true/\Dt.noLs I=true/\∀a b,onP D i (.ad a (.lst F)) λq=>onP q j (.ad b (.lst I)) λB=>k.nx B m
 | _=>False
abbrev mInPop (i:Nat):Ms:=λD n k=>onV D i λw=>match w with
 | .ad B (.tup [_,.lst l])=>l≠[]/\∃ q,FgA B D q/\k.nx q n
 | _=>False
variable {K:AH}
abbrev zun:W->W->Mo W:=λx y n Q=>onB x λb=>onL y λl=>∃bs:List Bool,l=bs.map .bl/\Q (.d (.bl (!bs.contains b))) n
end
end L3
namespace L2
open PyProof.Rows PySem.W PySem.Calls
end L2
namespace L3
open L2
section
variable {X:Cx}{Pn:PN}{M S:AR}{es:AO}{pos:Pos}
abbrev dNinS (P:Aa) (w:Ab):W->W->Mo W:=λx y n Q=>∃ (st:AG) (ks:AF),x = .d (stD st)/\y = .ss P w ks/\∀c:Bool,(c=true↔st∈ks)->Q (.d (.bl (!c))) n
abbrev eTpL (n:Nat) (u:AS->Ev->(Ev->Prop)->Prop):W->Ev->(Ev->Prop)->Prop:=λw D Q=>onL w λds=>zcA n ds (u ds D Q)
variable {M':AR}{fr:Bool}
abbrev mRel (j:Nat) (fs:Ms):Ms:=λD n k=>onV D j λ_=>fs D n { rt:=k.rt,nx:=λ_ _=>False }
end
abbrev mNo:Ms:=λ_ _ _=>False
end L3
namespace L2
open PyProof.Rows
mutual
def Dt.pd:Dt->PyData
 | .non=>.none
 | .bl b=>.bool b
 | .int i=>.int i
 | .str x=>.str x
 | .tup l=>.tuple (Dt.pdL l)
 | .lst l=>.list (Dt.pdL l)
 | .dct=>.dict []
def Dt.pdL:AS->List PyData
 | []=>[]
 | d::l=>d.pd::Dt.pdL l
end
structure Shw (d:Dt):Prop where
 sh:d.pd.showable=true
 hd:d = .dct\/d.pd.hasDict=false
 dp:d.pd.depth<=90
 sz:d.pd.shown.length<=sizeLine
def shw (d:Dt):Str:=d.pd.shown
section
variable {P:Aa}{w:Ab}{H:Hp}{h:Heap}
mutual
theorem zhg (ok:HOk P w H h):∀ {d:Dt} {x:V} {u:Value},Is H d x->yo x u->∃as,Reads h u d.pd as/\(d = .dct->sysModules∉as)
 | .non,_,_,i,r=>by cases i;cases r;show#[_,.none,λz=>by cases z]
 | .bl b,_,_,i,r=>by cases i;cases r;show#[_,.bool _,λz=>by cases z]
 | .int k,_,_,i,r=>by cases i;obtain⟨t,rfl⟩:=r;show#[_,.int _ _,λz=>by cases z]
 | .str k,_,_,i,r=>by cases i;obtain⟨t,rfl⟩:=r;show#[_,.str _ _,λz=>by cases z]
 | .tup l,_,_,i,r=>by obtain⟨a,xs,rfl,ha,hl⟩:=i;cases r;obtain⟨_,its,rv,o,h1,h2,⟨n,h3⟩,_⟩:=ok a _ ha;obtain⟨as,q⟩:=zcJ ok hl rv;show#[as,.tuple h1 h2 h3 (by simpa using q),λz=>by cases z]
 | .lst l,_,_,i,r=>by obtain⟨a,xs,rfl,ha,hl⟩:=i;cases r;obtain⟨_,its,n,rv,h1⟩:=ok a _ ha;obtain⟨as,q⟩:=zcJ ok hl rv;show#[a::as,.list h1 BB BB (by simpa using q),λz=>by cases z]
 | .dct,_,_,i,r=>by
  obtain⟨a,BD,rfl,ha,rfl⟩:=i;cases r;obtain⟨_,hs,vs,kv,o,es,ep,h1,h2,h3,_,h4,_⟩:=ok a _ ha;cases kv;have he:es.toList=[]:=by have:=h4.length;show aU (by simpa using this)
  show#[[a],Reads.dict (kvs:=[]) (as:=[]) (bs:=[]) h1 h2.1 h3 (by rw[he];show .nil) (by rw[he];show .nil),λ_ z=>?_];rw[ao.mp z] at hs;simp at hs
theorem zcJ (ok:HOk P w H h):∀ {l:AS} {xs:AT} {us:AN},IsL H l xs->zR xs us->∃as,ReadsAll h us (Dt.pdL l) as
 | [],_,_,i,r=>by cases i;cases r;show#[_,.nil]
 | d::l,_,_,i,r=>by
  obtain⟨x,xs,rfl,i1,i2⟩:=i
  cases r with
  | cons r1 r2=>
   obtain⟨as,q,_⟩:=zhg ok i1 r1;obtain⟨bs,q2⟩:=zcJ ok i2 r2;show#[_,.cons q q2]
end
variable {X:Cx}
def zsE:AT->Hp->VK->Prop:=λxs H Q=>∃x d,xs=[x]/\Is H d x/\Shw d/\Q (.str (shw d)) H
def zis(U:Room k X.A):CallQ X (.builtin "repr") zsE:=#[by
 intro BC s G H xs us Q I r h;obtain⟨x,d,rfl,hi,hs,q⟩:=h;obtain⟨u,rfl,B⟩:=za7 r;have fin:∀tk J,EP X BC G Q (.str (shw d) tk) { s with toks:=J }:=λtk J=>#[.str (shw d),H,I.tok _,#[_,BB],q];obtain⟨as,rd,O⟩:=zhg I.hok hi B;have F:∀a,u = .ref a->Af X (call (.builtin "repr") [u]) (EP X BC G Q) X.xe s:=λa e=>by subst e;show repr_of_reads' rd hs.sh (λz=>hs.hd.elim O λy=>by rw[y] at z;cases z) U.gd (by have:=U.un;have:=hs.dp;lia) (λ_ _ e=>e) (λh' u tk hk=>?_) hs.sz;show#[.str (shw d),H,I.kept hk,#[_,BB],q]
 cases d with
 | non=>cases hi;cases B;show PySem.P.repr_of_none (fin _ _)
 | bl b=>cases hi;cases B;show PySem.P.repr_of_bool (fin _ _)
 | int i=>cases hi;obtain⟨t,rfl⟩:=B;show PySem.P.repr_of_int (by have:=hs.sh;simpa [Dt.pd,PyData.showable] using this) (fin _ _)
 | str i=>cases hi;obtain⟨t,rfl⟩:=B;show PySem.P.repr_of_str (fin _ _) hs.sz
 | tup l=>obtain⟨a,xs,rfl,Y,Z⟩:=hi;cases B;show F _ BB
 | lst l=>obtain⟨a,xs,rfl,Y,Z⟩:=hi;cases B;show F _ BB
 | dct=>obtain⟨a,xs,rfl,Y,Z⟩:=hi;cases B;show F _ BB]
end
end L2
namespace L3
open L2
section
variable {Pn:PN}
abbrev zrd:AU->Mo W:=λq n Q=>on1 q λx=>∃d:Dt,x = .d d/\Shw d/\Q (.d (.str (shw d))) n
def znS:FL Pn false zsE zrd:=#[λA H xs F n Q R I b P h k=>by simp only[zrd,uQ] at h;obtain⟨x,rfl,d,rfl,q,h⟩:=h;obtain⟨v,rfl,B⟩:=zb6 b;show#[v,d,BB,B.is,q,k _ n _ H h (Val.of BB) (Go.refl P) λz=>by cases z]]
end
end L3
namespace L2
open PyProof.Rows
def Sml:Nat->Dt->Prop
 | _,.non=>True
 | _,.bl _=>True
 | _,.int i=>-9<=i/\i<=9
 | _,.str x=>(reprText x).length<=8
 | n+1,.tup l=>l.length<=80/\∀d∈l,Sml n d
 | n+1,.lst l=>l.length<=80/\∀d∈l,Sml n d
 | _,_=>False
def bnd:Nat->Nat
 | 0=>8
 | n+1=>80 * (bnd n+2)+8
theorem ztC:∀n,8<=bnd n
 | 0=>ai _
 | n+1=>Nat.le_add_left _ _
theorem zcX:∀ (ts:AM) (k:Nat) (acc:Str),(textFrom k acc ts).length<=acc.length+piled ts
 | [],_,acc=>ai _
 | t::ts,k,acc=>by
  have h:=zcX ts (k+1) (acc++(if k > 0 then ", " else "" : String)++t);rw[fB,fB] at h;have e:(Str.ofString (if k > 0 then ", " else "" : String)).length<=2:=by split <;> decide
  rw[piled_cons];change (textFrom (k+1) _ ts).length<=_;lia
theorem zhc:∀ {ts:AM},(∀t∈ts,t.length<=B)->piled ts<=ts.length * (B+2)
 | [],_=>by rw[piled_nil];show aI _
 | t::ts,h=>by have h1:=h t (.head _);have h2:=zhc (ts:=ts) λu q=>h u (.tail _ q);rw[piled_cons,aJ,Nat.add_mul];lia
def zoN (ts:AM):(Str.join ", " ts).length<=piled ts:=by
 by_cases h:ts=[];subst h;decide;have:=join_length_add ts h;lia
def zkp(h:l.length<=80)(I:∀d∈l,d.pd.showable=true/\d.pd.hasDict=false/\d.pd.depth<=n/\d.pd.shown.length<=B) :
  PyData.showableAll (Dt.pdL l)=true/\PyData.hasDictAll (Dt.pdL l)=false/\PyData.depthAll (Dt.pdL l)<=n/\piled (PyData.shownAll (Dt.pdL l))<=80 * (B+2):=by
 have g:PyData.showableAll (Dt.pdL l)=true/\PyData.hasDictAll (Dt.pdL l)=false/\PyData.depthAll (Dt.pdL l)<=n/\(PyData.shownAll (Dt.pdL l)).length=l.length/\∀t∈PyData.shownAll (Dt.pdL l),t.length<=B:=by
  clear h
  induction l with
  | nil=>show#[BB,BB,aI _,BB,λt q=>by cases q]
  | cons d l F=>
   obtain⟨J,O,a3,U⟩:=I d (.head _);obtain⟨Y,Z,b3,b4,b5⟩:=F λe he=>I e (.tail _ he);show#[by simp[Dt.pdL,PyData.showableAll,J,Y],by simp[Dt.pdL,PyData.hasDictAll,O,Z],by simp only[Dt.pdL,PyData.depthAll];lia,by simp[Dt.pdL,PyData.shownAll,b4],λt q=>?_];simp only[Dt.pdL,PyData.shownAll,ay] at q;rcases q with rfl | q;show U;show b5 t q
 obtain⟨g1,g2,g3,g4,g5⟩:=g;show#[g1,g2,g3,aq (zhc g5) ?_];rw[g4];show Nat.mul_le_mul_right _ h
theorem Sml.all:∀ {n:Nat} {d:Dt},Sml n d->d.pd.showable=true/\d.pd.hasDict=false/\d.pd.depth<=n/\d.pd.shown.length<=bnd n
 | n,.non,_=>#[BB,BB,aI _,aq (by ext) (ztC n)]
 | n,.bl b,_=>#[BB,BB,aI _,aq (by cases b <;> decide) (ztC n)]
 | n,.int i,h=>by
  have h:-9<=i/\i<=9:=by cases n <;> show h
  have q:i.natAbs<10 ^ 1:=by lia
  show#[aY (bg (Nat.log2_le_self _) (by lia)),BB,aI _,aq (?_:_<=2) (aq (by ext) (ztC n))];have e:=int_text_length_le10 (a:=i) (by ext) q;change (Str.ofString (toString i)).length<=2;rw[PySem.ofString_length];show e
 | n,.str x,h=>by
  have h:(reprText x).length<=8:=by cases n <;> show h
  show#[BB,BB,aI _,aq h (ztC n)]
 | 0,.tup l,h=>by cases h
 | 0,.lst l,h=>by cases h
 | 0,.dct,h=>by cases h
 | n+1,.dct,h=>by cases h
 | n+1,.tup l,h=>by
  obtain⟨B,g2,I,J⟩:=zkp h.1 λd F=>Sml.all (h.2 d F);show#[by simpa [Dt.pd,PyData.showable] using B,by simpa [Dt.pd,PyData.hasDict] using g2,by simp only[Dt.pd,PyData.depth];lia,?_];simp only[Dt.pd,PyData.shown];unfold tupleText;rw[fB,fB];have O:=zoN (PyData.shownAll (Dt.pdL l));have U:(Str.ofString (if (PyData.shownAll (Dt.pdL l)).length==1 then ",)" else ")" : String)).length<=2:=by split <;> decide
  have Y:("(" : Str).length=1:=rfl
  change _<=80 * (bnd n+2)+8;lia
 | n+1,.lst l,h=>by
  obtain⟨B,g2,I,J⟩:=zkp h.1 λd F=>Sml.all (h.2 d F);show#[by simpa [Dt.pd,PyData.showable] using B,by simpa [Dt.pd,PyData.hasDict] using g2,by simp only[Dt.pd,PyData.depth];lia,?_];simp only[Dt.pd,PyData.shown];unfold listText;rw[fB];have O:=zcX (PyData.shownAll (Dt.pdL l)) 0 "["
  have U:("[" : Str).length=1:=rfl
  have Y:("]" : Str).length=1:=rfl
  change _<=80 * (bnd n+2)+8;lia
def Sml.shw(h:Sml 3 d):Shw d:=by obtain⟨a,b,c,e⟩:=h.all;show#[a,.inr b,aq c (by ext),aq e (by ext)]
def zqj:Shw .dct:=#[BB,.inl BB,by ext,by ext]
end L2
local macro_rules | `(tactic| fail"up")=>`(tactic| first | assumption | ((with_reducible refine (?_:L2.yT _ _));(first | show L2.zfo _ | (intro _ _ _;((repeat (first | assumption | refine L2.zqG (by assumption) ?_ | refine L2.zkO (by assumption) ?_ | refine L2.zkM (by assumption) ?_ | refine L2.uD (by assumption) ?_ (by assumption) | refine L2.uD (by assumption) ?_ L2.zpa | refine L2.uD (by assumption) ?_ L2.zjN | refine L2.uD (by assumption) ?_ L2.zjO | refine L2.zkN (by assumption) ?_ | refine L2.zh7 (by assumption) ?_ | refine L2.zh7 (L2.xj (by assumption)) ?_ | refine L2.zdH (by assumption) ?_ | refine L2.zdH (L2.xj (by assumption)) ?_ | refine L2.zbp (by assumption) ?_ | refine L2.zbp (L2.xj (by assumption)) ?_ | refine L2.zbo (by assumption) ?_ | refine L2.zbo (L2.xj (by assumption)) ?_ | refine L2.zdG (by assumption) ?_ | refine L2.zdG (L2.xj (by assumption)) ?_ | refine L2.zdI (by assumption) ?_ | refine L2.zdI (L2.xj (by assumption)) ?_ | refine L2.zac (by assumption) ?_ | refine L2.zac (L2.xj (by assumption)) ?_ | refine L2.zab (by assumption) ?_ | refine L2.zab (L2.xj (by assumption)) ?_));done)))) | ((with_reducible refine (?_:L2.zy _ _));(first | show L2.zy.refl _ | (intro _ _ _ _;((repeat (first | assumption | refine L2.zqG (by assumption) ?_ | refine L2.zkO (by assumption) ?_ | refine L2.zkM (by assumption) ?_ | refine L2.uD (by assumption) ?_ (by assumption) | refine L2.uD (by assumption) ?_ L2.zpa | refine L2.uD (by assumption) ?_ L2.zjN | refine L2.uD (by assumption) ?_ L2.zjO | refine L2.zkN (by assumption) ?_ | refine L2.zh7 (by assumption) ?_ | refine L2.zh7 (L2.xj (by assumption)) ?_ | refine L2.zdH (by assumption) ?_ | refine L2.zdH (L2.xj (by assumption)) ?_ | refine L2.zbp (by assumption) ?_ | refine L2.zbp (L2.xj (by assumption)) ?_ | refine L2.zbo (by assumption) ?_ | refine L2.zbo (L2.xj (by assumption)) ?_ | refine L2.zdG (by assumption) ?_ | refine L2.zdG (L2.xj (by assumption)) ?_ | refine L2.zdI (by assumption) ?_ | refine L2.zdI (L2.xj (by assumption)) ?_ | refine L2.zac (by assumption) ?_ | refine L2.zac (L2.xj (by assumption)) ?_ | refine L2.zab (by assumption) ?_ | refine L2.zab (L2.xj (by assumption)) ?_));done)))) | ((repeat (first | assumption | refine L2.zqG (by assumption) ?_ | refine L2.zkO (by assumption) ?_ | refine L2.zkM (by assumption) ?_ | refine L2.uD (by assumption) ?_ (by assumption) | refine L2.uD (by assumption) ?_ L2.zpa | refine L2.uD (by assumption) ?_ L2.zjN | refine L2.uD (by assumption) ?_ L2.zjO | refine L2.zkN (by assumption) ?_ | refine L2.zh7 (by assumption) ?_ | refine L2.zh7 (L2.xj (by assumption)) ?_ | refine L2.zdH (by assumption) ?_ | refine L2.zdH (L2.xj (by assumption)) ?_ | refine L2.zbp (by assumption) ?_ | refine L2.zbp (L2.xj (by assumption)) ?_ | refine L2.zbo (by assumption) ?_ | refine L2.zbo (L2.xj (by assumption)) ?_ | refine L2.zdG (by assumption) ?_ | refine L2.zdG (L2.xj (by assumption)) ?_ | refine L2.zdI (by assumption) ?_ | refine L2.zdI (L2.xj (by assumption)) ?_ | refine L2.zac (by assumption) ?_ | refine L2.zac (L2.xj (by assumption)) ?_ | refine L2.zab (by assumption) ?_ | refine L2.zab (L2.xj (by assumption)) ?_));done))
local macro_rules | `(tactic| left)=>`(tactic| ((try (with_reducible conv=>whnf));repeat (with_reducible refine L3.zq0 ?_;try (with_reducible conv=>whnf)));try dsimp only)
local macro_rules | `(tactic| fail"ct")=>`(tactic| (with_reducible refine L3.zve ?_ ?_;(first | decide | assumption | rfl));left)
local macro_rules | `(tactic| fail"cf")=>`(tactic| (with_reducible refine L3.zvd ?_ ?_;(first | decide | assumption | rfl));left)
namespace Law
open L2 L3
abbrev lc:AM:=[Ao,Ap]
abbrev ld:AM:=["given","box","better","worse",An,"left_alone"]
abbrev lf:AM:=[Ap,Aq,Ar,As,At,Au]
abbrev lh:AM:=[Ao,"_law_most"]
abbrev li:AM:=[Ao,Aq,Ar,Au]
abbrev lj:AM:=[Ao,Ap,Av]
abbrev ll:AM:=[Aj,Ak,"one","other",Aw,Am]
abbrev lm:AM:=[Aq,Ax,Au]
abbrev ln:AM:=[Ap]
abbrev lq:AM:=[Ao,Ap,Ay]
abbrev lr:AM:=["_law_script"]
abbrev lu:AM:=[Ao,Ap,Az]
abbrev lw:AM:=[A1,A5,Ax]
abbrev lx:AM:=[An,"box","worth"]
abbrev ly:AM:=["leads","one","other",Aw]
abbrev lA:AM:=[Ai,Aj,Ak,Am]
abbrev lB:AM:=[A1,Ap]
abbrev lC:AM:=[A6,Ao,Ap,Av]
abbrev lD:AM:=["_law_j",A7,Az,"_law_rank"]
abbrev lE:AM:=[Aj,Ak,An,Am]
abbrev lF:AM:=[Aj,Aw]
abbrev lG:AM:=[Ap,At]
abbrev lH:AM:=[Aj,"box",Aw]
abbrev lI:AM:=[Ao,A8]
abbrev lJ:AM:=[An,"given"]
abbrev lK:AM:=[Az,Av,Ao]
abbrev lL:AM:=[Ai,An]
abbrev lM:AM:=[Ar,As]
abbrev lN:AM:=[A6,A9,BA]
abbrev lO:AM:=[Au]
abbrev lP:AM:=["here","there","leads"]
abbrev lQ:AM:=[A5,A9,A6]
abbrev lR:AM:=[A1,A5]
abbrev lS:AM:=[A6,Ar,As]
abbrev lT:AM:=[A6,Ar,Az]
abbrev lU:AM:=[BA,Ao]
abbrev lV:AM:=["leads","row"]
abbrev lW:AM:=["_law_part",Ap]
def top (i:Nat):Stmt:=PySem.Challenge.pw_allelse_k18_ways_looked_at.main.body.getD i (.Pass #[0,0,0,0])
abbrev zdB:Stmt:=top 16
abbrev zcS:Stmt:=top 17
abbrev zfn:Stmt:=top 5
abbrev zkm:Stmt:=top 7
abbrev zbH:Stmt:=top 9
abbrev zdC:Stmt:=top 1
abbrev zdD:Stmt:=top 2
abbrev zaZ:Stmt:=top 3
abbrev uY:Stmt:=top 4
abbrev zcV:Stmt:=top 11
abbrev zhj:Stmt:=top 13
abbrev zdE:Stmt:=top 14
abbrev zcR:Stmt:=top 18
abbrev zdA:Stmt:=top 20
abbrev zcQ:Stmt:=top 19
abbrev uX:Stmt:=top 21
abbrev zbD:Stmt:=top 22
abbrev zcU:Stmt:=top 23
abbrev zaY:Stmt:=top 24
abbrev zcO:Stmt:=top 26
abbrev zbF:Stmt:=top 25
abbrev uW:Stmt:=top 27
abbrev zaX:Stmt:=top 28
abbrev zcN:Stmt:=top 29
abbrev zbG:Stmt:=top 30
abbrev zcP:Stmt:=top 32
abbrev zbC:Stmt:=top 33
abbrev zcT:Stmt:=top 34
abbrev zcM:Stmt:=top 35
abbrev xG:Stmt:=top 36
abbrev zbE:Stmt:=top 37
abbrev zsY:Stmt:=top 38
def zgq:FnScope lr lr (zd zdB):=by fail"f"
def yv:FnScope [Ao,"_law_most",A9,A1,"_law_cell","_law_mixed"] lh (zd zcS):=by fail"f"
def zhT:FnScope lx lx (zd zfn):=by fail"f"
def zet:FnScope [An,"given","box","worth"] lJ (zd zkm):=by fail"f"
def za1:FnScope [Aj,Ak,An,Am,"left_alone"] lE (zd zbH):=by fail"f"
def zgr:FnScope [Aw] [Aw] (zd zdC):=by fail"f"
def zgs:FnScope lH lH (zd zdD):=by fail"f"
def xS:FnScope [Aj,Aw,"box","worth"] lF (zd zaZ):=by fail"f"
def uA:FnScope [Aj,Aw,An] lF (zd uY):=by fail"f"
def zfp:FnScope lV lV (zd zcV):=by fail"f"
def zkn:FnScope ly ly (zd zhj):=by fail"f"
def zgt:FnScope ll ll (zd zdE):=by fail"f"
def xI:FnScope [Ap,"_law_many",BA] ln (zd zcR):=by fail"f"
def ut:FnScope [Ap,A9,BA] ln (zd zdA):=by fail"f"
def yu:FnScope [Ao,"_law_most",A8,Ap,A6,BA] lh (zd zcQ):=by fail"f"
def zbP:FnScope lc lc (zd uX):=by fail"f"
def xi:FnScope [Ao,Ap,Az,"_law_rare",A9,A1] lu (zd zbD):=by fail"f"
def yZ:FnScope [Ao,Ap,Av,Az,"_law_worse","_law_better"] lj (zd zcU):=by fail"f"
def xR:FnScope [Ao,A8,A9,Ar] lI (zd zaY):=by fail"f"
def uZ:FnScope [Ar,As,Az,A7] lM (zd zcO):=by fail"f"
def yj:FnScope [Ap,A9,BA,"_law_longer",A6,A8] ln (zd zbF):=by fail"f"
def zL:FnScope [Ao,Ap,"_law_row",Aq,A1,Av] lc (zd uW):=by fail"f"
def zI:FnScope [Ao,Ap,"_law_boxes_here",Aq,A6,Az,"_law_parents","_law_case","_law_rank",A7] lc (zd zaX):=by fail"f"
def xH:FnScope [Ao,Ap,Av,Aq] lc (zd zcN):=by fail"f"
def yA:FnScope [Aq,Ax,Au,A9,A7,Az,"_law_better","_law_worse"] lm (zd zbG):=by fail"f"
def zbI:FnScope lj lc (zd zcP):=by fail"f"
def zes:FnScope lO lO (zd zbC):=by fail"f"
def xJ:FnScope [Ao,Aq,Ar,Au,Ay,A6,A8] li (zd zcT):=by fail"f"
def yt:FnScope [Ao,Ap,Ay,Av,A1,Az,Ar,As,"_law_odd"] lq (zd zcM):=by fail"f"
def yK:FnScope [Ap,At,BA,A5] lG (zd xG):=by fail"f"
def za0:FnScope [Ap,Aq,Ar,As,At,Au,A6] lf (zd zbE):=by fail"f"
def xK:FnScope ["_law_script",Ao,Ap,Aq,"_law_turn",Au,Ay,Ar,As,At,"_law_kept","_law_due",A9] lr (zd zsY):=by fail"f"
abbrev zgp:Stmt:=top 10
def zer:FnScope lA lA (zd (ym zgp 0)):=by fail"f"
def zdc:FnScope lL lL (zd (ym zgp 1)):=by fail"f"
set_option genInjectivity false in
structure Ad where
 C_Leads:Addr
 fI_Leads:Addr
 fA_Leads:Addr
 dI_Leads:Ac
 dA_Leads:Ac
 f0:Addr
 d0:Ac
 f1:Addr
 d1:Ac
 f2:Addr
 d2:Ac
 f3:Addr
 d3:Ac
 f4:Addr
 d4:Ac
 f5:Addr
 d5:Ac
 f6:Addr
 d6:Ac
 f7:Addr
 d7:Ac
 f8:Addr
 d8:Ac
 f9:Addr
 d9:Ac
 f10:Addr
 d10:Ac
 f11:Addr
 d11:Ac
 f12:Addr
 d12:Ac
 f13:Addr
 d13:Ac
 f14:Addr
 d14:Ac
 f15:Addr
 d15:Ac
 f16:Addr
 d16:Ac
 f17:Addr
 d17:Ac
 f18:Addr
 d18:Ac
 f19:Addr
 d19:Ac
 f20:Addr
 d20:Ac
 f21:Addr
 d21:Ac
 f22:Addr
 d22:Ac
 f23:Addr
 d23:Ac
 f24:Addr
 d24:Ac
 f25:Addr
 d25:Ac
 f26:Addr
 d26:Ac
 f27:Addr
 d27:Ac
 f28:Addr
 d28:Ac
 f29:Addr
 d29:Ac
 f30:Addr
 d30:Ac
 f31:Addr
 d31:Ac
structure Txt (K:AH)(mg:AI)(t:Ad):Prop where
 Leads:LdT K mg zgp t.C_Leads t.fI_Leads t.fA_Leads t.dI_Leads t.dA_Leads
 q0:Dfn K mg "_law_pen" zdB lr t.f0 t.d0
 q1:Dfn K mg "_law_take" zcS lh t.f1 t.d1
 q2:Dfn K mg "changed" zfn lx t.f2 t.d2
 q3:Dfn K mg "keeps" zkm lJ t.f3 t.d3
 q4:DfnD K mg "betterings" zbH lE [Value.none] t.f4 t.d4
 q5:Dfn K mg "is_whole" zdC [Aw] t.f5 t.d5
 q6:Dfn K mg "is_worth" zdD lH t.f6 t.d6
 q7:Dfn K mg "is_standing" zaZ lF t.f7 t.d7
 q8:Dfn K mg "are_standings" uY lF t.f8 t.d8
 q9:Dfn K mg "is_walked" zcV lV t.f9 t.d9
 q10:Dfn K mg "is_way" zhj ly t.f10 t.d10
 q11:DfnD K mg "lets_way" zdE ll [Value.none] t.f11 t.d11
 q12:Dfn K mg "_law_size" zcR ln t.f12 t.d12
 q13:Dfn K mg "_law_all" zdA ln t.f13 t.d13
 q14:Dfn K mg "_law_room" zcQ lh t.f14 t.d14
 q15:Dfn K mg "_law_standing" uX lc t.f15 t.d15
 q16:Dfn K mg "_law_given" zbD lu t.f16 t.d16
 q17:Dfn K mg "_law_wish" zcU lj t.f17 t.d17
 q18:Dfn K mg "_law_turned" zaY lI t.f18 t.d18
 q19:Dfn K mg "_law_full" zcO lM t.f19 t.d19
 q20:Dfn K mg "_law_snake" zbF ln t.f20 t.d20
 q21:Dfn K mg "_law_row_book" uW lc t.f21 t.d21
 q22:Dfn K mg "_law_ranked" zaX lc t.f22 t.d22
 q23:Dfn K mg "_law_book" zcN lc t.f23 t.d23
 q24:Dfn K mg "_law_steps" zbG lm t.f24 t.d24
 q25:Dfn K mg "_law_held" zcP lc t.f25 t.d25
 q26:Dfn K mg "_law_boxes" zbC lO t.f26 t.d26
 q27:Dfn K mg "_law_walk" zcT li t.f27 t.d27
 q28:Dfn K mg "_law_bent" zcM lq t.f28 t.d28
 q29:Dfn K mg "_law_is_standing" xG lG t.f29 t.d29
 q30:Dfn K mg "_law_leads" zbE lf t.f30 t.d30
 q31:Dfn K mg "law" zsY lr t.f31 t.d31
 b_enumerate:mg "enumerate" = none
 b_sorted:mg "sorted" = none
 b_all:mg "all" = none
 b_range:mg "range" = none
 b_tuple:mg "tuple" = none
 b_zip:mg "zip" = none
 b_isinstance:mg "isinstance" = none
 b_int:mg "int" = none
 b_list:mg "list" = none
 b_len:mg "len" = none
 b_repr:mg "repr" = none
 b_bool:mg "bool" = none
 b_abs:mg "abs" = none
section
variable {P:Aa}{w:Ab}{K:AH}{mg:AI}{base:Heap}{t:Ad}
def zgc (T:Txt K mg t):FnOk P w K mg base CX0 1 t.f0 t.d0 lr (zmF K):=by
 show T.q0.F.okQ zgq (λvs H Q E h=>?_) (λI A q s H vs Q E U h=>?_);obtain⟨a,ns,rfl,_⟩:=h;rfl;obtain⟨a,ns,rfl,Y,J,O,k⟩:=h;show#[_,(xq (zar (zpR (zeo xp (qv 0) (zeo xp yC (zeo xp yC zpZ))) BB BB (by simp) (by ext)))),?_];intro p B;show#[_,BB,zi,zaU a 0 0,BB,(by change 3<=15;decide),?_];rw[zse];have S2:yT H (upd (upd H p (.dK [])) p (.dK (zaU a 0 0))):=λb o e=>by rw[zf (zc e B),zf (zc e B)];show e
 show k p _ #[#[0,0,zi,by lia,by lia,by lia],J.same S2,O] S2
def ze6 (T:Txt K mg t):FnOk P w K mg base CX0 1 t.f1 t.d1 lh (znL K):=by
 show T.q1.F.okQ yv (λvs H Q E h=>?_) (λa0 A an s H vs Q E hr h=>?_);obtain⟨p,c,ns,n,zN,rfl,_⟩:=h;rfl
 ·obtain⟨p,c,ns,n,zN,rfl,hK,hP,hn,h1,h2,k⟩:=h;have J:=zlv hr;obtain⟨⟨a,l,U,ap,a1,ac⟩,hc,O⟩:=id hP
  have Z:∀r,ns=0::r->c≠p:=λr e=>by
   rcases hc with ⟨r',e',o,z⟩ | ⟨r',e'⟩;show zlY z U (by intro q;cases q);rw[e] at e';cases e'
  show#[_,(yi (zkd (uV zjU (uT J (qv 0) xp (λ_ _=>rfl)) yC (zp _)) (yi (uU (i:=2) yv.nd BB (Or.inl BB) (yL uz (uT J (qv 0) xp (λ_ _=>rfl)) (qv 1)))
   (yi (zep J (qv 0) xp (yL zcC (uT J (qv 0) xp (λ_ _=>rfl)) (qv 1)) BB)
   (xq (zar (qv 2))))) zcH)
   (yi (uU (i:=3) yv.nd BB (Or.inl BB) (uT J (qv 0) xp (λ_ _=>rfl)))
   (yi (zep J (qv 0) xp (yL z7 (qv 3) yC) BB)
   (yi (uU (i:=4) yv.nd BB (Or.inl BB) yC)
   (yi (zkd (uV zjU (xh zS (by rfl) T.b_len aL (zZ (uT J (qv 0) xp (λ_ _=>rfl)) yR)) yC (zp _)) (xq (uU (i:=4) yv.nd BB (Or.inl BB) (zml zH (uT J (qv 0) xp (λ_ _=>rfl)) (yL uz (qv 3) (xh zS (by rfl) T.b_len aL (zZ (uT J (qv 0) xp (λ_ _=>rfl)) yR))) (λ_ _=>rfl)))) zcH)
   (yi (zkd (QW.pt (zhf (uV zhO (qv 3) (xh zS (by rfl) T.b_len aL (zZ (uT J (qv 0) xp (λ_ _=>rfl)) yR)) (zp _)) (zgk (uV zrZ (xh ziq (by rfl) T.b_abs eV (zZ (qv 4) yR)) (yL zr1 yC yC) (zp _))))) (yi (zep J (qv 0) xp (yL zcC (xh ziq (by rfl) T.b_abs eV (zZ (qv 4) yR)) (qv 1)) BB)
   (xq (zar (yL uz (xh ziq (by rfl) T.b_abs eV (zZ (qv 4) yR)) (qv 1))))) zcH)
   (yi (uU (i:=5) yv.nd BB (Or.inl BB) (yL uz (yL uS (yL z7 (yL z7 (yL z7 (yL uz (qv 4) yC) (yL uS (yL uS yC (qv 3)) (qv 3))) (yL uS yC (qv 3))) yC) yC) yC))
   (yi (uU (i:=5) yv.nd BB (Or.inl BB) (yL uz (yL z7 (yL z7 (yL uS (qv 5) (qv 5)) (yL uS yC (qv 5))) (yL uS yC (qv 3))) yC))
   (xq (zar (yL uz (yL zcC (yL uz (yL uS (qv 5) yC) yC) yC) (qv 1)))))))))))),?_]
  show#[_,BB,p,_,BB,zj2 U,_,_,BB,BB,_,BB,znb (λhl=>?_) (λhl=>?_)];have a2:0<l:=bK hl;show#[_,BB,p,_,BB,zj2 U,_,BB,_,_,BB,BB,(by change (0:Int)<zN;lia),?_];show#[_,BB,p,_,BB,zj2 U,_,BB,_,_,BB,BB,#[by change (0:Int)<zN;lia,h2],_,BB,p,_,BB,znt U _,?_];show#[_,BB,k _ _ (cO _ (by lia)) (cg _ (by lia)) #[#[a,_,zi,ap,by lia,Int.ediv_nonneg ac (by lia)],hc.upd Z,O] (zez U)]
  ·show#[_,BB,p,_,BB,zsd U,?_];show#[_,BB,_,_,BB,BB,_,BB,p,_,BB,zsh U _,?_];have I:upd H p (.dK (zaU c (a+1) l)) p=some (.dK (zaU c (a+1) l)):=zi;have Y:PLs (upd H p (.dK (zaU c (a+1) l))) c ns:=hc.upd Z;generalize as:upd H p (.dK (zaU c (a+1) l))=H1 at I Y ⊢;have ad:zy H H1:=as ▸ zez U;obtain⟨r,hq⟩:=hK.seq Y;refine' meet (α:=Int) _ (λzx=>?_) ?_;rotate_left
   
   show#[_,BB,p,_,BB,zhb I,_,_,BB,.inl #[_,hq,BB],_,_,BB,BB,_,BB,znb (λhz=>?_) (λhz=>?_)];have ag:0<((r.map V.int).length:Int):=bK hz;obtain⟨B,al⟩:=zqZ r a ag;show#[_,BB,p,_,BB,zhb I,_,BB,_,BB,p,_,BB,zhb I,_,_,BB,.inl #[_,hq,BB],_,_,BB,BB,ag,c,_,_,_,BB,BB,hq,al,?_];show zx B;show zx 0
   ·intro B;refine' zu7 _ (λzx=>?_) ?_;rotate_left
    ·show#[_,BB,_,BB,p,_,BB,zhb I,_,_,BB,.inl #[_,hq,BB],_,_,BB,BB,_,BB,znb (λh3=>?_) (λh3=>?_)];rotate_left;show zrv ?_;show zx;show#[_,BB,_,BB,_,_,BB,BB,#[by ext,by ext,by ext],_,_,BB,BB,_,BB,znb (λh4=>?_) (λh4=>?_)];rotate_left;show zx;have ha:0<=(if B<0 then -B else B):=by split <;> lia
     show#[_,BB,_,BB,_,BB,_,_,BB,BB,#[by change (0:Int)<zN;lia,h2],_,BB,p,_,BB,znt I _,?_];show#[_,BB,_,BB,_,BB,_,_,BB,BB,(by change (0:Int)<zN;lia),k _ _ (cO _ (by lia)) (cg _ (by lia)) #[#[a+1,_,zi,by lia,by lia,Int.ediv_nonneg ha (by lia)],Y.upd Z,O] (ad.trans (zez I))]
    have a3:=cO B (show (2147483629:Int)≠0 by ext);have a4:=cg B (show (0:Int)<2147483629 by ext);show#[_,BB,_,_,BB,BB,(by change (0:Int)<2147483629;decide),_,BB,_,_,BB,BB,.inl #[by ext,by ext],_,BB,_,_,BB,BB,.inr #[by lia,by lia],_,_,BB,BB,_,BB,_,_,BB,BB,.inl #[by ext,by ext],_,_,BB,BB,_,_,BB,BB,_,_,BB,BB,.inr #[by ext,by ext],_,_,BB,BB,(by change (0:Int)<2147483647;decide),?_];generalize a5:((B % 2147483629+7919 * a * a+104729 * a+23) * 69621:Int)=w1;have w0:=cO w1 (show (2147483647:Int)≠0 by ext);have w2:=cg w1 (show (0:Int)<2147483647 by ext);generalize w1 % 2147483647=w3 at w0 w2;show#[_,BB,_,BB,_,_,BB,BB,.inl #[by lia,by lia],_,BB,_,_,BB,BB,.inl #[by ext,by ext],_,_,BB,BB,_,BB,_,_,BB,BB,.inl #[by ext,by ext],_,_,BB,BB,_,_,BB,BB,(by change (0:Int)<2147483579;decide),?_];generalize a7:((w3 * w3+40692 * w3+65537 * a) % 2147483579:Int)=w5;show#[_,BB,_,_,BB,BB,.inr #[by ext,by ext],_,_,BB,BB,(by change (0:Int)<2147483563;decide),_,_,BB,BB,#[by ext,by ext],_,BB,_,_,BB,BB,(by change (0:Int)<zN;lia),?_];show k _ _ (cO _ (by lia)) (cg _ (by lia)) #[#[a+1,l,I,by lia,by lia,ac],Y,O] ad
def zF (T:Txt K mg t):FnOk P w K mg base CX0 1 t.f1 t.d1 lh (spV 2 false (zie K)):=FnOk.lift (FnOk.mono (ze6 T) (by ext)) zjq
def zhL (T:Txt K mg t):FnOk P w K mg base CX0 1 t.f2 t.d2 lx zft:=by
 show T.q2.F.okQ zhT (λvs H Q E h=>?_) (λO A q s H vs Q E hr h=>?_);obtain⟨a,st,b,U,rfl,_⟩:=h;rfl;obtain⟨a,st,b,U,rfl,I,Y,Z,k⟩:=h;show#[_,(xq (zar (yL xP (yL xP (zb1 zgw (qv 0) zgh (zgi (qv 1))) (zgf (zZ (qv 2) yR))) (zb1 zgw (qv 0) (zgi (yL z7 (qv 1) yC)) zgh)))),?_];have B:∀lo hi,(zdk (st.map V.int) lo hi).length<=400:=λlo hi=>aq (zau _ _ _) (by rw[ab];show Y);show#[_,BB,_,BB,_,BB,a,_,BB,I,λt1 H1 g1 S1=>?_];show#[_,BB,(by change 1<=sizeLine;decide),λt2 H2 _ g2 S2=>?_];show#[t1,t2,_,_,BB,BB,S2 _ _ g1,g2,cH (zcW (by have:=B none (some b);change _+1<=1000;lia)),λt3 H3 g3 S3=>?_];have S03:yT H H3:=λb o e=>S3 _ _ (S2 _ _ (S1 _ _ e));show#[_,BB,_,BB,_,_,BB,BB,_,BB,a,_,BB,S03 _ _ I,λt4 H4 g4 S4=>?_];show#[t3,t4,_,_,BB,BB,S4 _ _ g3,g4,?_,λt5 H5 J S5=>?_];have e1:=B none (some b);have e2:=B (some (b+1)) none;show cH (zcW ?_);rw[aj];change _+1+_<=1000;lia;rw[zil st Z] at J;show k t5 H5 J λb o e=>S5 _ _ (S4 _ _ (S03 _ _ e))
def zl1 (T:Txt K mg t):FnOk P w K mg base CX0 1 t.f3 t.d3 lJ zkw:=by
 show T.q3.F.okQ zet (λvs H Q E h=>?_) (λap A Y s H vs Q E hr h=>?_);obtain⟨a,Z,st,gs,g,rfl,_⟩:=h;rfl;obtain⟨a,Z,st,gs,g,rfl,ha,B,I,hg,k⟩:=h;have J:gs.length=g.length:=by have:=I.length;rwa[ab] at this
 show#[_,(yi (znA bj BB (zkb (qv 1)) (znz BB (uq (zaA (i:=2) zet.nd BB (Or.inl BB)) (uq (zaA (i:=3) zet.nd BB (Or.inl BB)) zgg))) (xq (zkd (uV zdb (zml yD (qv 0) (qv 2) (λ_ _=>rfl)) (qv 3) (zp _)) (xq (zar zpN)) zcH)))
  (xq (zar zpN))),?_]
 show#[_,BB,Z,BB,#[gs,.of B],zos (K:=K) (xs:=gs) (λi G H2=>H2=H/\(∃v1 v2,G=[some (.ref a),some (.ref Z),v1,v2])/\x6 st (g.take i)=true) #[BB,#[none,none,BB],BB] (λi G H2 _ ⟨e,_⟩=>e ▸ .of B) ?_ ?_];rintro i y G H2 hi ⟨rfl,⟨v1,v2,rfl⟩,O⟩;obtain⟨d,hd,ac⟩:=I.get hi;rw[aC] at hd;obtain⟨q,hq,rfl⟩:=aH.mp hd;obtain⟨ca,ys,rfl,ad,y0,z0,rfl,ag,y1,z1,rfl,al,an⟩:=ac;cases ag;cases al;cases an;have U:=hg q (aM hq);show#[ca,_,BB,.of ad,BB,_,_,BB,_,_,BB,BB,?_];show#[_,BB,_,BB,a,_,_,_,BB,BB,.of ha,zg2 U.1 U.2,_,BB,BB,_,BB,znb (λh1=>?_) (λh1=>?_)]
 have e:x6 st g=false:=by
  unfold x6;show List.all_eq_false.mpr #[q,aM hq,?_];intro z;have z':=bK z;rw[z'] at h1;simp at h1
 rw[e] at k;show k;show#[BB,#[_,_,BB],?_]
 have e:zN st q.1=q.2:=by
  by_cases e:zN st q.1=q.2;show e;show absurd (by simp[e]) h1
 unfold x6 at O ⊢;rw[zw hq,List.all_append,O];simp[e];rintro G H2 ⟨rfl,⟨v1,v2,rfl⟩,O⟩;rw[J,bV] at O;rw[O] at k;show k
def zd9 (T:Txt K mg t):FnOk P w K mg base CX0 2 t.f4 t.d4 lE znK:=by
 have G2:FnOk P w K mg base CX0 1 t.f2 t.d2 lx zft:=zhL T;have G3:FnOk P w K mg base CX0 1 t.f3 t.d3 lJ zkw:=zl1 T;show T.q4.F.okQ za1 (λvs H Q E h=>?_) (λbx A a7 s H vs Q E hr h=>?_);obtain⟨v0,vh,ba,a,rm,xs,bk,st,hs,rfl,_⟩:=h;rfl
 ·obtain⟨v0,vh,ba,a,rm,xs,bk,st,hs,rfl,h1,h8,hB,as,ha,hl,hh,k⟩:=h
  show#[_,(yi (uU (i:=4) za1.nd BB (Or.inr BB) (zmk (znB (znw (qv 3))) (zgf yR) (qv 3)))
   (xq (zar (xh (zle BB) (by rfl) T.b_sorted dZ (zZ (zhQ (zlv hr) (N:=ld) (BE:=[none,none,none,none,some 2,some 4]) BB (by fail"c") (zkb (qv 1)) (λ_ _ _ _=>(zj9 K BB (n:=4) BB (uq (zaA (i:=0) (show (ld:AM).Nodup by decide +kernel) BB (Or.inl BB)) (uq (zaA (i:=1) (show (ld:AM).Nodup by decide +kernel) BB (Or.inl BB)) (uq (zaA (i:=2) (show (ld:AM).Nodup by decide +kernel) BB (Or.inl BB)) (uq (zaA (i:=3) (show (ld:AM).Nodup by decide +kernel) BB (Or.inl BB)) zgg)))))) (λ_ _ _ _=>(zke (QW.pt (zhf (uV yY (zml (zqP K BB) (qv 4) (qv 1) (λ_ _=>rfl)) (qv 3) (zp _)) (zhf (uV (zej K BB) (qv 1) (qv 5) (by with_unfolding_all rfl)) (zgk (znC (zmj T.q3 G3 hr (zZ (qv 4) (zZ (qv 0) yR)))))))))) (λ_ _ _ _=>(zmj T.q2 G2 hr (zZ (qv 4) (zZ (qv 1) (zZ (qv 2) yR)))))) yR))))),?_]
  refine' zu8 _ (λ(lv:V) (H1:Hp)=>∃Z,lv = .ref Z/\H1 Z=some (.tup (hs.map V.int))/\yT H H1) (λzx=>?_) ?_;rotate_left;show#[_,BB,_,BB,znb (λh2=>?_) (λh2=>?_)];show#[(by change 0<=sizeLine;decide),λe H1 _ g1 S1=>?_];generalize bb:V.ref e=lv;show zx lv H1 #[e,bb.symm,?_,S1];rcases hh with ⟨_,I⟩ | ⟨p,I,_⟩;rw[I];show g1;rw[I] at h2;cases bK h2;show#[_,BB,?_];show zx _ H ?_;rcases hh with ⟨I,_⟩ | ⟨p,I,hp⟩;show absurd (aY I) h2;show#[p,I,hp,λ_ _ z=>z];rintro _ H1 ⟨Z,rfl,b2,S1⟩;have ag:BookAt H1 rm ba xs bk:=by fail"up"
  have a0:=hB.len;show#[_,BB,ba,BB,#[_,.of ag.at'],λacc ac S0=>?_];show zmC (xs:=xs) ac S0 (λi al H'=>(∃v1 v2 v3 v4,al=[v1,v2,v3,v4,some (.ref a),some (.ref Z)])/\(∃ks,zeF P w H' acc ks/\∀z,z∈ks↔z∈xY (bk.take i) st hs)/\yT H1 H') (λH' z1 z2=>#[#[_,_,_,_,BB],#[[],z1,λz=>by change z∈[]↔z∈[];show Iff.rfl],z2]) (λ_ _ _ _ ⟨_,_,S⟩=>.of (S _ _ ag.at')) ?_ ?_;rintro i y al H' B ⟨⟨v1,v2,v3,v4,rfl⟩,⟨ks,J,hm⟩,S'⟩;obtain⟨x,hx,bc,O⟩:=(ag.stay (zy.same S')).get B;obtain⟨wa,ga,gs,rfl,bd,be,U⟩:=zh8 bc;have b1:=O.b1;have an:H' a=some (.tup (st.map V.int)):=by fail"up"
  have a1:H' Z=some (.tup (hs.map V.int)):=by fail"up"
  have bl:bk.take (i+1)=bk.take i++[x]:=zw hx
  have a2:∀z,z∈xY (bk.take (i+1)) st hs↔(zbd st x=true/\x.b∉hs/\z=chg st x.b x.r)\/z∈xY (bk.take i) st hs:=λz=>by
   rw[bl,uL,uL];constructor;rintro⟨y,B,h2⟩;rcases ax.mp B with B | B;show .inr #[y,B,h2];rw[ao] at B;subst B;show .inl h2;rintro (h2 | ⟨y,B,h2⟩);show#[x,aT _ (by simp),h2];show#[y,bN _ B,h2]
  have no:¬ (zbd st x=true/\x.b∉hs)->(∃w1 w2 w3 w4,[some (V.ref ga),some (.int x.b),some (.int x.r),some (.int x.w),some (V.ref a),some (.ref Z)]=[w1,w2,w3,w4,some (.ref a),some (.ref Z)])/\(∃ks,zeF P w H' acc ks/\∀z,z∈ks↔z∈xY (bk.take (i+1)) st hs)/\yT H1 H':=λhn=>#[#[_,_,_,_,BB],#[ks,J,λz=>by rw[hm,a2];show#[.inr,λz=>z.elim (λq=>absurd #[q.1,q.2.1] hn) id]],S'];show#[wa,_,BB,.of bd,BB,_,_,BB,_,_,BB,_,_,BB,_,_,BB,BB,?_];show#[_,BB,_,BB,a,_,_,_,BB,BB,.of an,zg2 O.b0 (by lia),_,BB,BB,_,BB,znb (λh2=>?_) (λh2=>?_)];have I:zN st x.b=x.w:=by simpa using h2
  show#[_,BB,_,BB,Z,_,BB,.inr (.of a1),BB,zca hs,_,BB,?_];rw[zdR];by_cases Y:x.b∈hs;rw[dD.mpr Y];show zrv (zrv (no λq=>q.2 Y))
  have hc:hs.contains x.b=false:=by
   cases e:hs.contains x.b with
   | false=>rfl
   | true=>show absurd (dD.mp e) Y
  rw[hc];show iteT #[_,BB,_,BB,a,ga,st,gs,x.g,BB,an,be,U,λq hq=>?_,_,BB,?_];have:=O.giv.ok q hq;show#[this.1,by lia];have hg:zbd st x=x6 st x.g:=by unfold zbd;rw[I];simp
  show znb (λh3=>?_) (λh3=>?_);show#[_,BB,_,BB,_,BB,a,st,x.b,x.r,BB,an,by lia,O.b0,λp H5 hp S5=>?_];have ad:zeF P w H5 acc ks:=by fail"up"
  show#[p,_,ks,BB,hp,ad,?_,λo bo a3 bs b3=>#[#[_,_,_,_,BB],#[bo,a3,λz=>?_],zmx ac (by fail"up")]];obtain⟨_,_,_,_,ap⟩:=ad;have:=zcd (hs:=hs) (bk:=bk.take i) (λy B=>hB.ok y (bw B)) h8 as ap λz hz=>(hm z).mp hz;lia;rw[bs,a2,hm];constructor;rintro (h4 | h4);show .inl #[by rw[hg];show h3,Y,h4];show .inr h4;rintro (h4 | h4);show .inl h4.2.2;show .inr h4;show no λq=>h3 (by rw[<- hg];show q.1);show zrv (no λq=>h2 ?_);have:=q.1;unfold zbd at this;rw[bE] at this;simpa using this.1;rintro al H2 ⟨_,⟨ks,J,hm⟩,S2⟩;rw[a0,bV] at hm;have U:=zce (hs:=hs) hB.ok hl;show#[acc,ks,rm.length,BB,J,?_,h1,λz hz=>U z ((hm z).mp hz),λys a4 b4 hp hu=>?_];obtain⟨_,_,_,_,ap⟩:=J;have:=zcd hB.ok h8 as ap λz hz=>(hm z).mp hz;lia;have e:a4=zbr bk st hs:=zhk U hu λz=>(hp.mem_iff).trans (hm z);subst e;intro l H3 a5 g3 S3;have S23:yT H H2:=by fail"up"
  show k l H3 ?_ #[ys,g3,by fail"up"] (by fail"up")
  cases e:H l with
  | none=>rfl
  | some o=>rw[S23 _ _ e] at a5;cases a5
def zd8 (T:Txt K mg t):FnOk P w K mg base CX0 1 t.fI_Leads t.dI_Leads lA (zey t.C_Leads):=by
 show T.Leads.FI.okQ zer (λvs H Q E h=>?_) (λF A B s H vs Q E U h=>?_);obtain⟨a,dx,I,J,O,rfl,_⟩:=h;rfl;show#[_,#[zaV (zhe (pv 0) (pv 1) BB) (zaV (zhe (pv 0) (pv 2) BB) (zaV (zhe (pv 0) (pv 3) BB) (zen (zhe (pv 0) zha BB))))],?_];have e:xx lA vs=vs.map some:=by obtain⟨a,dx,I,J,O,rfl,_⟩:=h;rfl
 rw[e];show zmq T.Leads.c h λ_ _ q=>q
def zc6 (T:Txt K mg t):FnOk P w K mg base CX0 4 t.fA_Leads t.dA_Leads lL (zex P w t.C_Leads):=by
 show T.Leads.FA.okQ zdc (λvs H Q E h=>?_) (λI A q s H vs Q E F h=>?_);obtain⟨L,st,J,rfl,_⟩:=h;rfl;have B:=zlv F
 show#[_,#[zaV (zsn (znv (zjZ B (pv 1) (zpu (zcE (pv 0) BB)))) (zen (zj7 B (zcE (pv 0) BB) (pv 1) (zpo (zny T.q4 (zd9 (P:=P) (w:=w) (base:=base) T) F #[zbk (zcE (pv 0) BB) (zbk (zcE (pv 0) BB) (zbk (pv 1) (zbk (zcE (pv 0) BB) znq)))]).run) BB)) zj8)
  (zen (znu (zpp (zj1 B (zcE (pv 0) BB) (pv 1) (λ_ _=>rfl)))))],?_]
 have e:xx lL vs=vs.map some:=by obtain⟨L,st,J,rfl,_⟩:=h;rfl
 rw[e];show zmp T.Leads.c h BB
def ztu:Dt->Bool
 | .int _=>true
 | _=>false
def WOk (rm:AG)(i:Int)(d:Dt):Prop:=∃x,d = .int x/\0<=x/\x<zN rm i
def znV (rm:AG)(d:Dt):Prop:=∃s,d=stD s/\StOk rm s
def ztW (rm:AG)(d:Dt):Prop:=∃BF,d=zaB BF/\∀s∈BF,StOk rm s
def znU{rm:AG}(B:l.length=rm.length)(h:∀ (j:Nat) (d:Dt),l[j]?=some d->WOk rm j d):znV rm (.tup l):=by
 have g:∀ {l:AS},(∀d∈l,∃x,d=Dt.int x)->∃s:AG,l=s.map .int:=λ{l}=>by
  induction l with
  | nil=>show λ_=>#[[],BB]
  | cons d l F=>
   intro h;obtain⟨x,rfl⟩:=h d (.head _);obtain⟨s,rfl⟩:=F λe I=>h e (.tail _ I);show#[x::s,BB]
 obtain⟨s,rfl⟩:=g λd J=>by obtain⟨j,q⟩:=List.mem_iff_getElem?.mp J;obtain⟨x,e,_⟩:=h j d q;show#[x,e]
 rw[ab] at B;show#[s,BB,B,λb O U=>?_];obtain⟨j,rfl⟩:=Int.eq_ofNat_of_zero_le O;have q:j<s.length:=by lia
 obtain⟨x,e,h2⟩:=h j (.int s[j]) (by rw[aC,ak q];rfl);cases e;rw[zE,au,ak q];show h2
theorem zfJ {rm:AG}:∀ {l:AS},(∀d∈l,znV rm d)->ztW rm (.lst l)
 | [],_=>#[[],BB,by simp]
 | d::l,h=>by obtain⟨s,rfl,hs⟩:=h d (.head _);obtain⟨BF,e,h2⟩:=zfJ λe q=>h e (.tail _ q);cases e;show#[s::BF,BB,by simpa using #[hs,h2]]
inductive F_wh  (Pn:PN):AU->Nat->AV->Prop
 | i {n:Nat} {R:AV} {d:Dt}  (h:R (.d (.bl (ztu d))) n)  : F_wh Pn [.d d] n R
def ze8 (T:Txt K mg t):FnOk P w K mg base CX0 1 t.f5 t.d5 [Aw] (spV 1 false F_wh):=by show Fun.okW (k:=0) (fr:=false) [] 0 T.q5.F zgr BB (by ext) BB λB A q s H E Pn J=>#[_,(zg (zu (wE zbV <| zlC (JE.bo (wE uj <| zbs (by rfl) T.b_isinstance T.b_int (kb 0))) (zoJ (wE zlT <| zuK (JE.bo (wE uj <| uh (by rfl) T.b_isinstance T.b_bool (kb 0)))))))),λO n R I=>?_];obtain @⟨_,_,d,r⟩:=I;left;cases d <;> show r
inductive F_wo  (Pn:PN):AU->Nat->AV->Prop
 | i {n:Nat} {R:AV} {rm:AG} {i:Int} {d:Dt} (h0:0<=i) (h1:i<rm.length) (h:∀b:Bool,(b=true↔WOk rm i d)->R (.d (.bl b)) n)  : F_wo Pn [.d (stD rm),.d (.int i),.d d] n R
def ze9 (T:Txt K mg t):FnOk P w K mg base CX0 2 t.f6 t.d6 lH (spV 3 false F_wo):=by
 have G5:=ze8 (P:=P) (w:=w) (base:=base) T;show Fun.okW (k:=1) (fr:=false) [] 0 T.q6.F zgs BB (by ext) BB λB A q s H E Pn I=>#[_,(zg (zu (wE zbV <| zlC (JE.bo (wE zm <| yB T.q5 G5 I (za (kv 2) ze))) (zoJ (wE zjx <| zoH zpj zhO zvR ztj (JE.bo zl) (kb 2) (JE.bo (xb yD ud (kb 0) (kb 1) (λ_ _=>rfl)))))))),λU n R J=>?_];obtain @⟨_,_,rm,i,d,O,h1,r⟩:=J;left;show F_wh.i ?_
 cases d with
 | int x=>
  left;show yG (λh2=>?_) (λh2=>?_);left;show onA O h1 ?_;left;show r _ #[λh=>#[x,BB,h2,bK h],λ⟨y,e,_,h⟩=>by cases e;show aY h];left;show r _ #[λh=>(by cases h),λ⟨y,e,h,_⟩=>by cases e;show absurd h h2]
 | _=>
  left;show r _ #[λh=>(by cases h),λ⟨y,e,_⟩=>by cases e]
inductive F_sd  (Pn:PN):AU->Nat->AV->Prop
 | i {n:Nat} {R:AV} {rm:AG} {d:Dt} (hR:RoomOk rm) (h:∀b:Bool,(b=true↔znV rm d)->R (.d (.bl b)) n)  : F_sd Pn [.d (stD rm),.d d] n R
def zcy (T:Txt K mg t):FnOk P w K mg base CX0 3 t.f7 t.d7 lF (spV 2 false F_sd):=by
 have G6:=ze9 (P:=P) (w:=w) (base:=base) T
 show Fun.okW (k:=2) (fr:=false) [] 2 T.q7.F xS BB (by ext) BB λac A U s H E Pn hr=>#[_,(zb (wS zr <| ye (JW.t (wW uP <| zcl (wT uk <| zaJ (wT zk <| zam (JE.bo (wE uj <| zal (by rfl) T.b_isinstance T.b_tuple (kb 1))))) (xA (.inr BB) (wT zk <| zv zdb zmM (JE.bo (zA zS yQ (by rfl) T.b_len aL (zh (kb 1) zj))) (JE.bo (zA zS yQ (by rfl) T.b_len aL (zh (kb 0) zj))) (zp _))))) (zg (zu zdZ)) zq)
   (zb (xc bj BB (wI zoW <| zoK BB T.b_enumerate (za (kv 1) ze)) (wG zdo <| zdq (n:=2) K BB BB (wH xz <| yn (wG yf <| zt (i:=2) xS.nd) (wH xz <| yn (wG yf <| zt (i:=3) xS.nd) (wH zdn zbf)))) (zg (wS zr <| ye (wT uk <| zaJ (wT zk <| zam (JE.bo (wE zm <| yB T.q6 G6 hr (za (kv 0) (za (kv 2) (za (kv 3) ze))))))) (zg (zu zdZ)) zq)))
   (zg (zu zdZ)))),λws n R hF=>?_]
 obtain @⟨_,_,rm,d,hR,r⟩:=hF;left;have no:(∀l,d≠.tup l)->R (.d (.bl false)) n:=λh=>r false #[λz=>(by cases z),λ⟨s,e,_⟩=>absurd e (h _)]
 cases d with
 | tup l=>
  left;rw[ab];show zeh (λh=>?_) (λh=>?_);left;show r false #[λz=>(by cases z),?_];rintro⟨s,e,hs⟩;cases e;rw[ab,hs.len] at h;show absurd BB h;have hl:l.length=rm.length:=by lia
  left;show xf (List.range l.length) (λk:Nat=>W.d (.tup [.int (k:Int),l.getD k .non])) (by have:=zoe id Dt.non l;rwa[List.map_id] at this) (λi D m=>m=n/\∃Y Z,D=[some (.d (stD rm)),some (.d (.tup l)),Y,Z]/\∀j:Nat,j<i->WOk rm j (l.getD j .non)) #[BB,_,_,BB,λj h=>by lia] ?_ ?_;rintro i k D m hk ⟨rfl,Y,Z,rfl,O⟩ C B E hC _ hE;obtain⟨I,J⟩:=ah.mp hk;rw[aA] at I;rw[cj] at J;subst J;left;show F_wo.i (by lia) (by lia) λb hb=>?_;cases b;left;show hE (r false #[λz=>(by cases z),?_]);rintro⟨s,e,hs⟩;cases e;rw[ab] at I;have ad:=hs.len;have hx:=hs.box i (by lia) (by lia);rw[zE] at hx;cases hb.mpr #[s.getD i 0,by rw[au,au,aC,ak I];rfl,hx];left;show hC #[BB,_,_,BB,λj hj=>?_];rcases di.mp hj with q | q;show O j q;subst q;show hb.mp BB;rintro D m ⟨rfl,Y,Z,rfl,O⟩;rw[aA] at O;left;show r true #[λ_=>znU hl λj d hd=>?_,λ_=>rfl];have:=O j (ah.mp hd).1;rwa[au,hd] at this
 | _=>
  left;show no λ_ e=>by cases e
inductive F_ast  (Pn:PN):AU->Nat->AV->Prop
 | i {n:Nat} {R:AV} {rm:AG} {d:Dt} (hR:RoomOk rm) (h:∀b:Bool,(b=true↔ztW rm d)->R (.d (.bl b)) n)  : F_ast Pn [.d (stD rm),.d d] n R
def zbj (T:Txt K mg t):FnOk P w K mg base CX0 4 t.f8 t.d8 lF (spV 2 false F_ast):=by
 have G7:=zcy (P:=P) (w:=w) (base:=base) T
 show Fun.okW (k:=3) (fr:=false) [] 1 T.q8.F uA BB (by ext) BB λac A J s H E Pn hr=>#[_,(zb (wS zr <| ye (wT uk <| zaJ (wT zk <| zam (JE.bo (wE uj <| zaH (by rfl) T.b_isinstance T.b_list (kb 1))))) (zg (zu zdZ)) zq)
   (zb (xc bj BB (wI zay <| zav K BB (kv 1)) (wG yf <| zt (i:=2) uA.nd) (zg (wS zr <| ye (wT uk <| zaJ (wT zk <| zam (JE.bo (wE zm <| yB T.q7 G7 hr (za (kv 0) (za (kv 2) ze)))))) (zg (zu zdZ)) zq)))
   (zg (zu zdZ)))),λws n R hF=>?_]
 obtain @⟨_,_,rm,d,hR,r⟩:=hF;left;have no:(∀l,d≠.lst l)->R (.d (.bl false)) n:=λh=>r false #[λz=>(by cases z),λ⟨s,e,_⟩=>absurd e (h _)]
 cases d with
 | lst l=>
  left;show xf l (λd=>W.d d) BB (λi D m=>m=n/\∃O,D=[some (.d (stD rm)),some (.d (.lst l)),O]/\∀d∈l.take i,znV rm d) #[BB,_,BB,by simp] ?_ ?_;rintro i d D m U ⟨rfl,O,rfl,I⟩ C B E hC _ hE;left;show F_sd.i hR λb Y=>?_;cases b;left;show hE (r false #[λz=>(by cases z),?_]);rintro⟨BF,e,hs⟩;cases e;obtain⟨s,h1,h2⟩:=aF.mp (aM U);cases Y.mpr #[s,h2.symm,hs s h1];left;show hC #[BB,_,BB,λe Z=>?_];rw[zw U] at Z;rcases ax.mp Z with q | q;show I e q;rw[ao.mp q];show Y.mp BB;rintro D m ⟨rfl,O,rfl,I⟩;rw[bV] at I;left;show r true #[λ_=>zfJ I,λ_=>rfl]
 | _=>
  left;show no λ_ e=>by cases e
def ziX{l:AF}(h:i<l.length):l.getD i []∈l:=by rw[au,ak h];show bz _
def zkR (bk:AW)(hs:AG)(BF:AF):Bool:=(List.range (BF.length - 1)).all λi=>decide (BF.getD (i+1) []∈zbr bk (BF.getD i []) hs)
inductive F_walked (P:Aa) (w:Ab) (C:Addr) (Pn:PN):AU->Nat->AV->Prop
 | i {n:Nat} {R:AV} {L:LdI} {BF:AF} (hL:Pn.J=ldJ L) (hP:L.P=P) (hw:L.w=w) (hC:L.C=C) (hs:∀st∈BF,StOk L.rm st) (hl:BF.length<=1000) (h:R (.d (.bl (zkR L.bk L.hs BF))) n)  : F_walked P w C Pn [.pen L.a,.d (.lst (BF.map stD))] n R
def zeg (T:Txt K mg t):FnOk P w K mg base CX0 5 t.f9 t.d9 lV (spV 2 false (F_walked P w t.C_Leads)):=by
 have G_Leads_after:=zc6 (P:=P) (w:=w) (base:=base) T;show Fun.okW (k:=4) (fr:=false) [] 0 T.q9.F zfp BB (by ext) BB λJ A q s H E Pn I=>#[_,(zg (zu (zA (zq3 BB) zvL (by rfl) T.b_all PyProof.Rows.boot_all (zh (JE.bo (ux (N:=lP) (BE:=[none,none,some 0]) BB (by fail"c") (wI zlQ <| zoL BB T.b_zip (za (kv 1) (za (wE yh <| ui (kb 1) (wO zD <| zK (JE.bo zl)) zW) ze))) (λ_ _ _ _=>(wG zdo <| zdq (n:=2) K BB BB (wH xz <| yn (wG yf <| zt (i:=0) (show (lP:AM).Nodup by decide +kernel)) (wH xz <| yn (wG yf <| zt (i:=1) (show (lP:AM).Nodup by decide +kernel)) (wH zdn zbf))))) (λ_ _ _ _=>xm) (λ_ _ _ _=>(zlD (zr0 I.units) zvP (kb 1) (JE.bo (zoG (i:=2) P w BB BB T.Leads G_Leads_after I (qv 2) (by ext) (za (kv 0) ze))) (by with_unfolding_all rfl))))) zj)))),λws n R O=>?_];obtain @⟨_,_,L,BF,U,Y,Z,hC,hs,hl,r⟩:=O;left;rw[zmW];show zb8 (List.range (BF.length - 1)) (λi:Nat=>W.d (.tup [stD (BF.getD i []),stD (BF.getD (i+1) [])])) BB (λD=>∃u v,D=[u,v,some (.pen L.a)]) (λi=>.bl (decide (BF.getD (i+1) []∈zbr L.bk (BF.getD i []) L.hs))) (by rw[aA];show aq (by lia:_<=1000) (by ext)) #[_,_,BB] ?_ ?_;rintro i hi ac ⟨u,v,rfl⟩ C hY;have B:i+1<BF.length:=by have:=aK.mp hi;lia
 have h1:BF.getD i []∈BF:=ziX (by lia);have h2:BF.getD (i+1) []∈BF:=ziX B;left;show#[L,U,Y,Z,hC,BB,?_];left;show#[_,BB,hs _ h1,?_];left;show#[yq,zd3 _,λb hb=>?_];have e:b=decide (BF.getD (i+1) []∈zbr L.bk (BF.getD i []) L.hs):=by rw[cb,hb,decide_eq_true_iff];show zo8
 rw[e];show hY #[_,_,BB];left;show#[_,(aO (f:=λi=>decide (BF.getD (i+1) []∈zbr L.bk (BF.getD i []) L.hs)) (g:=Dt.bl)).symm,?_];rw[List.all_map];show r
def zn1{rm:AG}{s t hs:AG}(B:za8 rm bk)(F:StOk rm s)(I:t∈zbr bk s hs):StOk rm t:=by obtain⟨x,J,_,_,rfl⟩:=uL.mp (u6.mp I);have q:=B x J;show zmG F q.b0 q.b1 q.r0 q.r1
structure Way (g:AG->AF)(a b:AG)(l:AF):Prop where
 hd:l[0]?=some a
 lt:l.getLast?=some b
 st:∀i,i+1<l.length->l.getD (i+1) []∈g (l.getD i [])
def zt4 (g:AG->AF)(one other:AG)(BF:AF):Prop:=2<=BF.length/\Way g one other BF
def zk2 {BF:AF}(h:1<=BF.length):atI (BF.map stD) (-1)=some (stD (BF.getD (BF.length - 1) [])):=by unfold atI ixN;rw[ab,if_neg (by ext),if_pos (by lia),show ((-1:Int)+BF.length).toNat=BF.length - 1 by lia];change (BF.map stD)[BF.length - 1]?=_;rw[aC,ak (by lia),au,ak (by lia)];rfl
def zkS{hs one other:AG}{BF:AF}(h2:2<=BF.length):zt4 (λs=>zbr bk s hs) one other BF↔BF.getD 0 []=one/\BF.getD (BF.length - 1) []=other/\zkR bk hs BF=true:=by
 have q:BF[0]?=some (BF.getD 0 []):=by rw[au,ak (by lia)];rfl
 have B:BF.getLast?=some (BF.getD (BF.length - 1) []):=by rw[List.getLast?_eq_getElem?,au,ak (by lia)];rfl
 have F:zkR bk hs BF=true↔∀i,i+1<BF.length->BF.getD (i+1) []∈zbr bk (BF.getD i []) hs:=by unfold zkR;rw[bT];show#[λh i hi=>bK (h i (aK.mpr (by lia))),λh i hi=>aY (h i (by have:=aK.mp hi;lia))]
 rw[F];constructor;rintro⟨_,w⟩;show#[b8 (q.symm.trans w.hd),b8 (B.symm.trans w.lt),w.st];rintro⟨a,b,c⟩;show#[h2,#[by rw[q,a],by rw[B,b],c]]
def ztB (rm:AG)(g:AG->AF)(one other:AG)(d:Dt):Prop:=∃BF,d=zaB BF/\(∀s∈BF,StOk rm s)/\zt4 g one other BF
def zmH {a b:AF}(e:zaB a=zaB b):a=b:=(fW λx y=>zbn).mp (Dt.lst.inj e)
def zhn {rm:AG}{g:AG->AF}{one other:AG}{BF:AF}(hs:∀s∈BF,StOk rm s):ztB rm g one other (zaB BF)↔zt4 g one other BF:=
 #[λ⟨x,e,_,h⟩=>by rw[zmH e];show h,λh=>#[BF,BB,hs,h]]
def zan {Q:Prop}(h:¬ Q):(false=true)↔Q:=#[λz=>(by cases z),λz=>absurd z h]
inductive F_isw (P:Aa) (w:Ab) (C:Addr) (Pn:PN):AU->Nat->AV->Prop
 | i {n:Nat} {R:AV} {L:LdI} {one other:AG} {d:Dt} (hL:Pn.J=ldJ L) (hP:L.P=P) (hw:L.w=w) (hC:L.C=C) (hR:RoomOk L.rm) (hl:∀l,d = .lst l->l.length<=1000) (h:∀b:Bool,(b=true↔ztB L.rm (λs=>zbr L.bk s L.hs) one other d)->R (.d (.bl b)) n)  : F_isw P w C Pn [.pen L.a,.d (stD one),.d (stD other),.d d] n R
def zhM (T:Txt K mg t):FnOk P w K mg base CX0 6 t.f10 t.d10 ly (spV 4 false (F_isw P w t.C_Leads)):=by
 have G8:=zbj (P:=P) (w:=w) (base:=base) T;have G9:=zeg (P:=P) (w:=w) (base:=base) T
 show Fun.okW (k:=5) (fr:=false) [] 0 T.q10.F zkn BB (by ext) BB λac A Z s H E Pn U=>#[_,(zb (wS zr <| ye (JW.t (wW uP <| zcl (wT uk <| zaJ (wT zk <| zam (JE.bo (wE zm <| yB T.q8 G8 U (za (zlF T.Leads.c (qv 0) (by ext)) (za (kv 3) ze)))))) (xA (.inr BB) (wT zk <| zv zhO ztj (JE.bo (zA zS yQ (by rfl) T.b_len aL (zh (kb 3) zj))) (JE.bo zl) (zp _))))) (zg (zu zdZ)) zq)
   (zg (zu (wE zbV <| zlC (JE.bo (zlD (zjT U.units) zqA (JE.bo (xb zH yM (kb 3) (JE.bo zl) (λ_ _=>rfl))) (kb 1) (zp _))) (wE zbV <| zlC (JE.bo (zlD (zjT U.units) zqA (JE.bo (xb zH yM (kb 3) (JE.bo (zrz zfy zkL (JE.bo zl))) (λ_ _=>rfl))) (kb 2) (zp _))) (zoJ (wE zm <| yB T.q9 G9 U (za (kv 0) (za (kv 3) ze))))))))),λws n R hF=>?_]
 obtain @⟨_,_,L,one,other,d,hL,hP,hw,hC,hR,Y,r⟩:=hF;left;show#[L,hL,hC,BB,?_];left;show F_ast.i hR λb hb=>?_;cases b;left;show r false (zan λ⟨BF,e,h,_⟩=>by cases hb.mpr #[BF,e,h]);obtain⟨BF,rfl,hs⟩:=hb.mp BB;have Y:=Y _ BB;rw[ab] at Y;have I:=zhn (g:=λs=>zbr L.bk s L.hs) (one:=one) (other:=other) hs;left;rw[ab];show yG (λh2=>?_) (λh2=>?_);left;show r false (zan λz=>absurd (I.mp z).1 (by lia));have l2:2<=BF.length:=by lia
 have wi:=zkS (bk:=L.bk) (hs:=L.hs) (one:=one) (other:=other) l2;left;show xO (uw (i:=0) (by lia)) ?_;left;show#[yq,yq,λb1 J=>?_];left;show zjR (λq=>?_) (λq=>?_);have q:=zbn (J.mp q);left;show xO (zk2 (by lia)) ?_;left;show#[yq,yq,λb2 O=>?_];left;show zjR (λB=>?_) (λB=>?_);have B:=zbn (O.mp B);left;show F_walked.i hL hP hw hC hs Y ?_;show r _ #[λz=>I.mpr (wi.mpr #[q,B,z]),λz=>(wi.mp (I.mp z)).2.2];show r false (zan λz=>by rw[O.mpr (by rw[(wi.mp (I.mp z)).2.1])] at B;cases B);show r false (zan λz=>by rw[J.mpr (by rw[(wi.mp (I.mp z)).1])] at q;cases q)
inductive F_lway (P:Aa) (w:Ab) (C:Addr) (Pn:PN):AU->Nat->AV->Prop
 | i {n:Nat} {R:AV} {rm:AG} {bk:AW} {one other hs:AG} {d:Dt} {v:W} (hJ:Pn.J=J0) (hv:v = .d (stD hs)\/(hs=[]/\v = .d .non)) (hR:RoomOk rm) (hB:za8 rm bk) (hl:∀l,d = .lst l->l.length<=1000) (h:∀b:Bool,(b=true↔ztB rm (λs=>zbr bk s hs) one other d)->R (.d (.bl b)) n)  : F_lway P w C Pn [.d (stD rm),.d (uF bk),.d (stD one),.d (stD other),.d d,v] n R
def zfa (T:Txt K mg t):FnOk P w K mg base CX0 7 t.f11 t.d11 ll (spV 6 false (F_lway P w t.C_Leads)):=by have G10:=zhM (P:=P) (w:=w) (base:=base) T;have G_Leads_init:=zd8 (P:=P) (w:=w) (base:=base) T;show FunD.okW (k:=6) (fr:=false) [] 0 T.q11.F zgt BB (by ext) BB λI A q s H E Pn J=>#[_,(zg (zu (zuJ P w BB BB T.Leads T.q10 G_Leads_init G10 J T.Leads.b .nil (dv:=[]) (λ_ _=>rfl) (za (kv 0) (za (kv 1) (za (kv 5) ze))) (za (kv 2) (za (kv 3) (za (kv 4) ze))) ))),λws n R O=>?_];obtain @⟨_,_,rm,bk,one,other,hs,d,v,U,Y,B,Z,hl,r⟩:=O;left;show#[U,?_];left;show#[rm,bk,hs,v,BB,Y,B,Z,?_];left;show#[BB,BB,?_];rintro L hP hw hC rfl rfl rfl;show F_isw.i BB hP hw hC B hl r
inductive F_size  (Pn:PN):AU->Nat->AV->Prop
 | i {n:Nat} {R:AV} {ns:AG} {x:Dt} (hw:x=stD ns\/x=lsD ns) (hb:∀m∈ns,2<=m/\m<=4) (h:R (.d (.int (yz ns))) n)  : F_size Pn [.d x] n R
def zaS (T:Txt K mg t):FnOk P w K mg base CX0 1 t.f12 t.d12 ln (spV 1 false F_size):=by
 show Fun.okW (k:=0) (fr:=false) [] 2 T.q12.F xI BB (by ext) BB λJ A q s H E Pn hr=>#[_,(zb (wS zn <| zB (i:=1) xI.nd zl)
   (zb (xc bj BB (wI zjC <| znc K BB (kv 0)) (wG yf <| zt (i:=2) xI.nd) (zg (wS zn <| zB (i:=1) xI.nd (yO uS zqC (kb 1) (kb 2)))))
   (zg (zu (kv 1))))),λws n R O=>?_]
 obtain @⟨_,_,ns,x,U,Y,r⟩:=O;left;refine' zrL _ (λkey=>?_) ?_;rotate_left;rcases U with rfl | rfl;left;generalize W.d (stD ns)=x;show key x;left;generalize W.d (lsD ns)=x;show key x;intro x;show xf ns (λi=>.d (.int i)) (by rw[aO];rfl) (λi D m=>m=n/\∃v,D=[some x,some (.d (.int (yz (ns.take i)))),v]) #[BB,none,BB] ?_ ?_;rintro i a D m I ⟨rfl,v,rfl⟩ C B E Z _ _;have hm:=Y a (aM I);left;show#[.inr #[by lia,by lia],Z #[BB,some (.d (.int a)),?_]];rw[zw I,xl];rintro D m ⟨rfl,v,rfl⟩;rw[bV];left;show r
inductive F_allQ  (Pn:PN):AU->Nat->AV->Prop
 | i {n:Nat} {R:AV} {ns:AG} {x:Dt} (hw:x=stD ns\/x=lsD ns) (hb:∀m∈ns,2<=m/\m<=4) (h8:ns.length<=8) (h:R (.d (zaB (zaD (ns.map z8)))) n)  : F_allQ Pn [.d x] n R
def ze7 (T:Txt K mg t):FnOk P w K mg base CX0 1 t.f13 t.d13 ln (spV 1 false F_allQ):=by
 show Fun.okW (k:=0) (fr:=false) [] 2 T.q13.F ut BB (by ext) BB λac A O s H E Pn hr=>#[_,(zb (wS zn <| zB (i:=1) ut.nd (xw (za (yP ze) ze)))
   (zb (xc bj BB (wI zjC <| znc K BB (kv 0)) (wG yf <| zt (i:=2) ut.nd) (zg (wS zn <| zB (i:=1) ut.nd (ux (N:=lN) (BE:=[none,some 1,some 2]) BB (by fail"c") (wI yJ <| zV BB T.b_range (zh (JE.bo (yO uS zqC (JE.bo (zA zS yQ (by rfl) T.b_len aL (zh (kb 1) zj))) (kb 2))) zj)) (λ_ _ _ _=>(wG yf <| zt (i:=0) (show (lN:AM).Nodup by decide +kernel))) (λ_ _ _ _=>xm) (λ_ _ _ _=>(yO xP zbJ (JE.bo (xb zH yM (kb 1) (JE.bo (yO zcC znP (kb 0) (kb 2))) (λ_ _=>rfl))) (JE.bo (yP (za (yO uz zmL (kb 0) (kb 2)) ze)))))))))
   (zg (zu (kv 1))))),λws n R hF=>?_]
 obtain @⟨_,_,ns,x,hw,hb,h8,r⟩:=hF;left;refine' zrL _ (λkey=>?_) ?_;rotate_left;rcases hw with rfl | rfl;left;generalize W.d (stD ns)=x;show key x;left;generalize W.d (lsD ns)=x;show key x;intro x;show xf ns (λi=>.d (.int i)) (by rw[aO];rfl) (λi D m=>m=n/\∃v,D=[some x,some (.d (zaB (zaD ((ns.take i).map z8)))),v]) #[BB,none,BB] ?_ ?_;rintro i a D m ha ⟨rfl,v,rfl⟩ C B E U _ _;have hm:=hb a (aM ha);obtain⟨w,rfl⟩:∃w:Nat,a=(w:Int):=#[a.toNat,by lia];have q:=zgC h8 hb i;have I:∀st∈zaD ((ns.take i).map z8),st.length<=8:=λst Y=>by rw[zkY _ _ Y,ab,bp];lia
 have J:(List.range ((zaD ((ns.take i).map z8)).length * w)).map (λk=>(zaD ((ns.take i).map z8)).getD (k / w) []++[((k % w:Nat):Int)])=zaD ((ns.take (i+1)).map z8):=by rw[zw ha,a9,aD,eO,xU,zgI _ (by lia)]
 generalize zaD ((ns.take i).map z8)=rows at q J I;have Z:rows.length * w<=262144:=Nat.mul_le_mul q (by lia:w<=4);left;have e:(((rows.map stD).length:Nat):Int) * (w:Int)=((rows.length * w:Nat):Int):=by rw[ab,ek]
 show#[.inr #[by lia,by lia],?_];left;rw[e];show#[#[by lia,by lia],?_];rw[aQ,xF];show zb8 (List.range (rows.length * w)) (λk:Nat=>W.d (.int (k:Int))) BB (λD=>∃v,D=[v,some (.d (zaB rows)),some (.d (.int (w:Int)))]) (λk=>stD (rows.getD (k / w) []++[((k % w:Nat):Int)])) (by rw[aA];show aq Z (by ext)) #[_,BB] ?_ ?_;rintro k hk ad ⟨v,rfl⟩ C U;have ag:=aK.mp hk;have hd:k / w<rows.length:=Nat.div_lt_of_lt_mul (by rwa[Nat.mul_comm]);have e1:(k:Int) / (w:Int)=((k / w:Nat):Int):=by lia
 have e2:(k:Int) % (w:Int)=((k % w:Nat):Int):=by lia
 left;show#[#[by lia,by lia],?_];left;rw[e1];show xO (uw hd) ?_;left;show#[by lia,?_];left;show#[ztJ (aq (I _ (zM hd)) (by ext)),?_];rw[ztD,e2];show U #[_,BB];rw[show (List.range (rows.length * w)).map (λk=>stD (rows.getD (k / w) []++[((k % w:Nat):Int)]))=((List.range (rows.length * w)).map λk=>rows.getD (k / w) []++[((k % w:Nat):Int)]).map stD by rw[aO];rfl,J];left;show U #[BB,_,BB];rintro D m ⟨rfl,v,rfl⟩;rw[bV];left;show r
inductive F_mkRm (K:AH) (Pn:PN):AU->Nat->AV->Prop
 | i {n:Nat} {R:AV} {p:Addr} {most:Int} (hP:zba K Pn p) (hmo:4<=most/\most<=64) (h:∀rm m,RoomOk rm->yz rm<=most->m<=n+20->R (.d (stD rm)) m) (hn:n+30<=1000000:=by lia):F_mkRm K Pn [.pen p,.d (.int most)] n R
def zee (T:Txt K mg t):FnOk P w K mg base CX0 2 t.f14 t.d14 lh (spV 2 false (F_mkRm K)):=by
 have G1:=zF (P:=P) (w:=w) (base:=base) T;have G12:=zaS (P:=P) (w:=w) (base:=base) T
 show Fun.okW (k:=1) (fr:=false) [] 4 T.q14.F yu BB (by ext) BB λad A ac s H E Pn I=>#[_,(zb (wS zn <| zB (i:=2) yu.nd (xw (za (yP (za zl ze)) (za (yP (za zl (za zl ze))) (za (yP (za zl (za zl (za zl (za zl ze))))) (za (yP (za zl (za zl ze))) (za (yP (za zl (za zl (za zl (za zl (za zl (za zl ze))))))) (za (yP (za zl (za zl (za zl ze)))) (za (yP (za zl (za zl (za zl (za zl ze))))) ze)))))))))
   (zb (wS zn <| zB (i:=3) yu.nd (xb zH yM (kb 2) (JE.bo (wE zm <| yB T.q1 G1 I (za (kv 0) (za zl ze)))) (λ_ _=>rfl)))
   (zb (wS zr <| ye (JW.t (wW zax <| zck (wT zk <| zv zpj zvR (JE.bo (wE zm <| yB T.q12 G12 I (za (kv 3) ze))) (kb 1) (zp _)) (xA (.inl BB) (wT zk <| zv yY zbR (JE.bo (wE zm <| yB T.q1 G1 I (za (kv 0) (za zl ze)))) (JE.bo zl) (zp _))))) (zg (zu (kv 3))) zq)
   (zb (wS zn <| zB (i:=3) yu.nd (yP ze))
   (zb (xc bj BB (wI yJ <| zV BB T.b_range (zh (JE.bo (yO z7 xu (JE.bo zl) (JE.bo (wE zm <| yB T.q1 G1 I (za (kv 0) (za zl ze)))))) zj)) (wG yf <| zt (i:=4) yu.nd) (zb (wS zn <| zB (i:=5) yu.nd (yO z7 xu (JE.bo zl) (JE.bo (wE zm <| yB T.q1 G1 I (za (kv 0) (za zl ze))))))
   (zg (wS zr <| ye (wT zk <| zv zpj zvR (JE.bo (yO uS zqC (JE.bo (wE zm <| yB T.q12 G12 I (za (kv 3) ze))) (kb 5))) (kb 1) (zp _)) (zg (wS zn <| zB (i:=3) yu.nd (yO xP zbJ (kb 3) (JE.bo (yP (za (kv 5) ze)))))) zq))))
   (zg (zu (kv 3)))))))),λws n R hF=>?_]
 obtain @⟨_,_,p,q,Z,ag,r,hn⟩:=hF;left;show dr Z λa a0 a1=>?_;left;show zjQ a0 a1 λx hx=>?_
 obtain⟨rm,rfl,hR,hp⟩:∃rm,x=stD rm/\RoomOk rm/\yz rm<=256:=by
  simp only[ay,bB,or_false] at hx;rcases hx with rfl | rfl | rfl | rfl | rfl | rfl | rfl;show ur [2] BB (by ext);show ur [4,2] BB (by ext);show ur [2,2,2,2] BB (by ext);show ur [4,4] BB (by ext);show ur [2,2,2,2,2,2] BB (by ext);show ur [4,4,4] BB (by ext);show ur [3,2,4,2] BB (by ext)
 left;show F_size.i (.inl BB) hR.box ?_;left;refine' zvb (n+2) _ (λzx=>?_) ?_;rotate_left;show yG (λhsz=>?_) (λ_=>?_);left;show dr Z λb b0 b1=>?_;left;show yG (λ_=>?_) (λ_=>?_);left;show r rm _ hR hsz (by lia);left;generalize O:n+1+1=U;show zx U (by lia);left;generalize O:n+1=U;show zx U (by lia);intro U O;left;show dr Z λt t0 t1=>?_;left;show#[#[by lia,by lia],zcb (λi D m=>m<=U+1+i/\∃rm v2 v4 v5,D=[some (.pen p),some (.d (.int q)),v2,some (.d (stD rm)),v4,v5]/\(∀r∈rm,2<=r/\r<=4)/\yz rm<=q/\(1<=i->rm≠[])) #[by lia,[],_,_,_,BB,by simp,by change (1:Int)<=q;lia,by lia] ?_ ?_];rintro i D m hi ⟨hm,rm,v2,v4,v5,rfl,J,hp,Y⟩ C B E hC _ _;left;show dr Z λw w0 w1=>?_;have h8:=zbz J (by lia);left;show F_size.i (.inl BB) J ?_;left;show#[.inr #[by lia,by lia],?_];left;show yG (λhc=>?_) (λhc=>?_);left;show#[ztJ (by lia),?_];rw[ztD];show hC #[by lia,rm++[2+w],_,_,_,BB,λr I=>?_,by rw[xl];show hc,λ_=>by simp];rcases ax.mp I with z | z;show J r z;rw[ao.mp z];lia;left;show hC #[by lia,rm,_,_,_,BB,J,hp,λ_ z=>hc ?_];subst z;change 1 * (2+w)<=q;lia;rintro D m ⟨hm,rm,v2,v4,v5,rfl,J,hp,Y⟩;left;show r rm m #[Y (by lia),zbz J (by lia),J] (by lia) (by lia)
inductive F_mkSt (K:AH) (Pn:PN):AU->Nat->AV->Prop
 | i {n:Nat} {R:AV} {p:Addr} {rm:AG} (hP:zba K Pn p) (hR:RoomOk rm) (h:∀st m,StOk rm st->m<=n+8->R (.d (stD st)) m) (hn:n+20<=1000000:=by lia):F_mkSt K Pn [.pen p,.d (stD rm)] n R
def zbi (T:Txt K mg t):FnOk P w K mg base CX0 2 t.f15 t.d15 lc (spV 2 false (F_mkSt K)):=by
 have G1:=zF (P:=P) (w:=w) (base:=base) T;show Fun.okW (k:=1) (fr:=false) [] 0 T.q15.F zbP BB (by ext) BB λZ A I s H E Pn hr=>#[_,(zg (zu (yy zO xT (by rfl) T.b_tuple bf (zh (JE.bo (ux (N:=lU) (BE:=[none,some 0]) BB (by fail"c") (wI zcs <| zeY K BB (kv 1)) (λ_ _ _ _=>(wG yf <| zt (i:=0) (show (lU:AM).Nodup by decide +kernel))) (λ_ _ _ _=>xm) (λ_ _ _ _=>(wE zm <| yB T.q1 G1 hr (za (kv 1) (za (kv 0) ze)))))) zj)))),λws n R hF=>?_];obtain @⟨_,_,p,rm,hP,Y,r,hn⟩:=hF;left;have h8:=Y.few;show zgG rm (λi=>.d (.int i)) (by rw[aO];rfl) (aq h8 (by ext)) (λi q J acc=>J=n+i/\i<=rm.length/\∃ (v:Option W) (st:AG),q=[v,some (.pen p)]/\acc=st.map Dt.int/\StOk (rm.take i) st) #[BB,aI _,none,[],BB,BB,BB,λb b0 b1=>absurd b1 (by simp;lia)] ?_ ?_;rintro i a q J acc O ⟨rfl,hi,v,st,rfl,rfl,B⟩ C hC;have hm:=Y.box a (aM O);have U:=(ah.mp O).1;left;show dr hP λt t0 t1=>?_;left;rw[ztD];show hC #[BB,U,_,st++[t],BB,BB,?_];rw[zw O];show B.snoc t0 t1;rintro q J acc ⟨rfl,hi,v,st,rfl,rfl,B⟩;rw[bV] at B;show r st _ B (by lia)
inductive F_mkGv (K:AH) (Pn:PN):AU->Nat->AV->Prop
 | i {n:Nat} {R:AV} {p:Addr} {rm:AG} {box:Int} (hP:zba K Pn p) (hR:RoomOk rm) (h:∀g m,Giv rm g->(∀q∈g,q.1≠box)->m<=n+20->R (.d (ztG g)) m) (hn:n+40<=1000000:=by lia):F_mkGv K Pn [.pen p,.d (stD rm),.d (.int box)] n R
def zc8 (T:Txt K mg t):FnOk P w K mg base CX0 2 t.f16 t.d16 lu (spV 3 false (F_mkGv K)):=by
 have G1:=zF (P:=P) (w:=w) (base:=base) T
 show Fun.okW (k:=1) (fr:=false) [4] 3 T.q16.F xi BB (by ext) BB λal A ac s H E Pn hr=>#[_,(zb (wS zn <| zB (i:=3) xi.nd (yO z7 xu (JE.bo zl) (JE.bo (wE zm <| yB T.q1 G1 hr (za (kv 0) (za zl ze))))))
   (zb (wS xo <| zaI (i:=4) xi.nd (xw ze))
   (zb (xc bj BB (wI yJ <| zV BB T.b_range (zh (JE.bo (zA zS yQ (by rfl) T.b_len aL (zh (kb 1) zj))) zj)) (wG yf <| zt (i:=5) xi.nd) (zg (wS zr <| ye (JW.t (wW zax <| zck (wT zk <| zv yY zbR (JE.bo (wE zm <| yB T.q1 G1 hr (za (kv 0) (za (yO z7 xu (JE.bo zl) (kb 3)) ze)))) (JE.bo zl) (zp _)) (xA (.inl BB) (wT zk <| zv zdb zmM (kb 5) (kb 2) (zp _))))) (zg (wS zjw <| znd 4 (yP (za (kv 5) (za (wE zm <| yB T.q1 G1 hr (za (kv 0) (za (xb yD ud (kb 1) (kb 5) (λ_ _=>rfl)) ze))) ze))))) zq)))
   (zg (zu (yy zO xT (by rfl) T.b_tuple bf (zh (kb 4) zj))))))),λws n R hF=>?_]
 obtain @⟨_,_,p,rm,O,hP,hR,r,hn⟩:=hF;left;have h8:=hR.few;show dr hP λra an ap=>?_;left;rw[ab];show#[#[by lia,by lia],zcb (λi D m=>m<=n+1+2 * i/\i<=rm.length/\∃g U,D=[some (.pen p),some (.d (stD rm)),some (.d (.int O)),some (.d (.int (1+ra))),some (.d (.lst (g.map xQ))),U]/\Giv rm g/\(∀q∈g,q.1≠O)/\(∀q∈g,q.1<(i:Int))/\g.length<=i) #[by lia,aI _,[],_,BB,#[by simp,.nil],by simp,by simp,aI _] ?_ ?_];rintro i D m hi ⟨hm,ad,g,U,rfl,hG,I,J,ag⟩ C B E hC _ _;have as:=xt hR.box (b:=(i:Int)) (by lia) (by lia);left;show dr hP λt t0 t1=>?_;have Y:∀U,C [some (.pen p),some (.d (stD rm)),some (.d (.int O)),some (.d (.int (1+ra))),some (.d (.lst (g.map xQ))),U] (m+1):=λU=>hC #[by lia,by lia,g,_,BB,hG,I,λq Z=>by have:=J q Z;lia,by lia];left;show yG (λ_=>?_) (λ_=>#[Y _]);left;show zeh (λhb=>?_) (λ_=>#[Y _]);left;show onA (by lia) (by lia) ?_;left;show dr hP λu u0 u1=>?_;left;show#[by rw[ab];show bg (by lia:_<=8) (by ext),hC #[by lia,by lia,g++[((i:Int),u)],_,by rw[a9];rfl,hG.snoc J (by lia) (by lia) u0 u1,λq Z=>?_,λq Z=>?_,by rw[aj];simp;lia]];rcases ax.mp Z with z | z;show I q z;rw[ao.mp z];show hb;rcases ax.mp Z with z | z;have:=J q z;lia;rw[ao.mp z];change (i:Int)<((i+1:Nat):Int);lia;rintro D m ⟨hm,ad,g,U,rfl,hG,I,J,ag⟩;left;show r g m hG I (by lia)
inductive F_mkWi (K:AH) (Pn:PN):AU->Nat->AV->Prop
 | i {n:Nat} {R:AV} {p:Addr} {rm:AG} {way:Int} (hP:zba K Pn p) (hR:RoomOk rm) (h:∀x m,WishOk rm x->m<=n+30->R (.d (uv x)) m) (hn:n+60<=1000000:=by lia):F_mkWi K Pn [.pen p,.d (stD rm),.d (.int way)] n R
def zaT (T:Txt K mg t):FnOk P w K mg base CX0 3 t.f17 t.d17 lj (spV 3 false (F_mkWi K)):=by
 have G1:=zF (P:=P) (w:=w) (base:=base) T;have G16:=zc8 (P:=P) (w:=w) (base:=base) T
 show Fun.okW (k:=2) (fr:=false) [] 3 T.q17.F yZ BB (by ext) BB λag A ac s H E Pn hr=>#[_,(zb (wS zn <| zB (i:=3) yZ.nd (wE zm <| yB T.q1 G1 hr (za (kv 0) (za (zA zS yQ (by rfl) T.b_len aL (zh (kb 1) zj)) ze))))
   (zb (wS zn <| zB (i:=4) yZ.nd (wE zm <| yB T.q1 G1 hr (za (kv 0) (za (xb yD ud (kb 1) (kb 3) (λ_ _=>rfl)) ze))))
   (zb (wS zn <| zB (i:=5) yZ.nd (yO uz zmL (JE.bo (yO z7 xu (JE.bo (yO z7 xu (kb 4) (JE.bo zl))) (JE.bo (wE zm <| yB T.q1 G1 hr (za (kv 0) (za (yO zg8 zmO (JE.bo (xb yD ud (kb 1) (kb 3) (λ_ _=>rfl))) (JE.bo zl)) ze)))))) (JE.bo (xb yD ud (kb 1) (kb 3) (λ_ _=>rfl)))))
   (zb (wS zr <| ye (JW.t (wW zax <| zck (wT zk <| zv yY zbR (kb 2) (JE.bo zl) (zp _)) (xA (.inl BB) (wT zk <| zv zhO ztj (kb 5) (kb 4) (zp _))))) (zg (wS zjD <| zng (i:=5) (j:=4) BB yZ.nd BB BB BB BB (za (kv 4) (za (kv 5) ze)))) zq)
   (zg (zu (yP (za (wE zm <| yB T.q16 G16 hr (za (kv 0) (za (kv 1) (za (kv 3) ze)))) (za (kv 3) (za (kv 5) (za (kv 4) ze))))))))))),λws n R hF=>?_]
 obtain @⟨_,_,p,rm,al,Y,Z,r,hn⟩:=hF;left;have h8:=Z.few;have ad:=Z.pos;rw[ab];show dr Y λq O U=>?_;have hm:=xt Z.box O U;left;show onA O U ?_;left;show dr Y λJ w0 w1=>?_;left;show onA O U ?_;left;show dr Y λt t0 t1=>?_;left;show onA O U ?_;left;show#[by lia,?_];have c0:=cO (J+1+t) (show zN rm q≠0 by lia);have c1:=cg (J+1+t) (show 0<zN rm q by lia)
 have I:(J+1+t) % zN rm q≠J:=by
  have h3:zN rm q=2\/zN rm q=3\/zN rm q=4:=by lia
  revert w1 t1;generalize zN rm q=mm at h3;rcases h3 with rfl | rfl | rfl <;> lia
 generalize (J+1+t) % zN rm q=be at c0 c1 I;left;show yG (λ_=>?_) (λ_=>?_);left;show yG (λ_=>?_) (λ_=>?_);left;show F_mkGv.i Y Z λg m hG B hm=>?_;left;show r #[g,q,J,be] m #[hG,O,U,B,w0,w1,c0,c1,Ne.symm I] (by lia);left;show F_mkGv.i Y Z λg m hG B hm=>?_;left;show r #[g,q,be,J] m #[hG,O,U,B,c0,c1,w0,w1,I] (by lia);left;show F_mkGv.i Y Z λg m hG B hm=>?_;left;show r #[g,q,be,J] m #[hG,O,U,B,c0,c1,w0,w1,I] (by lia)
inductive F_turned (K:AH) (Pn:PN):AU->Nat->AV->Prop
 | i {n:Nat} {R:AV} {p:Addr} {l:AS} (hP:zba K Pn p) (hl:l.length<=1000) (h:∀l':AS,l'.Perm l->R (.d (.lst l')) (n+l.length)) (hn:n+l.length+5<=1000000:=by lia):F_turned K Pn [.pen p,.d (.lst l)] n R
def zcx (T:Txt K mg t):FnOk P w K mg base CX0 2 t.f18 t.d18 lI (spV 2 true (F_turned K)):=by
 have G1:=zF (P:=P) (w:=w) (base:=base) T
 show Fun.okW (k:=1) (fr:=true) [2] 2 T.q18.F xR BB (by ext) BB λY A J s H E Pn Z=>#[_,(zb (wS xo <| zaI (i:=2) xR.nd (xw ze))
   (zb (xc bj BB (wI zay <| zav K BB (kv 1)) (wG yf <| zt (i:=3) xR.nd) (zg (wS zjB <| znf 2 (wE zm <| yB T.q1 G1 Z (za (kv 0) (za (yO z7 xu (JE.bo (zA zS yQ (by rfl) T.b_len aL (zh (kb 2) zj))) (JE.bo zl)) ze))) (kv 3))))
   (zg (wS zd6 <| zf7 2)))),λws n R hF=>?_]
 obtain @⟨_,_,p,l,hP,hl,r,hn⟩:=hF;left;show xf l W.d BB (λi D m=>m=n+i/\i<=l.length/\∃l' v,D=[some (.pen p),some (.d (.lst l)),some (.d (.lst l')),v]/\l'.Perm (l.take i)) #[BB,aI _,[],_,BB,.refl _] ?_ ?_;rintro i a D m U ⟨rfl,O,l',v,rfl,q⟩ C B E hC _ _;have I:=q.length_eq;rw[bp] at I;have hi:=(ah.mp U).1;left;show dr hP λt t0 t1=>?_;left;show#[#[t0,by lia,bg (by lia:_<=1000) (by ext)],hC #[by lia,hi,_,_,BB,?_]];rw[zw U];show .trans ?_ (List.perm_append_comm (l₁:=[a]));show .trans List.perm_middle (List.Perm.cons a ?_);rw[aX];show q;rintro D m ⟨rfl,O,l',v,rfl,q⟩;rw[bV] at q;left;show r l' q
def difK (a b:AG):Nat:=((List.range a.length).filter λk=>!decide (a.getD k 0=b.getD k 0)).headD 0
inductive F_full  (Pn:PN):AU->Nat->AV->Prop
 | i {n:Nat} {R:AV} {rm a b:AG} (hR:RoomOk rm) (ha:StOk rm a) (hb:StOk rm b) (hne:a≠b) (h:∀x,WishOk rm x->x=zot a b (difK a b)->R (.d (uv x)) n)  : F_full Pn [.d (stD a),.d (stD b)] n R
def zec (T:Txt K mg t):FnOk P w K mg base CX0 1 t.f19 t.d19 lM (spV 2 false F_full):=by
 show Fun.okW (k:=0) (fr:=false) [] 2 T.q19.F uZ BB (by ext) BB λag A B s H E Pn hr=>#[_,(zb (wS zn <| zB (i:=2) uZ.nd (xb zH yM (JE.bo (ux (N:=lS) (BE:=[none,some 0,some 1]) BB (by fail"c") (wI yJ <| zV BB T.b_range (zh (JE.bo (zA zS yQ (by rfl) T.b_len aL (zh (kb 0) zj))) zj)) (λ_ _ _ _=>(wG yf <| zt (i:=0) (show (lS:AM).Nodup by decide +kernel))) (λ_ _ _ _=>(zd1 (wT zk <| zv zdb zmM (JE.bo (xb yD ud (kb 1) (kb 0) (λ_ _=>rfl))) (JE.bo (xb yD ud (kb 2) (kb 0) (λ_ _=>rfl))) (zp _)))) (λ_ _ _ _=>(kv 0)))) (JE.bo zl) (λ_ _=>rfl)))
   (zb (wS zn <| zB (i:=3) uZ.nd (yy zO xT (by rfl) T.b_tuple bf (zh (JE.bo (ux (N:=lT) (BE:=[none,some 0,some 2]) BB (by fail"c") (wI yJ <| zV BB T.b_range (zh (JE.bo (zA zS yQ (by rfl) T.b_len aL (zh (kb 0) zj))) zj)) (λ_ _ _ _=>(wG yf <| zt (i:=0) (show (lT:AM).Nodup by decide +kernel))) (λ_ _ _ _=>(zd1 (wT zk <| zv zdb zmM (kb 0) (kb 2) (zp _)))) (λ_ _ _ _=>(yP (za (kv 0) (za (xb yD ud (kb 1) (kb 0) (λ_ _=>rfl)) ze)))))) zj)))
   (zg (zu (yP (za (kv 3) (za (kv 2) (za (xb yD ud (kb 1) (kb 2) (λ_ _=>rfl)) (za (xb yD ud (kb 0) (kb 2) (λ_ _=>rfl)) ze))))))))),λws n R hF=>?_]
 obtain @⟨_,_,rm,a,b,hR,ha,hb,I,r⟩:=hF;left;have J:=ha.len;have O:=hb.len;have h8:=hR.few;rw[ab];show#[#[by lia,by lia],?_];rw[aQ,xF];show zfN (List.range a.length) (λk:Nat=>W.d (.int (k:Int))) BB (λD=>∃v,D=[v,some (.d (stD a)),some (.d (stD b))]) (λk=>!decide (a.getD k 0=b.getD k 0)) (λk=>.int (k:Int)) (by rw[aA];show aq (by lia:a.length<=8) (by ext)) #[_,BB] ?_ ?_;rintro k q U ⟨v,rfl⟩ C Y Z;have al:=aK.mp q;left;show onA (by lia) (by lia) ?_;left;show onA (by lia) (by lia) ?_;left;rw[zE,zE];show zeh (λh=>?_) (λh=>?_);show Y (by rw[a6 h];rfl) #[_,BB];show Z (by rw[aY h];rfl) #[_,BB];obtain⟨k,zx,q,ac,ad⟩:=ziG (J.trans O.symm) I;rw[q];left;show xO (zgD (i:=0) BB) ?_;left;rw[ab];show#[#[by lia,by lia],?_];rw[aQ,xF];show zfN (List.range a.length) (λk:Nat=>W.d (.int (k:Int))) BB (λD=>∃v,D=[v,some (.d (stD a)),some (.d (.int (k:Int)))]) (λi=>!decide (i=k)) (λi=>xQ ((i:Int),a.getD i 0)) (by rw[aA];show aq (by lia:a.length<=8) (by ext)) #[_,BB] ?_ ?_;rintro i hi U ⟨v,rfl⟩ C Y Z;have an:=aK.mp hi;left;show zeh (λh=>?_) (λh=>?_);left;show onA (by lia) (by lia) ?_;left;rw[zE];show Y (by rw[a6 (by lia)];rfl) #[_,BB];show Z (by rw[aY (by lia)];rfl) #[_,BB];left;show onA (by lia) (by lia) ?_;left;show onA (by lia) (by lia) ?_;left;have:=r _ (zlr ha hb ac ad) (by unfold difK;rw[q];rfl);unfold zot uv at this;rw[aO] at this;rw[zE,zE];show this
inductive F_snake  (Pn:PN):AU->Nat->AV->Prop
 | i {n:Nat} {R:AV} {rm:AG} (hR:RoomOk rm) (hp:yz rm<=256) (h:∀BF:AF,BF.Nodup->(∀st∈BF,StOk rm st)->(BF.length:Int)=yz rm->R (.d (zaB BF)) n)  : F_snake Pn [.d (stD rm)] n R
def zda (T:Txt K mg t):FnOk P w K mg base CX0 1 t.f20 t.d20 ln (spV 1 true F_snake):=by
 show Fun.okW (k:=0) (fr:=true) [1,3] 5 T.q20.F yj BB (by ext) BB λa0 A ap s H E Pn hr=>#[_,(zb (wS xo <| zaI (i:=1) yj.nd (xw (za (yP ze) ze)))
   (zb (xc bj BB (wI zcs <| zeY K BB (kv 0)) (wG yf <| zt (i:=2) yj.nd) (zb (wS xo <| zaI (i:=3) yj.nd (xw ze))
   (zb (xc bj BB (wI yJ <| zV BB T.b_range (zh (JE.bo (zA zS yQ (by rfl) T.b_len aL (zh (kb 1) zj))) zj)) (wG yf <| zt (i:=4) yj.nd) (zb (wS zn <| zoO (i:=5) (zd0 (ix:=5) yj.nd BB BB (N:=lQ) (BE:=[none,some 1,some 4]) BB (by fail"c") (wI yJ <| zV BB T.b_range (zh (kb 2) zj)) (λ_ _ _ _=>(wG yf <| zt (i:=0) (show (lQ:AM).Nodup by decide +kernel))) (λ_ _ _ _=>xm) (λ_ _ _ _=>(yO xP zbJ (JE.bo (xb zH yM (kb 1) (kb 2) (λ_ _=>rfl))) (JE.bo (yP (za (kv 0) ze)))))))
   (zg (wS zjA <| zne 3 (xb zH yM (JE.bo (xw (za (kv 5) (za (wE zbW <| zgU (kb 5)) ze)))) (JE.bo (yO uz zmL (kb 4) (JE.bo zl))) (λ_ _=>rfl))))))
   (zg (wS zlS <| zlI (i:=1) 3 yj.nd BB (Or.inr BB))))))
   (zg (wS zd6 <| zf7 1)))),λws n R hF=>?_]
 obtain @⟨_,_,rm,hR,hp,r⟩:=hF;left;have h8:=hR.few;have Y:∀i,yz (rm.take i)<=65536:=λi=>by rw[<- ue _ λn hn=>by have:=hR.box n (bw hn);lia];have:=zgC h8 hR.box i;lia
 show xf rm (λi=>.d (.int i)) (by rw[aO];rfl) (λi D m=>m=n/\∃ (BF:AF) (v2 v3 J O:Option W),D=[some (.d (stD rm)),some (.d (zaB BF)),v2,v3,J,O]/\BF.Nodup/\(∀st∈BF,StOk (rm.take i) st)/\(BF.length:Int)=yz (rm.take i)) #[BB,[[]],_,_,_,_,BB,by ext,λst Z=>?_,rfl] ?_ ?_;rw[ao.mp Z];show#[BB,λb b0 b1=>absurd b1 (by simp;lia)];rintro i a D m ha ⟨rfl,BF,v2,v3,J,O,rfl,hN,I,q⟩ C B E hC _ _;have hm:=hR.box a (aM ha);have hf:=Y i;have a1:=Y (i+1);have al:yz (rm.take (i+1))=yz (rm.take i) * a:=by rw[zw ha,xl]
 obtain⟨w,rfl⟩:∃w:Nat,a=(w:Int):=#[a.toNat,by lia]
 have a2:BF.length * w<=65536:=by
  have:((BF.length * w:Nat):Int)=yz (rm.take (i+1)):=by rw[al,<- q,ek]
  lia
 left;rw[ab];show#[#[by lia,by lia],?_];rw[aQ];show zcb (λk D m'=>m'=m/\∃ (U:AF) (J O:Option W),D=[some (.d (stD rm)),some (.d (zaB BF)),some (.d (.int (w:Int))),some (.d (.lst (U.map stD))),J,O]/\U.Nodup/\(∀x∈U,∃b∈BF.take k,∃v:Int,0<=v/\v<w/\x=b++[v])/\U.length=k * w) #[BB,[],_,_,BB,.nil,by simp,by simp] ?_ ?_;rintro k D m' hk ⟨rfl,U,J,O,rfl,ac,ad,ag⟩ C B E hC _ _;left;show#[#[by lia,by lia],?_];rw[aQ,xF];have as:=(I _ (zM hk)).len;rw[bp] at as;have a3:(k+1) * w<=BF.length * w:=Nat.mul_le_mul_right _ hk;show zb8 (List.range w) (λv:Nat=>W.d (.int (v:Int))) BB (λD=>∃v,D=[v,some (.d (zaB BF)),some (.d (.int (k:Int)))]) (λv=>stD (BF.getD k []++[(v:Int)])) (by rw[aA];show aq (by lia:w<=4) (by ext)) #[_,BB] ?_ ?_;rintro v hv a4 ⟨u,rfl⟩ C hC;left;show xO (uw hk) ?_;left;show#[ztJ (by lia),?_];rw[ztD];show hC #[_,BB];have an:(List.range w).map (λv:Nat=>stD (BF.getD k []++[(v:Int)]))=((List.range w).map λv:Nat=>BF.getD k []++[(v:Int)]).map stD:=by rw[aO];rfl
 rw[an];have fin:∀B:AF,B.Perm ((List.range w).map λv:Nat=>BF.getD k []++[(v:Int)])->∀J O,(U.map stD).length+(B.map stD).length<=lim/\C [some (.d (stD rm)),some (.d (zaB BF)),some (.d (.int (w:Int))),some (.d (.lst (U.map stD++B.map stD))),J,O] m':=λB hB J O=>by obtain⟨q1,q2,q3⟩:=zhW hk hN ac ad ag hB;show#[?_,hC #[BB,U++B,_,_,by rw[a9],q1,q2,q3]];rw[ab,ab,<- aj,q3];show aq (by lia:_<=65536) (by ext)
 generalize ((List.range w).map λv:Nat=>BF.getD k []++[(v:Int)])=blk at fin;left;have h2:(k:Int) % 2=0\/(k:Int) % 2=1:=by lia
 show#[by lia,?_];left;rcases h2 with e | e
 rw[e];with_reducible show xO zt5 ?_;show fin blk (.refl _) _ _
 rw[e];with_reducible show xO zt6 ?_;have:=fin blk.reverse (dM _) (some (.d (.int (k:Int)))) (some (.d (.lst (blk.map stD))));rw[List.map_reverse] at this;show this
 rintro D m' ⟨rfl,U,J,O,rfl,ac,ad,ag⟩;left;show hC #[BB,U,_,_,_,_,BB,ac,λst Z=>?_,?_];obtain⟨b,hb,v,v0,v1,rfl⟩:=ad st Z;rw[bV] at hb;rw[zw ha];show (I b hb).snoc v0 v1;rw[ag,al,<- q,ek];rintro D m ⟨rfl,BF,v2,v3,J,O,rfl,hN,I,q⟩;rw[bV] at q I;left;show r BF hN I q
inductive F_mkBk (K:AH) (Pn:PN):AU->Nat->AV->Prop
 | i {n:Nat} {R:AV} {p:Addr} {rm:AG} (hP:zba K Pn p) (hR:RoomOk rm) (hp:yz rm<=256) (h:∀bk m,za8 rm bk->bk.length<=1000->m<=n+4000->R (.d (uF bk)) m) (hn:n+5000<=1000000:=by lia):F_mkBk K Pn [.pen p,.d (stD rm)] n R
def zbh (T:Txt K mg t):FnOk P w K mg base CX0 4 t.f21 t.d21 lc (spV 2 false (F_mkBk K)):=by
 have G1:=zF (P:=P) (w:=w) (base:=base) T;have G17:=zaT (P:=P) (w:=w) (base:=base) T;have G20:=zda (P:=P) (w:=w) (base:=base) T;have G19:=zec (P:=P) (w:=w) (base:=base) T
 show Fun.okW (k:=3) (fr:=false) [3] 4 T.q21.F zL BB (by ext) BB λa2 A ap s H E Pn O=>#[_,(zb (wS zn <| zB (i:=2) zL.nd (wE zm <| yB T.q20 G20 O (za (kv 1) ze)))
   (zb (wS zr <| ye (wT zk <| zv yY zbR (JE.bo (wE zm <| yB T.q1 G1 O (za (kv 0) (za zl ze)))) (JE.bo zl) (zp _)) (zg (wS zn <| zB (i:=2) zL.nd (wE zbW <| zgU (kb 2)))) zq)
   (zb (wS xo <| zjh (i:=3) (zd0 (ix:=3) zL.nd BB BB (N:=[A6,"_law_row"]) (BE:=[none,some 2]) BB (by fail"c") (wI yJ <| zV BB T.b_range (zh (JE.bo (yO zg8 zmO (JE.bo (zA zS yQ (by rfl) T.b_len aL (zh (kb 2) zj))) (JE.bo zl))) zj)) (λ_ _ _ _=>(wG yf <| zt (i:=0) (show ([A6,"_law_row"]:AM).Nodup by decide +kernel))) (λ_ _ _ _=>xm) (λ_ _ _ _=>(wE zm <| yB T.q19 G19 O (za (xb zH yM (kb 1) (kb 0) (λ_ _=>rfl)) (za (xb zH yM (kb 1) (JE.bo (yO z7 xu (kb 0) (JE.bo zl))) (λ_ _=>rfl)) ze))))))
   (zb (wS zn <| zB (i:=4) zL.nd (wE zm <| yB T.q1 G1 O (za (kv 0) (za (zA zS yQ (by rfl) T.b_len aL (zh (kb 3) zj)) ze))))
   (zb (wS zn <| zB (i:=5) zL.nd (wE zm <| yB T.q1 G1 O (za (kv 0) (za zl ze))))
   (zb (wS zr <| ye (wT zk <| zv yY zbR (kb 5) (JE.bo zl) (zp _)) (zg (wS xo <| zaI (i:=3) zL.nd (yO xa uC (JE.bo (wE yh <| ui (kb 3) zW (wO zD <| zK (kb 4)))) (JE.bo (wE yh <| ui (kb 3) (wO zD <| zK (JE.bo (yO z7 xu (kb 4) (JE.bo zl)))) zW))))) zq)
   (zb (wS zr <| ye (wT zk <| zv yY zbR (kb 5) (JE.bo zl) (zp _)) (zg (wS zjE <| znh 3 (kb 4) (wE zm <| yB T.q19 G19 O (za (xb zH yM (kb 2) (JE.bo (yO z7 xu (kb 4) (JE.bo zl))) (λ_ _=>rfl)) (za (xb zH yM (kb 2) (kb 4) (λ_ _=>rfl)) ze))))) zq)
   (zb (wS zr <| ye (wT zk <| zv yY zbR (kb 5) (JE.bo zl) (zp _)) (zg (wS zjB <| znf 3 (kv 4) (wE zm <| yB T.q17 G17 O (za (kv 0) (za (kv 1) (za zl ze)))))) zq)
   (zg (zu (yy zO xT (by rfl) T.b_tuple bf (zh (kb 3) zj)))))))))))),λws n R hF=>?_]
 obtain @⟨_,_,p,rm,hP,hR,hp,r,hn⟩:=hF;left;show F_snake.i hR hp λBF hN B I=>?_;left;show dr hP λc c0 c1=>?_;have h2:=zj6 hR.ne λn hn=>(hR.box n hn).1;left;refine' zrK (λBF:AF=>BF.Nodup/\(∀st∈BF,StOk rm st)/\(BF.length:Int)=yz rm) _ (λzx=>?_) ?_;rotate_left;show yG (λ_=>?_) (λ_=>?_);left;rw[<- List.map_reverse];have q:BF.reverse.Nodup/\(∀st∈BF.reverse,StOk rm st)/\(BF.reverse.length:Int)=yz rm:=#[(dM BF).nodup_iff.mpr hN,λst as=>B st (cm.mp as),by rw[dq];show I];generalize BF.reverse=s2 at q ⊢;show zx s2 q;left;show zx BF #[hN,B,I];rintro BF ⟨hN,B,I⟩;left;have a3:BF.length<=256:=by lia
 have a4:2<=BF.length:=by lia
 rw[ab];show#[#[by lia,by lia],?_];have e1:((BF.length:Int) - 1).toNat=BF.length - 1:=by lia
 rw[e1,xF];show zgG (List.range (BF.length - 1)) (λk:Nat=>W.d (.int (k:Int))) BB (by rw[aA];show aq (by lia:_<=256) (by ext)) (λi U n' acc=>n'=n+1/\i<=BF.length - 1/\∃ (v:Option W) (bk:AW),U=[v,some (.d (zaB BF))]/\acc=bk.map uv/\za8 rm bk/\bk.length=i) #[BB,aI _,none,[],BB,BB,by intro x Y;simp at Y,BB] ?_ ?_;rintro i k U n' acc hk ⟨rfl,hi,v,bk,rfl,rfl,Z,ac⟩ C hC;obtain⟨ad,ag⟩:=ah.mp hk;rw[aA] at ad;rw[cj] at ag;subst ag;left;show xO (uw (by lia)) ?_;left;rw[show ((i:Int)+1)=((i+1:Nat):Int) from rfl];show xO (uw (by lia)) ?_;left;show F_full.i hR (B _ (zM (by lia))) (B _ (zM (by lia))) (zdw hN (by lia)) λx Y _=>?_;show hC #[BB,ad,_,bk++[x],BB,by rw[a9];rfl,Z.app (λy hy=>by rw[ao.mp hy];show Y),by rw[aj,ac];rfl];rintro U n' acc ⟨rfl,hi,v,bk,rfl,rfl,Z,ac⟩;rw[aA] at ac;left;rw[ab];show dr hP λal a0 a1=>?_;left;show dr hP λJ w0 w1=>?_;have an:J=0\/J=1\/J=2\/J=3:=by lia
 obtain⟨j,rfl⟩:∃j:Nat,al=(j:Int):=#[al.toNat,by lia];left;rcases an with rfl | rfl | rfl | rfl;fail"ct";rw[xM,xM];have c1:=yH bk none (some (j:Int));have c2:=yH bk (some ((j:Int)+1)) none;show#[by rw[ab,ab];show aq (by lia:_<=1000) (by ext),?_];rw[<- a9];left;fail"cf";fail"cf";show r _ _ ((Z.cut _ _).app (Z.cut _ _)) (by rw[aj];lia) (by lia);fail"cf";fail"ct";rw[show ((j:Int)+1)=((j+1:Nat):Int) from rfl];show xO (uw (by lia)) ?_;left;show xO (uw (by lia)) ?_;left;show F_full.i hR (B _ (zM (by lia))) (B _ (zM (by lia))) (Ne.symm (zdw hN (by lia))) λx Y _=>?_;left;show#[#[by lia,by rw[ab];lia],?_];rw[aQ,<- List.map_set];left;fail"cf";show r _ _ (Z.set Y j) (by rw[bI];lia) (by lia);fail"cf";fail"cf";fail"ct";show F_mkWi.i hP hR λx m Y hm=>?_;left;show#[#[by lia,by rw[ab];lia,by rw[ab];show bg (by lia:_<=1000) (by ext)],?_];rw[aQ,zoC];left;show r _ _ (Z.ins Y j) (by rw[zoB];lia) (by lia);fail"cf";fail"cf";fail"cf";show r _ _ Z (by lia) (by lia)
def zfm{rm B:AG}(I:∀q∈B,0<=q/\q<rm.length)(J:B.length<=100)(h:Q (.d (lsD (B.map (zN rm)))) m):zdO (eN 0) ztP (znl zq8 (zkW 1) (zkW 0)) [none,some (.d (stD rm))] Q ((B.map Dt.int).map W.d) m:=by
 show zb8 B (λq=>W.d (.int q)) (by rw[aO];rfl) (λD=>∃v,D=[v,some (.d (stD rm))]) (λq=>.int (zN rm q)) (aq J (by ext)) #[_,BB] ?_ ?_;rintro q O U ⟨v,rfl⟩ C Y;have F:=I q O;left;show onA F.1 F.2 ?_;show Y #[_,BB];have:B.map (λq=>Dt.int (zN rm q))=(B.map (zN rm)).map Dt.int:=by rw[aO];rfl
 rw[this];show h
def zcw (T:Txt K mg t):FnOk P w K mg base CX0 3 t.f22 t.d22 lc (spV 2 false (F_mkBk K)):=by
 have G1:=zF (P:=P) (w:=w) (base:=base) T;have G12:=zaS (P:=P) (w:=w) (base:=base) T;have G13:=ze7 (P:=P) (w:=w) (base:=base) T;have G18:=zcx (P:=P) (w:=w) (base:=base) T
 show Fun.okW (k:=2) (fr:=false) [3] 8 T.q22.F zI BB (by ext) BB λcv A be s H E Pn hr=>#[_,(zb (wS zn <| zB (i:=2) zI.nd (wE zm <| yB T.q18 G18 hr (za (kv 0) (za (wE zct <| zeX T.b_list T.b_range (zh (JE.bo (zA zS yQ (by rfl) T.b_len aL (zh (kb 1) zj))) zj)) ze))))
   (zb (wS xo <| zaI (i:=3) zI.nd (xw ze))
   (zb (xc bj BB (wI yJ <| zV BB T.b_range (zh (JE.bo (zA zS yQ (by rfl) T.b_len aL (zh (kb 2) zj))) zj)) (wG yf <| zt (i:=4) zI.nd) (zb (wS zn <| zB (i:=5) zI.nd (xb zH yM (kb 2) (kb 4) (λ_ _=>rfl)))
   (zb (wS zn <| zB (i:=6) zI.nd (zA zld zqE (by rfl) T.b_sorted dZ (zh (JE.bo (wE yh <| ui (JE.bo (wE zm <| yB T.q18 G18 hr (za (kv 0) (za (wE yh <| ui (kb 2) zW (wO zD <| zK (kb 4))) ze)))) zW (wO zD <| zK (JE.bo (wE zm <| yB T.q1 G1 hr (za (kv 0) (za zl ze))))))) zj)))
   (zb (wS zr <| ye (wT zk <| zv zjU zvM (JE.bo (wE zm <| yB T.q12 G12 hr (za (ux (N:=lB) (BE:=[none,some 1]) BB (by fail"c") (wI zay <| zav K BB (kv 6)) (λ_ _ _ _=>(wG yf <| zt (i:=0) (show (lB:AM).Nodup by decide +kernel))) (λ_ _ _ _=>xm) (λ_ _ _ _=>(xb yD ud (kb 1) (kb 0) (λ_ _=>rfl)))) ze))) (JE.bo zl) (zp _)) (zg (wS zn <| zB (i:=6) zI.nd (wE yh <| ui (kb 6) zW (wO zD <| zK (JE.bo zl))))) zq)
   (zg (xc bj BB (wI zay <| zav K BB (wE zm <| yB T.q13 G13 hr (za (ux (N:=lB) (BE:=[none,some 1]) BB (by fail"c") (wI zay <| zav K BB (kv 6)) (λ_ _ _ _=>(wG yf <| zt (i:=0) (show (lB:AM).Nodup by decide +kernel))) (λ_ _ _ _=>xm) (λ_ _ _ _=>(xb yD ud (kb 1) (kb 0) (λ_ _=>rfl)))) ze))) (wG yf <| zt (i:=7) zI.nd) (zb (wS zn <| zB (i:=8) zI.nd (wE zm <| yB T.q18 G18 hr (za (kv 0) (za (wE zct <| zeX T.b_list T.b_range (zh (JE.bo (xb yD ud (kb 1) (kb 5) (λ_ _=>rfl))) zj)) ze))))
   (zb (wS zn <| zB (i:=9) zI.nd (yy zO xT (by rfl) T.b_tuple bf (zh (JE.bo (ux (N:=lR) (BE:=[none,none]) BB (by fail"c") (wI zlR <| zoM BB T.b_zip (za (kv 6) (za (kv 7) ze))) (λ_ _ _ _=>(wG zdo <| zdq (n:=2) K BB BB (wH xz <| yn (wG yf <| zt (i:=0) (show (lR:AM).Nodup by decide +kernel)) (wH xz <| yn (wG yf <| zt (i:=1) (show (lR:AM).Nodup by decide +kernel)) (wH zdn zbf))))) (λ_ _ _ _=>xm) (λ_ _ _ _=>(yP (za (kv 0) (za (kv 1) ze)))))) zj)))
   (zg (wS zjA <| zne 3 (ux (N:=lD) (BE:=[none,some 9,some 5,some 8]) BB (by fail"c") (wI yJ <| zV BB T.b_range (zh (JE.bo (yO zg8 zmO (JE.bo (xb yD ud (kb 1) (kb 5) (λ_ _=>rfl))) (JE.bo zl))) zj)) (λ_ _ _ _=>(wG yf <| zt (i:=0) (show (lD:AM).Nodup by decide +kernel))) (λ_ _ _ _=>xm) (λ_ _ _ _=>(yP (za (kv 1) (za (kv 2) (za (xb zH yM (kb 3) (JE.bo (yO z7 xu (kb 0) (JE.bo zl))) (λ_ _=>rfl)) (za (xb zH yM (kb 3) (kb 0) (λ_ _=>rfl)) ze)))))))))))))))))
   (zg (zu (yy zO xT (by rfl) T.b_tuple bf (zh (kb 3) zj))))))),λws n R hF=>?_]
 obtain @⟨_,_,p,rm,hP,hR,hp,r,hn⟩:=hF;left;have h8:=hR.few;rw[ab];show#[#[by lia,by lia],?_];rw[aQ,zfl];show F_turned.i hP (by rw[ab,yU];lia) (λl bl=>?_) (by rw[ab,yU];lia);obtain⟨bs,rfl,an⟩:=zcF bl;have bx:=an.length_eq;rw[ab,yU];rw[yU] at bx;left;rw[ab];show#[#[by lia,by lia],?_];rw[aQ];show zcb (λk D m=>m<=n+8+50 * k/\∃ (bk:AW) (v4 v5 v6 v7 v8 v9:Option W),D=[some (.pen p),some (.d (stD rm)),some (.d (.lst (bs.map Dt.int))),some (.d (.lst (bk.map uv))),v4,v5,v6,v7,v8,v9]/\za8 rm bk/\bk.length<=27 * k) #[by lia,[],_,_,_,_,_,_,BB,by intro x hx;simp at hx,aI _] ?_ ?_
 ·rintro k D m hk ⟨hm,bk,v4,v5,v6,v7,v8,v9,rfl,hB,a0⟩ C B E hC _ _;left;show onA (by lia) (by lia) ?_;left;rw[zE,xM,L3.u8];show F_turned.i hP (by rw[ab,bp];lia) (λl2 b0=>?_) (by rw[ab,bp];lia);obtain⟨ps,rfl,a1⟩:=zcF b0;have b1:=a1.length_eq;rw[bp] at b1;rw[ab,bp];left;show dr hP λt t0 t1=>?_;left;rw[xM];have a2:=yH ps none (some t);show#[_,BB,by lia,λqs a3 b2=>?_];have J:=zr3 an (by lia) a1 a3 b2;have cx:=a3.length_eq;have b3:bs.getD k 0∈bs:=by rw[au,ak hk];show bz _
  obtain⟨ac,ad⟩:=zcf (an.mem_iff.mp b3);have a4:=xt hR.box ac ad;generalize bs.getD k 0=U at J ac ad a4;generalize c0:m+min k bs.length+1=m1;have cu:m1<=m+9:=by lia
  have ag:∀O,ParOk rm U O->∀x∈O.map (zN rm),2<=x/\x<=4:=λO h1 x hx=>by obtain⟨q,hq,rfl⟩:=aF.mp hx;have:=h1.ok q hq;show xt hR.box this.1 this.2.1
  left;show zfm (λq hq=>#[(J.ok q hq).1,(J.ok q hq).2.1]) (by lia) ?_;left;show F_size.i (.inr BB) (ag _ J) ?_;left;refine' zrK (λO:AG=>ParOk rm U O/\O.length<=8/\yz (O.map (zN rm))<=9) _ (λzx=>?_) ?_;rotate_left;show yG (λh9=>?_) (λh9=>?_);left;rw[xM];have I:=J.cut none (some 1);have al:(y6 qs none (some 1)).length<=1:=by rw[show (1:Int)=((1:Nat):Int) from rfl,L3.u8,bp];lia
  generalize y6 qs none (some 1)=O at I al;show zx O #[I,by lia,?_]
  match O,al,I with
  | [],_,_=>change (1:Int)<=9;decide
  | [q],_,hq=>
   have:=hq.ok q (by simp);have:=xt hR.box this.1 this.2.1;change 1 * zN rm q<=9;lia
  left;show zx qs #[J,by lia,by lia];rintro O ⟨I,c1,c2⟩;have a5:=ag O I;left;show zfm (λq hq=>#[(I.ok q hq).1,(I.ok q hq).2.1]) (by lia) ?_;left;show F_allQ.i (.inr BB) a5 (by rw[ab];lia) ?_;left;have a2:=ue (O.map (zN rm)) λx hx=>by have:=a5 x hx;lia
  have a7:=znX (O.map (zN rm));generalize zaD ((O.map (zN rm)).map z8)=cs at a2 a7;show xf cs (λst=>W.d (stD st)) (by rw[aO];rfl) (λi D m'=>m'<=m1+4 * i/\i<=cs.length/\∃ (Y:AW) (v7 v8 v9:Option W),D=[some (.pen p),some (.d (stD rm)),some (.d (.lst (bs.map Dt.int))),some (.d (.lst (Y.map uv))),some (.d (.int (k:Int))),some (.d (.int U)),some (.d (.lst (O.map Dt.int))),v7,v8,v9]/\za8 rm Y/\Y.length<=27 * k+3 * i) #[by lia,aI _,bk,_,_,_,BB,hB,by lia] ?_ ?_;rintro i st D m' ba ⟨b4,b5,Y,v7,v8,v9,rfl,ap,bb⟩ C B E hC _ _;have hi:=(ah.mp ba).1;have bc:=a7 st (aM ba);have ca:=bc.len;rw[ab] at ca;obtain⟨hG,cc⟩:=zow I bc;obtain⟨w,hw⟩:∃w:Nat,zN rm U=(w:Int):=#[(zN rm U).toNat,by lia];have c3:2<=w/\w<=4:=by lia
  left;show onA ac ad ?_;left;rw[hw];show#[#[by lia,by lia],?_];rw[aQ,zfl];show F_turned.i hP (by rw[ab,yU];lia) (λl3 cd=>?_) (by rw[ab,yU];lia);obtain⟨Z,rfl,as⟩:=zcF cd;have ch:=as.length_eq;rw[yU] at ch;rw[show (List.map Dt.int (zdV w)).length=w by rw[ab,yU]];left;show#[by rw[ab,ab];lia,?_];rw[zhq];show zb8 (O.zip st) (λq=>W.d (xQ q)) BB (λD=>∃a b,D=[a,b]) xQ (by rw[List.length_zip];show aq (by lia:_<=8) (by ext)) #[_,_,BB] ?_ ?_;rintro q hq cl ⟨a,b,rfl⟩ C hC;show hC #[_,_,BB];left;show onA ac ad ?_;left;rw[hw];show#[#[by lia,by lia],?_];have e3:((w:Int) - 1).toNat=w - 1:=by lia
  rw[e3,xF];have cn:Z.Nodup:=as.nodup_iff.mpr (zcg _)
  have bd:∀j:Nat,j<w->0<=Z.getD j 0/\Z.getD j 0<zN rm U:=λj hj=>by
   have h1:Z.getD j 0∈Z:=by rw[au,ak (by lia)];show bz _
   have:=zcf (as.mem_iff.mp h1);lia
  show zb8 (List.range (w - 1)) (λj:Nat=>W.d (.int (j:Int))) BB (λD=>∃v,D=[v,some (.d (.tup ((O.zip st).map xQ))),some (.d (.int U)),some (.d (.lst (Z.map Dt.int)))]) (λj=>uv #[O.zip st,U,Z.getD (j+1) 0,Z.getD j 0]) (by rw[aA];show aq (by lia:_<=4) (by ext)) #[_,BB] ?_ ?_;rintro j hj cl ⟨v,rfl⟩ C hC;have co:=aK.mp hj;left;rw[show ((j:Int)+1)=((j+1:Nat):Int) from rfl];show onA (by lia) (by lia) ?_;left;show onA (by lia) (by lia) ?_;rw[zE,zE];show hC #[_,BB];left;show#[by rw[ab,ab,aA];show aq (by lia:_<=1000) (by ext),hC #[by lia,hi,Y++(List.range (w - 1)).map (λj=>#[O.zip st,U,Z.getD (j+1) 0,Z.getD j 0]),_,_,_,by rw[a9,aO];rfl,ap.app λx hx=>?_,by rw[aj,ab,aA];lia]];obtain⟨j,hj,rfl⟩:=aF.mp hx;have co:=aK.mp hj;have h1:=bd j (by lia);have h2:=bd (j+1) (by lia);have cp:Z.getD (j+1) 0≠Z.getD j 0:=by have:=bv.mp cn j (j+1) (by lia) (by lia) (by lia);intro z;apply this;simpa [show j<Z.length by lia,show j+1<Z.length by lia] using z.symm
  show#[hG,ac,ad,cc,h2.1,h2.2,h1.1,h1.2,cp];rintro D m' ⟨b4,b5,Y,v7,v8,v9,rfl,ap,bb⟩;show hC #[by lia,Y,_,_,_,_,_,_,BB,ap,by lia]
 rintro D m ⟨hm,bk,v4,v5,v6,v7,v8,v9,rfl,hB,a0⟩;left;show r bk m hB (by lia) (by lia)
inductive F_book (K:AH) (Pn:PN):AU->Nat->AV->Prop
 | i {n:Nat} {R:AV} {p:Addr} {rm:AG} (hP:zba K Pn p) (hR:RoomOk rm) (hp:yz rm<=256) (h:∀bk m,za8 rm bk->bk.length<=1100->m<=n+5000->R (.d (uF bk)) m) (hn:n+7000<=1000000:=by lia):F_book K Pn [.pen p,.d (stD rm)] n R
def zeb (T:Txt K mg t):FnOk P w K mg base CX0 5 t.f23 t.d23 lc (spV 2 false (F_book K)):=by
 have G1:=zF (P:=P) (w:=w) (base:=base) T;have G17:=zaT (P:=P) (w:=w) (base:=base) T;have G21:=zbh (P:=P) (w:=w) (base:=base) T;have G22:=zcw (P:=P) (w:=w) (base:=base) T
 show Fun.okW (k:=4) (fr:=false) [3] 2 T.q23.F xH BB (by ext) BB λag A ac s H E Pn B=>#[_,(zb (wS zn <| zB (i:=2) xH.nd (wE zm <| yB T.q1 G1 B (za (kv 0) (za zl ze))))
   (zb (wS zr <| ye (wT zk <| zv yY zbR (kb 2) (JE.bo zl) (zp _)) (zg (zu (yP ze))) zq)
   (zb (wS zr <| ye (wT zk <| zv yY zbR (kb 2) (JE.bo zl) (zp _)) (zg (zu (wE zm <| yB T.q21 G21 B (za (kv 0) (za (kv 1) ze))))) zq)
   (zb (wS zr <| ye (wT zk <| zv zjU zvM (kb 2) (JE.bo zl) (zp _)) (zb (wS xo <| zaI (i:=3) xH.nd (yy zb9 znQ (by rfl) T.b_list cR (zh (JE.bo (wE zm <| yB T.q22 G22 B (za (kv 0) (za (kv 1) ze)))) zj)))
   (zb (wS zr <| ye (JW.t (wW zax <| zck (wT zk <| zv yY zbR (kb 2) (JE.bo zl) (zp _)) (xA (.inl BB) (wT zk <| zv zjU zvM (JE.bo (zA zS yQ (by rfl) T.b_len aL (zh (kb 3) zj))) (JE.bo zl) (zp _))))) (zg (wS zjE <| znh 3 (JE.bo (wE zm <| yB T.q1 G1 B (za (kv 0) (za (zA zS yQ (by rfl) T.b_len aL (zh (kb 3) zj)) ze)))) (wE zm <| yB T.q17 G17 B (za (kv 0) (za (kv 1) (za zl ze)))))) zq)
   (zg (zu (yy zO xT (by rfl) T.b_tuple bf (zh (kb 3) zj)))))) zq)
   (zb (wS xo <| zjh (i:=3) (zd0 (ix:=3) xH.nd BB BB (N:=lC) (BE:=[none,some 0,some 1,some 2]) BB (by fail"c") (wI yJ <| zV BB T.b_range (zh (JE.bo (yO z7 xu (JE.bo zl) (JE.bo (wE zm <| yB T.q1 G1 B (za (kv 0) (za zl ze)))))) zj)) (λ_ _ _ _=>(wG yf <| zt (i:=0) (show (lC:AM).Nodup by decide +kernel))) (λ_ _ _ _=>xm) (λ_ _ _ _=>(wE zm <| yB T.q17 G17 B (za (kv 1) (za (kv 2) (za (kv 3) ze)))))))
   (zg (zu (yy zO xT (by rfl) T.b_tuple bf (zh (JE.bo (yO xa uC (kb 3) (JE.bo (wE yh <| ui (kb 3) zW (wO zD <| zK (JE.bo (wE zm <| yB T.q1 G1 B (za (kv 0) (za zl ze))))))))) zj))))))))),λws n R hF=>?_]
 obtain @⟨_,_,p,rm,I,hR,hp,r,hn⟩:=hF;left;show dr I λad w0 w1=>?_;left;show yG (λh6=>?_) (λh6=>?_);left;show r [] _ (by intro x J;simp at J) (by ext) (by lia);left;show yG (λh5=>?_) (λh5=>?_);left;show F_mkBk.i I hR hp λbk m q hl hm=>r bk m q (by lia) (by lia);left;show yG (λh2=>?_) (λh2=>?_);left;show F_mkBk.i I hR hp λbk m q hl hm=>?_;left;show yG (λh4=>?_) (λh4=>?_);left;rw[ab];show yG (λhz=>?_) (λhz=>?_);left;show F_mkWi.i I hR λx m2 J al=>?_;left;rw[ab];show dr I λa a0 a1=>?_;left;show#[#[a0,a1],?_];rw[<- List.map_set];left;show r _ _ (q.set J _) (by rw[bI];lia) (by lia);left;show r bk m q (by lia) (by lia);left;show r bk m q (by lia) (by lia);left;show dr I λt t0 t1=>?_;left;show#[#[by lia,by lia],?_];rw[xF];show zgG (List.range (1+t).toNat) (λk:Nat=>W.d (.int (k:Int))) BB (by rw[aA];show aq (by lia:_<=14) (by ext)) (λi O n' acc=>n'<=n+2+30 * i/\i<=(1+t).toNat/\∃ (v:Option W) (bk:AW),O=[v,some (.pen p),some (.d (stD rm)),some (.d (.int ad))]/\acc=bk.map uv/\za8 rm bk/\bk.length=i) #[by lia,aI _,none,[],BB,BB,by intro x J;simp at J,BB] ?_ ?_;rintro i k O n' acc hk ⟨Y,hi,v,bk,rfl,rfl,q,U⟩ C hC;have Z:=(ah.mp hk).1;rw[aA] at Z;left;show F_mkWi.i I hR λx m J hm=>?_;show hC #[by lia,Z,_,bk++[x],BB,by rw[a9];rfl,q.app (λy hy=>by rw[ao.mp hy];show J),by rw[aj,U];rfl];rintro O n' acc ⟨Y,hi,v,bk,rfl,rfl,q,U⟩;rw[aA] at U Y;left;show dr I λb b0 b1=>?_;left;rw[xM];have hc:=yH bk none (some b);show#[by rw[ab,ab];show aq (by lia:_<=100) (by ext),?_];rw[<- a9];left;show r _ _ (q.app (q.cut _ _)) (by rw[aj];lia) (by lia)
def zmP{st:AG}{g:List (Int×Int)}(I:∀q∈g,0<=q.1/\q.1<st.length)(J:g.length<=100)(h:∀L:AG,((Dt.lst (L.map Dt.int) = .lst [])↔x6 st g=true)->Q (.d (.lst (L.map Dt.int))) n):zdO (eTp 2 (eCn (eN 0) (eCn (eN 1) eNl))) (zup (znl dNe (znl zq8 (zkW 2) (zkW 0)) (zkW 1))) (zkW 0) [none,none,some (.d (stD st))] Q ((g.map xQ).map W.d) n:=by
 show zfN g (λq=>.d (xQ q)) (by rw[aO];rfl) (λD=>∃a b,D=[a,b,some (.d (stD st))]) (λq=>!decide (zN st q.1=q.2)) (λq=>.int q.1) (aq J (by ext)) #[_,_,BB] ?_ ?_;rintro q B O ⟨a,b,rfl⟩ C U Y;have F:=I q B;left;show onA F.1 F.2 ?_;left;show zeh (λh=>?_) (λh=>?_);show U (by rw[a6 h];rfl) #[_,_,BB];show Y (by rw[aY h];rfl) #[_,_,BB];have Z:(g.filter λq=>!decide (zN st q.1=q.2)).map (λq=>Dt.int q.1)=((g.filter λq=>!decide (zN st q.1=q.2)).map (·.1)).map Dt.int:=by rw[aO];rfl
 rw[Z];show h _ ?_;rw[x6,bT];constructor;intro z q B;apply bR;intro hn;have:q∈g.filter (λq=>!decide (zN st q.1=q.2)):=cB.mpr #[B,by simpa using hn];have z':=List.map_eq_nil_iff.mp (List.map_eq_nil_iff.mp (Dt.lst.inj z));rw[z'] at this;simp at this;intro z;have:g.filter (λq=>!decide (zN st q.1=q.2))=[]:=List.filter_eq_nil_iff.mpr λq B=>by simpa using z q B
 rw[this];rfl
def zpL{BD:List (AG×Dt)}{k:AG}{x:AG}:x∈(zia BD k d).map (·.1)↔x=k\/x∈BD.map (·.1):=by
 unfold zia;by_cases h:(BD.any λkv=>decide (kv.1=k))=true
 ·rw[if_pos h];have e:(BD.map λkv=>if kv.1=k then (kv.1,d) else kv).map (·.1)=BD.map (·.1):=by rw[aO];show cP λkv _=>by by_cases z:kv.1=k <;> simp[z]
  rw[e];show#[.inr,λz=>z.elim (λz=>?_) id];obtain⟨q,B,F⟩:=List.any_eq_true.mp h;rw[z,<- bK F];show aF.mpr #[q,B,BB]
 rw[if_neg h,a9,ax];show#[λz=>z.elim .inr λz=>.inl (by simpa using z),λz=>z.elim (λz=>.inr (by simp[z])) .inl]
inductive F_steps  (Pn:PN):AU->Nat->AV->Prop
 | i {n:Nat} {R:AV} {rm:AG} {bk:AW} {st hs:AG} (hR:RoomOk rm) (hB:za8 rm bk) (hbl:bk.length<=10000) (hst:st.length=rm.length) (h:R (.d (zaB (zbr bk st hs))) n)  : F_steps Pn [.d (uF bk),.d (stD st),.d (stD hs)] n R
def zap (T:Txt K mg t):FnOk P w K mg base CX0 1 t.f24 t.d24 lm (spV 3 true F_steps):=by
 show Fun.okW (k:=0) (fr:=true) [3] 5 T.q24.F yA BB (by ext) BB λas A ag s H E Pn hr=>#[_,(zb (wS xo <| zaI (i:=3) yA.nd zoI)
   (zb (xc bj BB (wI zcs <| zeY K BB (kv 0)) (wG zdo <| zdq (n:=4) K BB BB (wH xz <| yn (wG yf <| zt (i:=4) yA.nd) (wH xz <| yn (wG yf <| zt (i:=5) yA.nd) (wH xz <| yn (wG yf <| zt (i:=6) yA.nd) (wH xz <| yn (wG yf <| zt (i:=7) yA.nd) (wH zdn zbf)))))) (zg (wS zr <| ye (JW.t (wW zax <| zck (wT zk <| zv zbx zmN (kb 5) (kb 2) (by with_unfolding_all rfl)) (xA (.inl BB) (wT zk <| zv yY zbR (JE.bo (xb yD ud (kb 1) (kb 5) (λ_ _=>rfl))) (kb 7) (zp _))))) (zg (wS zr <| ye (wT zk <| zv (zjT hr.units) zqA (JE.bo (ux (N:=lw) (BE:=[none,none,some 1]) BB (by fail"c") (wI zcs <| zeY K BB (kv 4)) (λ_ _ _ _=>(wG zdo <| zdq (n:=2) K BB BB (wH xz <| yn (wG yf <| zt (i:=0) (show (lw:AM).Nodup by decide +kernel)) (wH xz <| yn (wG yf <| zt (i:=1) (show (lw:AM).Nodup by decide +kernel)) (wH zdn zbf))))) (λ_ _ _ _=>(zd1 (wT zk <| zv zdb zmM (JE.bo (xb yD ud (kb 2) (kb 0) (λ_ _=>rfl))) (kb 1) (zp _)))) (λ_ _ _ _=>(kv 0)))) (JE.bo (xw ze)) (zp _)) (zg (wS zjz <| zlH 3 (zlv hr) (JE.bo (yO xP zbJ (JE.bo (yO xP zbJ (JE.bo (wE zcu <| zjg (kb 1) zW (wO zD <| zK (kb 5)))) (JE.bo (yP (za (kv 6) ze))))) (JE.bo (wE zcu <| zjg (kb 1) (wO zD <| zK (JE.bo (yO z7 xu (kb 5) (JE.bo zl)))) zW)))) zdZ)) zq)) zq)))
   (zg (zu (zA zn9 zqF (by rfl) T.b_sorted dZ (zh (JE.bo (yy (zlb BB) zqB (by rfl) T.b_list cR (zh (kb 3) zj))) zj)))))),λws n R hF=>?_]
 obtain @⟨_,_,rm,bk,st,hs,hR,hB,a0,ac,r⟩:=hF;left;have h8:=hR.few;show xf bk (λx=>W.d (uv x)) (by rw[aO];rfl) (λi D m=>m=n/\∃ (BD:List (AG×Dt)) (Y Z v6 v7:Option W),D=[some (.d (uF bk)),some (.d (stD st)),some (.d (stD hs)),some (.dt BD),Y,Z,v6,v7]/\(∀z,z∈BD.map (·.1)↔z∈xY (bk.take i) st hs)/\BD.length<=i) #[BB,[],_,_,_,_,BB,by simp[xY],aI _] ?_ ?_;rintro i x D m hx ⟨rfl,BD,Y,Z,v6,v7,rfl,I,al⟩ C B E hC _ _;have hW:=hB x (aM hx);have hi:=(ah.mp hx).1;have ad:=hW.b0;have a1:=hW.b1
 have U:(zbd st x&&!hs.contains x.b)=false->∀Y Z v6 v7,C [some (.d (uF bk)),some (.d (stD st)),some (.d (stD hs)),some (.dt BD),Y,Z,v6,v7] m:=λhg Y Z v6 v7=>by
  have e:xY (bk.take (i+1)) st hs=xY (bk.take i) st hs:=by rw[zw hx,zdp,hg];simp
  show hC #[BB,BD,_,_,_,_,BB,by rw[e];show I,by lia]
 have an:∀q∈x.g,0<=q.1/\q.1<st.length:=λq hq=>by have:=hW.giv.ok q hq;rw[ac];show#[this.1,this.2.1]
 left;show#[hs,BB,?_];left;show zfc (λhh=>?_) (λhh=>#[U (by rw[hh];simp) _ _ _ _]);left;show onA ad (by lia) ?_;left;show yG (λhw=>?_) (λhw=>#[U ?_ _ _ _ _]);left;show zmP an (zov hW.giv h8) λL hL=>?_;left;show#[zdl,zdl (ns:=[]),λb hb=>?_];left;show zjR (λJ=>?_) (λJ=>#[U ?_ _ _ _ _]);have J:=hL.mp (hb.mp J);left;have hg:(zbd st x&&!hs.contains x.b)=true:=by unfold zbd;rw[aY hw,J,hh];rfl
 have e:xY (bk.take (i+1)) st hs=xY (bk.take i) st hs++[chg st x.b x.r]:=by rw[zw hx,zdp,if_pos hg]
 show#[zk7 (by lia),?_];left;show#[zk8 (by lia),?_];rw[zn7 ad (by lia)];show#[_,BB,bg (by lia:_<=10000) (by ext),hC #[BB,_,_,_,_,_,BB,λz=>?_,?_]];rw[e,zpL,I,ax,ao];show Or.comm;have:=zpK BD (chg st x.b x.r) (.bl true);lia
 have J:x6 st x.g=false:=by
  cases hz:x6 st x.g with
  | false=>rfl
  | true=>rw[hb.mpr (hL.mpr hz)] at J;cases J
 unfold zbd;rw[J];simp;unfold zbd;rw[a6 hw];simp;rintro D m ⟨rfl,BD,Y,Z,v6,v7,rfl,I,al⟩;rw[bV] at I;left;intro nd;left;have O:∀y∈xY bk st hs,y.length=rm.length:=λz hz=>zce hB ac z hz;show#[BD.map (·.1),rm.length,BB,hR.pos,λz hz=>O z ((I z).mp hz),nd,λap hp hu=>?_];rw[zhk O hu λz=>(hp.mem_iff).trans (I z)];show r
inductive F_held (K:AH) (Pn:PN):AU->Nat->AV->Prop
 | i {n:Nat} {R:AV} {p:Addr} {rm:AG} (hP:zba K Pn p) (hR:RoomOk rm) (h:∀v hs m,(v = .d (stD hs)\/(hs=[]/\v = .d .non))->m<=n+9->R v m) (hn:n+30<=1000000:=by lia):F_held K Pn [.pen p,.d (stD rm)] n R
def zed (T:Txt K mg t):FnOk P w K mg base CX0 2 t.f25 t.d25 lc (spV 2 false (F_held K)):=by
 have G1:=zF (P:=P) (w:=w) (base:=base) T
 show Fun.okW (k:=1) (fr:=false) [] 1 T.q25.F zbI BB (by ext) BB λac A U s H E Pn hr=>#[_,(zb (wS zn <| zB (i:=2) zbI.nd (wE zm <| yB T.q1 G1 hr (za (kv 0) (za zl ze))))
   (zb (wS zr <| ye (wT zk <| zv yY zbR (kb 2) (JE.bo zl) (zp _)) (zg (zu zlG)) zq)
   (zg (zu (yy zO xT (by rfl) T.b_tuple bf (zh (JE.bo (ux (N:=lK) (BE:=[none,some 2,some 0]) BB (by fail"c") (wI yJ <| zV BB T.b_range (zh (JE.bo (zA zS yQ (by rfl) T.b_len aL (zh (kb 1) zj))) zj)) (λ_ _ _ _=>(wG yf <| zt (i:=0) (show (lK:AM).Nodup by decide +kernel))) (λ_ _ _ _=>(zd1 (JW.t (wW zax <| zck (wT zk <| zv yY zbR (kb 1) (JE.bo zl) (zp _)) (xA (.inl BB) (wT zk <| zv yY zbR (JE.bo (wE zm <| yB T.q1 G1 hr (za (kv 2) (za zl ze)))) (JE.bo zl) (zp _))))))) (λ_ _ _ _=>(kv 0)))) zj)))))),λws n R hF=>?_]
 obtain @⟨_,_,p,rm,hP,hR,r,hn⟩:=hF;left;show dr hP λY w0 w1=>?_;have h8:=hR.few;left;show yG (λ_=>?_) (λ_=>?_);left;show r _ [] _ (.inr #[BB,BB]) (by lia);left;rw[ab];show#[#[by lia,by lia],?_];rw[aQ,xF];show zgG (List.range rm.length) (λk:Nat=>W.d (.int (k:Int))) BB (by rw[aA];show aq h8 (by ext)) (λi B O acc=>O<=n+1+i/\i<=rm.length/\∃ (v:Option W) (hs:AG),B=[v,some (.d (.int Y)),some (.pen p)]/\acc=hs.map Dt.int) #[by lia,aI _,_,[],BB,BB] ?_ ?_;rintro i k B O acc hk ⟨I,hi,v,hs,rfl,rfl⟩ C Z;obtain⟨q,J⟩:=ah.mp hk;rw[aA] at q;rw[cj] at J;subst J;left;show yG (λhc=>?_) (λhc=>?_);left;show dr hP λt t0 t1=>?_;left;show yG (λhc=>?_) (λhc=>?_);show Z #[by lia,q,_,hs++[(i:Int)],BB,by rw[a9];rfl];show Z #[by lia,q,_,hs,BB,BB];show Z #[by lia,q,_,hs,BB,BB];rintro B O acc ⟨I,hi,v,hs,rfl,rfl⟩;rw[aA] at I;show r _ hs O (.inl BB) (by lia)
inductive F_hbx  (Pn:PN):AU->Nat->AV->Prop
 | i {n:Nat} {R:AV} {hs:AG} {v:W} (hv:v = .d (stD hs)\/(hs=[]/\v = .d .non)) (h:R (.d (stD hs)) n)  : F_hbx Pn [v] n R
def zc7 (T:Txt K mg t):FnOk P w K mg base CX0 1 t.f26 t.d26 lO (spV 1 false F_hbx):=by
 show Fun.okW (k:=0) (fr:=false) [] 0 T.q26.F zes BB (by ext) BB λB A q s H E Pn O=>#[_,(zb (wS zr <| ye (wT zk <| zni (kb 0)) (zg (zu (yP ze))) zq)
   (zg (zu (kv 0)))),λU n R I=>?_]
 obtain @⟨_,_,hs,v,J,r⟩:=I;left;rcases J with rfl | ⟨rfl,rfl⟩;left;show r;left;show r
def zvE{l:AF}(h:x∈l.map stD):∃s∈l,x=stD s:=by obtain⟨s,h1,h2⟩:=aF.mp h;show#[s,h1,h2.symm]
inductive F_wlk (K:AH) (Pn:PN):AU->Nat->AV->Prop
 | i {n:Nat} {R:AV} {p:Addr} {rm:AG} {bk:AW} {one hs:AG} (hP:zba K Pn p) (hR:RoomOk rm) (hB:za8 rm bk) (hbl:bk.length<=10000) (h1:StOk rm one) (h:∀BF m,1<=BF.length->BF.length<=10->(∀s∈BF,StOk rm s)->m<=n+12->R (.d (zaB BF)) m) (hn:n+30<=1000000:=by lia):F_wlk K Pn [.pen p,.d (uF bk),.d (stD one),.d (stD hs)] n R
def zef (T:Txt K mg t):FnOk P w K mg base CX0 2 t.f27 t.d27 li (spV 4 true (F_wlk K)):=by
 have G1:=zF (P:=P) (w:=w) (base:=base) T;have G24:=zap (P:=P) (w:=w) (base:=base) T
 show Fun.okW (k:=1) (fr:=true) [4] 3 T.q27.F xJ BB (by ext) BB λan A Z s H E Pn Y=>#[_,(zb (wS xo <| zaI (i:=4) xJ.nd (xw (za (kv 2) ze)))
   (zb (xc bj BB (wI yJ <| zV BB T.b_range (zh (JE.bo (yO z7 xu (JE.bo zl) (JE.bo (wE zm <| yB T.q1 G1 Y (za (kv 0) (za zl ze)))))) zj)) (wG yf <| zt (i:=5) xJ.nd) (zb (wS zn <| zB (i:=6) xJ.nd (wE zm <| yB T.q24 G24 Y (za (kv 1) (za (xb zH yM (kb 4) (JE.bo (zrz zfy zkL (JE.bo zl))) (λ_ _=>rfl)) (za (kv 3) ze)))))
   (zg (wS zr <| ye (wT zk <| zv (zjV Y.units) zqD (kb 6) (JE.bo (xw ze)) (zp _)) (zg (wS zjw <| znd 4 (xb zH yM (kb 6) (JE.bo (wE zm <| yB T.q1 G1 Y (za (kv 0) (za (zA zS yQ (by rfl) T.b_len aL (zh (kb 6) zj)) ze)))) (λ_ _=>rfl)))) zq))))
   (zg (wS zd6 <| zf7 4)))),λws n R hF=>?_]
 obtain @⟨_,_,p,rm,bk,one,hs,hP,hR,hB,ac,h1,r,hn⟩:=hF;left;show dr hP λt t0 t1=>?_;left;show#[#[by lia,by lia],zcb (λi D m=>m<=n+1+i/\i<=9/\∃ (BF:AF) (v5 v6:Option W),D=[some (.pen p),some (.d (uF bk)),some (.d (stD one)),some (.d (stD hs)),some (.d (zaB BF)),v5,v6]/\1<=BF.length/\BF.length<=1+i/\∀s∈BF,StOk rm s) #[by lia,by lia,[one],_,_,BB,by simp,by simp,by simpa using h1] ?_ ?_];rintro i D m hi ⟨hm,O,BF,v5,v6,rfl,U,ad,J⟩ C B E hC _ _;have O:i+1<=9:=by lia
 left;show xO (zk2 (by lia)) ?_;have I:StOk rm (BF.getD (BF.length - 1) []):=J _ (zM (by lia));left;show F_steps.i hR hB ac I.len ?_;left;show#[zd3 _,zd3 [],λb hb=>?_];left;show zfc (λz=>?_) (λz=>?_);left;rw[ab];have ag:0<(zbr bk (BF.getD (BF.length - 1) []) hs).length:=by show Nat.pos_of_ne_zero λe=>?_;rw[hb.mpr (by rw[aU e];rfl)] at z;cases z
 have al:=zn2 (hs:=hs) hB hR.few hR.box I.len;show dr hP λa a0 a1=>?_;left;show onX a0 a1 ?_;left;rw[ab];show#[bg (by lia:_<=10) (by ext),hC #[by lia,O,BF++[(zbr bk (BF.getD (BF.length - 1) []) hs).getD a.toNat []],_,_,by rw[show zaB (BF++[(zbr bk (BF.getD (BF.length - 1) []) hs).getD a.toNat []]) = .lst (BF.map stD++[stD ((zbr bk (BF.getD (BF.length - 1) []) hs).getD a.toNat [])]) by rw[zaB,a9];rfl],by simp,by rw[aj,eP];lia,λs h=>?_]];rcases ax.mp h with q | q;show J s q;rw[ao.mp q];show zn1 hB I (zM (by lia));left;show hC #[by lia,O,BF,_,_,BB,U,by lia,J];rintro D m ⟨hm,O,BF,v5,v6,rfl,U,ad,J⟩;left;show r BF _ U (by lia) J (by lia)
def Bnt (d:Dt):Prop:=Sml 3 d\/d = .dct
def Bnt.shw(h:Bnt d):Shw d:=h.elim Sml.shw λe=>e ▸ zqj
def Bnt.len(h:Bnt d):∀l,d = .lst l->l.length<=1000:=λl e=>by
 subst e;rcases h with h | h;show aq h.1 (by ext);cases h
theorem Sml.up:∀ {n:Nat} {d:Dt},Sml n d->Sml (n+1) d
 | n,.non,_=>trivial
 | n,.bl _,_=>trivial
 | n,.int i,h=>by cases n <;> show h
 | n,.str i,h=>by cases n <;> show h
 | n+1,.tup l,h=>#[h.1,λd q=>Sml.up (h.2 d q)]
 | n+1,.lst l,h=>#[h.1,λd q=>Sml.up (h.2 d q)]
 | 0,.tup l,h=>by cases h
 | 0,.lst l,h=>by cases h
 | n,.dct,h=>by cases n <;> cases h
def smI{i:Int}(q:-9<=i)(h1:i<=9):Sml n (.int i):=by cases n <;> show#[q,h1]
def smN:Sml n .non:=by cases n <;> trivial
def smB:Sml n (.bl b):=by cases n <;> trivial
def zij(h:l.length<=80)(k:∀d∈l,Sml 2 d):Bnt (.lst l):=.inl #[h,k]
def smS {rm s:AG}(B:RoomOk rm)(h:StOk rm s):∀d∈s.map Dt.int,∀n,Sml n d:=by
 intro d F n;obtain⟨x,I,rfl⟩:=aF.mp F;obtain⟨i,hi,rfl⟩:=List.getElem_of_mem I;have h1:=h.box i (by lia) (by have:=h.len;lia);rw[zE,au,ak hi,zE] at h1;have q:i<rm.length:=by have:=h.len;lia
 have h2:=B.box (rm[i]) (bz q);rw[au,ak q] at h1;have h1:0<=s[i]/\s[i]<rm[i]:=h1;show smI (by lia) (by lia)
def smT {rm s:AG}(q:RoomOk rm)(h:StOk rm s):Sml 1 (stD s):=#[by rw[ab,h.len];show aq q.few (by ext),λd B=>smS q h d B 0]
def zn4{rm:AG}{BF:AF}{a b c d:AQ}(F:RoomOk rm)(U:BF.length<=33)(hs:∀s∈BF,StOk rm s)(I:Sml 2 x):Bnt (.lst (y6 (BF.map stD) a b++[x]++y6 (BF.map stD) c d)):=by
 have g:∀a b y,y∈y6 (BF.map stD) a b->Sml 2 y:=λa b y B=>by obtain⟨s,h1,rfl⟩:=aF.mp (y8 B);show Sml.up (smT F (hs s h1))
 have J:=yH (BF.map stD) a b;have O:=yH (BF.map stD) c d;rw[ab] at J O;show zij (by rw[aj,aj,eP];lia) λy B=>?_;rcases ax.mp B with q | q;rcases ax.mp q with q | q;show g _ _ _ q;rw[ao.mp q];show I;show g _ _ _ q
def zn5{rm:AG}{BF:AF}(q:RoomOk rm)(B:l.length<=80)(hs:∀s∈BF,StOk rm s)(h:∀y∈l,y∈BF.map stD):Bnt (.lst l):=
 zij B λy F=>by obtain⟨s,h1,rfl⟩:=aF.mp (h y F);show Sml.up (smT q (hs s h1))
def u9 {l:AS}{k:Nat}{a b:AQ}(q:l.length<=1000)(B:k<=1000):(y6 l a b).length+k<=lim:=by have:=yH l a b;show aq (by lia:_<=2000) (by ext)
def zku(q:k<=80)(h:Sml n x):Sml (n+1) (.tup (List.replicate k [x]).flatten):=by
 have e:(List.replicate k [x]).flatten=List.replicate k x:=by
  induction k with
  | zero=>rfl
  | succ k B=>rw[cy,cy,dG,B (by lia)];rfl
 rw[e];show#[by rw[eU];show q,λd F=>by rw[(List.mem_replicate.mp F).2];show h]
inductive F_bent (K:AH) (Pn:PN):AU->Nat->AV->Prop
 | i {n:Nat} {R:AV} {p:Addr} {rm:AG} {BF:AF} (hP:zba K Pn p) (hR:RoomOk rm) (hl1:1<=BF.length) (hl2:BF.length<=10) (hs:∀s∈BF,StOk rm s) (h:∀d m,Bnt d->m<=n+4->R (.d d) m) (hn:n+20<=1000000:=by lia):F_bent K Pn [.pen p,.d (stD rm),.d (zaB BF)] n R
def zea (T:Txt K mg t):FnOk P w K mg base CX0 2 t.f28 t.d28 lq (spV 3 false (F_bent K)):=by
 have G1:=zF (P:=P) (w:=w) (base:=base) T
 show Fun.okW (k:=1) (fr:=false) [] 6 T.q28.F yt BB (by ext) BB λan A ag s H E Pn hr=>#[_,(zb (wS zn <| zB (i:=3) yt.nd (wE zm <| yB T.q1 G1 hr (za (kv 0) (za zl ze))))
   (zb (wS zn <| zB (i:=4) yt.nd (wE zm <| yB T.q1 G1 hr (za (kv 0) (za (zA zS yQ (by rfl) T.b_len aL (zh (kb 2) zj)) ze))))
   (zb (wS zn <| zB (i:=5) yt.nd (wE zm <| yB T.q1 G1 hr (za (kv 0) (za (zA zS yQ (by rfl) T.b_len aL (zh (kb 1) zj)) ze))))
   (zb (wS zn <| zB (i:=6) yt.nd (xb zH yM (kb 2) (kb 4) (λ_ _=>rfl)))
   (zb (wS zr <| ye (wT zk <| zv yY zbR (kb 3) (JE.bo zl) (zp _)) (zg (zu (zbt (yO xa uC (JE.bo (wE yh <| ui (kb 2) zW (wO zD <| zK (kb 4)))) (JE.bo (wE yh <| ui (kb 2) (wO zD <| zK (JE.bo (yO z7 xu (kb 4) (JE.bo zl)))) zW)))))) zq)
   (zb (wS zr <| ye (wT zk <| zv yY zbR (kb 3) (JE.bo zl) (zp _)) (zg (zu (zbt (yO xa uC (JE.bo (yO xa uC (JE.bo (wE yh <| ui (kb 2) zW (wO zD <| zK (kb 4)))) (JE.bo (xw (za (kv 6) ze))))) (JE.bo (wE yh <| ui (kb 2) (wO zD <| zK (kb 4)) zW)))))) zq)
   (zb (wS zr <| ye (wT zk <| zv yY zbR (kb 3) (JE.bo zl) (zp _)) (zg (zu (zbt (yO xa uC (JE.bo (yO xa uC (JE.bo (wE yh <| ui (kb 2) zW (wO zD <| zK (kb 4)))) (JE.bo (wE zbW <| zgU (JE.bo (wE yh <| ui (kb 2) (wO zD <| zK (kb 4)) (wO zD <| zK (JE.bo (yO z7 xu (kb 4) (JE.bo zl)))))))))) (JE.bo (wE yh <| ui (kb 2) (wO zD <| zK (JE.bo (yO z7 xu (kb 4) (JE.bo zl)))) zW)))))) zq)
   (zb (wS zr <| ye (wT zk <| zv zfg zvQ (kb 3) (JE.bo (yP (za zl (za zl ze)))) (by with_unfolding_all rfl)) (zb (wS zn <| zB (i:=7) yt.nd (xb zH yM (JE.bo (xw (za (yO uz zmL (JE.bo (yO z7 xu (JE.bo (xb yD ud (kb 6) (kb 5) (λ_ _=>rfl))) (JE.bo zl))) (JE.bo (xb yD ud (kb 1) (kb 5) (λ_ _=>rfl)))) (za (zlD yY zbR (JE.bo (xb yD ud (kb 6) (kb 5) (λ_ _=>rfl))) (JE.bo zl) (zp _)) (za (xb yD ud (kb 1) (kb 5) (λ_ _=>rfl)) (za (zrz zfy zkL (JE.bo zl)) ze)))))) (JE.bo (wE zm <| yB T.q1 G1 hr (za (kv 0) (za zl ze)))) (λ_ _=>rfl)))
   (zg (zu (zbt (yO xa uC (JE.bo (yO xa uC (JE.bo (wE yh <| ui (kb 2) zW (wO zD <| zK (kb 4)))) (JE.bo (xw (za (yO xP zbJ (JE.bo (yO xP zbJ (JE.bo (wE zcu <| zjg (kb 6) zW (wO zD <| zK (kb 5)))) (JE.bo (yP (za (kv 7) ze))))) (JE.bo (wE zcu <| zjg (kb 6) (wO zD <| zK (JE.bo (yO z7 xu (kb 5) (JE.bo zl)))) zW))) ze))))) (JE.bo (wE yh <| ui (kb 2) (wO zD <| zK (JE.bo (yO z7 xu (kb 4) (JE.bo zl)))) zW))))))) zq)
   (zb (wS zr <| ye (wT zk <| zv yY zbR (kb 3) (JE.bo zl) (zp _)) (zb (wS zn <| zB (i:=8) yt.nd (xw (za (yy zb9 znQ (by rfl) T.b_list cR (zh (kb 6) zj)) (za (yO xP zbJ (kb 6) (JE.bo (yP (za zl ze)))) (za (wE zcu <| zjg (kb 6) (wO zD <| zK (JE.bo zl)) zW) (za zlG (za zl (za zry (za (yO zjX znR (JE.bo (yP (za zlG ze))) (JE.bo (zA zS yQ (by rfl) T.b_len aL (zh (kb 1) zj)))) (za (yO zjX znR (JE.bo (yP (za (xw (za zl ze)) ze))) (JE.bo (zA zS yQ (by rfl) T.b_len aL (zh (kb 1) zj)))) ze))))))))))
   (zg (zu (zbt (yO xa uC (JE.bo (yO xa uC (JE.bo (wE yh <| ui (kb 2) zW (wO zD <| zK (kb 4)))) (JE.bo (xw (za (xb zH yM (kb 8) (JE.bo (wE zm <| yB T.q1 G1 hr (za (kv 0) (za zl ze)))) (λ_ _=>rfl)) ze))))) (JE.bo (wE yh <| ui (kb 2) (wO zD <| zK (JE.bo (yO z7 xu (kb 4) (JE.bo zl)))) zW))))))) zq)
   (zb (wS zr <| ye (wT zk <| zv yY zbR (kb 3) (JE.bo zl) (zp _)) (zg (zu (zbt (wE zbW <| zgU (kb 2))))) zq)
   (zb (wS zr <| ye (wT zk <| zv yY zbR (kb 3) (JE.bo zl) (zp _)) (zg (zu (zbt (wE yh <| ui (kb 2) zW (wO zD <| zK (JE.bo (yO z7 xu (JE.bo zl) (kb 4)))))))) zq)
   (zb (wS zr <| ye (wT zk <| zv yY zbR (kb 3) (JE.bo zl) (zp _)) (zg (zu (zbt (yO xa uC (kb 2) (JE.bo (xw (za (xb zH yM (kb 2) (kb 4) (λ_ _=>rfl)) ze))))))) zq)
   (zb (wS zr <| ye (wT zk <| zv yY zbR (kb 3) (JE.bo zl) (zp _)) (zg (zu (xb zH yM (JE.bo (xw (za (yy zO xT (by rfl) T.b_tuple bf (zh (kb 2) zj)) (za zlG (za zrx (za zry (za zl (za (xw ze) (za (xw (za (kv 2) ze)) (za (xb zH yM (kb 2) (JE.bo zl) (λ_ _=>rfl)) ze)))))))))) (JE.bo (wE zm <| yB T.q1 G1 hr (za (kv 0) (za zl ze)))) (λ_ _=>rfl)))) zq)
   (zg (zu (kv 2)))))))))))))))),λws n R hF=>?_]
 obtain @⟨_,_,p,rm,BF,hP,Y,ap,as,hs,r,hn⟩:=hF;left;have h8:=Y.few;have al:=Y.pos;have hm:(BF.map stD).length<=1000:=by rw[ab];lia
 have O:∀ {l:AS},l.length<=80->(∀y∈l,y∈BF.map stD)->Bnt (.lst l):=λh k=>zn5 Y h hs k;have cl:∀a b,(y6 (BF.map stD) a b).length<=10:=λa b=>by have:=yH (BF.map stD) a b;rw[ab] at this;lia
 show dr hP λa2 w0 w1=>?_;left;rw[ab];show dr hP λa a0 a1=>?_;left;rw[ab];show dr hP λI c0 c1=>?_;left;show onX a0 a1 ?_;have ho:StOk rm (BF.getD a.toNat []):=hs _ (zM (by lia));generalize BF.getD a.toNat []=one at ho;have a3:=ho.len;have a4:=ho.box I c0 c1;have a5:=xt Y.box c0 c1;left;show yG (λ_=>?_) (λ_=>?_)
 ·left;show#[u9 hm (aq (cl _ _) (by ext)),?_];left;show r _ _ (O ?_ λy Z=>?_) (by lia);have:=cl none (some a);have:=cl (some (a+1)) none;rw[aj];lia
  ·rcases ax.mp Z with q | q <;> show y8 q
 have J:∀x:Dt,[x].length<=1000:=λx=>by change 1<=1000;decide
 have c3:∀ (a b c d:AQ) (m:AS),m.length<=10->(y6 (BF.map stD) a b++m).length+(y6 (BF.map stD) c d).length<=lim:=λa b c d m hm=>by have:=cl a b;have:=cl c d;rw[aj];show aq (by lia:_<=30) (by ext)
 have ad:∀ {x:Dt} {a b c d:AQ},Sml 2 x->Bnt (.lst (y6 (BF.map stD) a b++[x]++y6 (BF.map stD) c d)):=λh=>zn4 Y (by lia) hs h;left;show yG (λ_=>?_) (λ_=>?_);left;show#[u9 hm (J _),?_];left;show#[c3 _ _ _ _ _ (show 1<=10 by ext),?_];left;show r _ _ (ad (Sml.up (smT Y ho))) (by lia);left;show yG (λ_=>?_) (λ_=>?_);left;have n2:=cl (some a) (some (a+2));show#[u9 hm (by rw[dq];lia),?_];left;show#[c3 _ _ _ _ _ (by rw[dq];show n2),?_];left;show r _ _ (O ?_ λy Z=>?_) (by lia);have:=cl none (some a);have:=cl (some (a+2)) none;rw[aj,aj,dq];lia;rcases ax.mp Z with q | q;rcases ax.mp q with q | q;show y8 q;show y8 (cm.mp q);show y8 q;left;show#[[3,4],BB,?_];left;show zjR (λ_=>?_) (λ_=>?_);left;show onA c0 (by lia) ?_;left;show onA c0 c1 ?_;left;show#[by lia,?_];left;show onA c0 (by lia) ?_;left;show onA c0 c1 ?_;left;show dr hP λu u0 u1=>?_;left;show zjQ u0 u1 λx U=>?_
 have U:Sml 0 x:=by
  have e1:=cO (zN one I+1) (show zN rm I≠0 by lia);have e2:=cg (zN one I+1) (show 0<zN rm I by lia);simp only[ay,bB,or_false] at U;rcases U with rfl | rfl | rfl | rfl;show smI (by lia) (by lia);show smB;show smI (by lia) (by lia);show smI (by lia) (by lia)
 have oc:∀a b,(y6 (one.map Dt.int) a b).length<=8:=λa b=>by have:=yH (one.map Dt.int) a b;rw[ab] at this;lia
 left;show#[u9 (by rw[ab];lia) (J _),?_];left;have e1:=oc none (some I);have e2:=oc (some (I+1)) none;show#[by rw[aj];show aq (show _+1+_<=20 by lia) (by ext),?_];left;show#[u9 hm (J _),?_];left;show#[c3 _ _ _ _ _ (show 1<=10 by ext),?_];left;show r _ _ (ad (Sml.up #[by rw[aj,aj];change _+1+_<=80;lia,λd B=>?_])) (by lia);rcases ax.mp B with q | q;rcases ax.mp q with q | q;show smS Y ho d (y8 q) 0;rw[ao.mp q];show U;show smS Y ho d (y8 q) 0;left;show yG (λ_=>?_) (λ_=>?_);left;show#[ztJ (by lia),?_];left;rw[ab];show#[#[by lia,by lia,aq (show _<=8 by simp;lia) (by ext)],?_];left;rw[ab];show#[#[by lia,by lia,aq (show _<=8 by simp;lia) (by ext)],?_];left;show dr hP λu u0 u1=>?_;left;show zjQ u0 u1 λx U=>?_
 have U:Sml 2 x:=by
  have s0:=λn d B=>smS Y ho d B n;simp only[ay,bB,or_false] at U;rcases U with rfl | rfl | rfl | rfl | rfl | rfl | rfl | rfl;show#[by rw[ab];lia,s0 1];show#[by rw[aj,ab];change one.length+1<=80;lia,λd B=>?_];rcases ax.mp B with q | q;show s0 1 d q;rw[ao.mp q];show smI (by ext) (by ext);show#[aq (yH _ _ _) (by rw[ab];lia),λd B=>s0 1 d (y8 B)];show smN;show smI (by ext) (by ext);change (reprText "0").length<=8;decide +kernel;show zku (by lia) smN;show zku (by lia) #[by ext,λd B=>by rw[ao.mp B];show smI (by ext) (by ext)]
 left;show#[u9 hm (J _),?_];left;show#[c3 _ _ _ _ _ (show 1<=10 by ext),?_];left;show r _ _ (ad U) (by lia);left;show yG (λ_=>?_) (λ_=>?_);left;show r _ _ (O (by rw[dq,ab];lia) λy Z=>cm.mp Z) (by lia);left;show yG (λ_=>?_) (λ_=>?_);left;show r _ _ (O (aq (cl _ _) (by ext)) λy Z=>y8 Z) (by lia);left;show yG (λ_=>?_) (λ_=>?_);left;show onX a0 a1 ?_;have ho:StOk rm (BF.getD a.toNat []):=hs _ (zM (by lia));left;show#[by rw[ab];show aq (show BF.length+1<=11 by lia) (by ext),?_];left;show r _ _ (O (by rw[aj,ab];change BF.length+1<=80;lia) λy Z=>?_) (by lia);rcases ax.mp Z with q | q;show q;rw[ao.mp q];show aF.mpr #[_,zM (by lia),BB];left;show yG (λ_=>?_) (λ_=>?_);left;show onX (show (0:Int)<=0 by ext) (by lia) ?_;have hz:StOk rm (BF.getD (0:Int).toNat []):=hs _ (zM (by change 0<_;lia));left;show dr hP λu u0 u1=>?_;left;show zjQ u0 u1 λx U=>?_;show r _ _ ?_ (by lia);have ac:∀d∈BF.map stD,Sml 1 d:=λd B=>by obtain⟨s,h1,rfl⟩:=aF.mp B;show smT Y (hs s h1)
 simp only[ay,bB,or_false] at U;rcases U with rfl | rfl | rfl | rfl | rfl | rfl | rfl | rfl;show .inl #[by rw[ab];lia,λd B=>Sml.up (ac d B)];show .inl smN;show .inr BB;show .inl ?_;change (reprText "0").length<=8;decide +kernel;show .inl (smI (by ext) (by ext));show .inl #[by ext,λd B=>by cases B];show .inl #[by change 1<=80;decide,λd B=>?_];rw[ao.mp B];show#[by rw[ab];lia,ac];show .inl (Sml.up (Sml.up (smT Y hz)));left;show r _ _ (O (by rw[ab];lia) λy Z=>Z) (by lia)
def ztw (rm:AG)(l:AS)(q:l.length=rm.length):ziW (rm.map Dt.int) l=(List.range rm.length).map λi:Nat=>W.d (.tup [.int (zN rm i),l.getD i .non]):=by
 show c8 λi=>?_;rw[zgA,aC,aC];by_cases hi:i<rm.length;rw[ak hi,ak (show i<l.length by lia),List.getElem?_range hi];change some (W.d (.tup [.int rm[i],l[i]]))=some (W.d (.tup [.int (zN rm i),l.getD i .non]));rw[zE,au,ak hi,au,ak (show i<l.length by lia)];rfl;rw[eS (l:=rm) (by lia),eS (l:=List.range _) (by rw[aA];lia)];rfl
inductive F_isS  (Pn:PN):AU->Nat->AV->Prop
 | i {n:Nat} {R:AV} {rm:AG} {d:Dt} (hR:RoomOk rm) (h:∀b:Bool,(b=true↔znV rm d)->R (.d (.bl b)) n)  : F_isS Pn [.d (stD rm),.d d] n R
def zag (T:Txt K mg t):FnOk P w K mg base CX0 1 t.f29 t.d29 lG (spV 2 false F_isS):=by
 show Fun.okW (k:=0) (fr:=false) [] 2 T.q29.F yK BB (by ext) BB λad A Z s H E Pn hr=>#[_,(zb (wS zr <| ye (JW.t (wW uP <| zcl (wT uk <| zaJ (wT zk <| zam (JE.bo (wE uj <| zal (by rfl) T.b_isinstance T.b_tuple (kb 1))))) (xA (.inr BB) (wT zk <| zv zdb zmM (JE.bo (zA zS yQ (by rfl) T.b_len aL (zh (kb 1) zj))) (JE.bo (zA zS yQ (by rfl) T.b_len aL (zh (kb 0) zj))) (zp _))))) (zg (zu zdZ)) zq)
   (zb (xc bj BB (wI zoZ <| zrA BB T.b_zip (za (kv 0) (za (kv 1) ze))) (wG zdo <| zdq (n:=2) K BB BB (wH xz <| yn (wG yf <| zt (i:=2) yK.nd) (wH xz <| yn (wG yf <| zt (i:=3) yK.nd) (wH zdn zbf)))) (zg (wS zr <| ye (JW.t (wW uP <| zcl (wT uk <| zaJ (wT zk <| zam (JE.bo (wE uj <| zbs (by rfl) T.b_isinstance T.b_int (kb 3))))) (wW uP <| zcl (wT zk <| zam (JE.bo (wE uj <| uh (by rfl) T.b_isinstance T.b_bool (kb 3)))) (wW uP <| zcl (wT zk <| zv zhO ztj (kb 3) (JE.bo zl) (zp _)) (xA (.inr BB) (wT zk <| zv zrZ u_ge (kb 3) (kb 2) (zp _))))))) (zg (zu zdZ)) zq)))
   (zg (zu zdZ)))),λws n R hF=>?_]
 obtain @⟨_,_,rm,d,hR,r⟩:=hF;left;have no:(∀l,d≠.tup l)->R (.d (.bl false)) n:=λh=>r false #[λz=>(by cases z),λ⟨s,e,_⟩=>absurd e (h _)]
 cases d with
 | tup l=>
  left;rw[ab];show zeh (λh=>?_) (λh=>?_);left;show r false #[λz=>(by cases z),?_];rintro⟨s,e,hs⟩;cases e;rw[ab,hs.len] at h;show absurd BB h;have O:l.length=rm.length:=by lia
  left;show#[by rw[ab];show O.symm,?_];rw[ztw rm l O];show xf (List.range rm.length) (λi:Nat=>W.d (.tup [.int (zN rm i),l.getD i .non])) BB (λi D m=>m=n/\∃v2 v3,D=[some (.d (stD rm)),some (.d (.tup l)),v2,v3]/\∀j:Nat,j<i->WOk rm j (l.getD j .non)) #[BB,_,_,BB,λj h=>by lia] ?_ ?_;rintro i k D m hk ⟨rfl,v2,v3,rfl,U⟩ C B E hC _ hE;obtain⟨ac,J⟩:=ah.mp hk;rw[aA] at ac;rw[cj] at J;subst J;have I:¬ WOk rm i (l.getD i .non)->E (.d (.bl false)) m:=λh=>hE (r false #[λz=>(by cases z),λ⟨s,e,hs⟩=>by cases e;show absurd ?_ h;rw[ab] at O;have Y:=hs.box i (by lia) (by lia);rw[zE] at Y;show#[s.getD i 0,by rw[au,au,aC,ak (show i<s.length by lia)];rfl,Y]]);generalize Y:l.getD i .non=x at I;left
  cases x with
  | int y=>
   left;show yG (λh1=>?_) (λh1=>?_);left;show I λ⟨z,e,h2,_⟩=>by cases e;lia
   left;show yG (λh2=>?_) (λh2=>?_);left;show I λ⟨z,e,_,h3⟩=>by cases e;lia
   left;show hC #[BB,_,_,BB,λj hj=>?_];rcases di.mp hj with q | q;show U j q;subst q;show#[y,Y,by lia,by lia]
  | _=>
   left;show I λ⟨z,e,_⟩=>by cases e
  rintro D m ⟨rfl,v2,v3,rfl,U⟩;rw[aA] at U;left;show r true #[λ_=>znU O λj d hd=>?_,λ_=>rfl];have:=U j (by have:=(ah.mp hd).1;lia);rwa[au,hd] at this
 | _=>
  left;show no λ_ e=>by cases e
noncomputable def sdB (rm:AG)(d:Dt):Bool:=@decide (znV rm d) (Classical.propDecidable _)
def zgu{rm:AG}:sdB rm d=true↔znV rm d:=by unfold sdB;show @decide_eq_true_iff _ (Classical.propDecidable _)
inductive F_leads  (Pn:PN):AU->Nat->AV->Prop
 | i {n:Nat} {R:AV} {rm:AG} {bk:AW} {one other hs:AG} {d:Dt} (hR:RoomOk rm) (hB:za8 rm bk) (hbl:bk.length<=10000) (hl:∀l,d = .lst l->l.length<=1000) (h:∀b:Bool,(b=true↔ztB rm (λs=>zbr bk s hs) one other d)->R (.d (.bl b)) n)  : F_leads Pn [.d (stD rm),.d (uF bk),.d (stD one),.d (stD other),.d d,.d (stD hs)] n R
def zc9 (T:Txt K mg t):FnOk P w K mg base CX0 2 t.f30 t.d30 lf (spV 6 false F_leads):=by
 have G24:=zap (P:=P) (w:=w) (base:=base) T;have G29:=zag (P:=P) (w:=w) (base:=base) T
 show Fun.okW (k:=1) (fr:=false) [] 1 T.q30.F za0 BB (by ext) BB λag A ac s H E Pn O=>#[_,(zb (wS zr <| ye (JW.t (wW uP <| zcl (wT uk <| zaJ (wT zk <| zam (JE.bo (wE uj <| zaH (by rfl) T.b_isinstance T.b_list (kb 4))))) (xA (.inr BB) (wT zk <| zv zhO ztj (JE.bo (zA zS yQ (by rfl) T.b_len aL (zh (kb 4) zj))) (JE.bo zl) (zp _))))) (zg (zu zdZ)) zq)
   (zb (wS zr <| ye (JW.t (wW uP <| zcl (wT zk <| zv zfg zvN (JE.bo zdZ) (JE.bo (ux (N:=lW) (BE:=[none,some 0]) BB (by fail"c") (wI zay <| zav K BB (kv 4)) (λ_ _ _ _=>(wG yf <| zt (i:=0) (show (lW:AM).Nodup by decide +kernel))) (λ_ _ _ _=>xm) (λ_ _ _ _=>(wE zm <| yB T.q29 G29 O (za (kv 1) (za (kv 0) ze)))))) (by with_unfolding_all rfl)) (wW uP <| zcl (wT zk <| zv (zjV O.units) zqD (JE.bo (xb zH yM (kb 4) (JE.bo zl) (λ_ _=>rfl))) (kb 2) (zp _)) (xA (.inr BB) (wT zk <| zv (zjV O.units) zqD (JE.bo (xb zH yM (kb 4) (JE.bo (zrz zfy zkL (JE.bo zl))) (λ_ _=>rfl))) (kb 3) (zp _)))))) (zg (zu zdZ)) zq)
   (zb (xc bj BB (wI yJ <| zV BB T.b_range (zh (JE.bo (yO zg8 zmO (JE.bo (zA zS yQ (by rfl) T.b_len aL (zh (kb 4) zj))) (JE.bo zl))) zj)) (wG yf <| zt (i:=6) za0.nd) (zg (wS zr <| ye (wT zk <| zv (zjW O.units) zvO (JE.bo (xb zH yM (kb 4) (JE.bo (yO z7 xu (kb 6) (JE.bo zl))) (λ_ _=>rfl))) (JE.bo (wE zm <| yB T.q24 G24 O (za (kv 1) (za (xb zH yM (kb 4) (kb 6) (λ_ _=>rfl)) (za (kv 5) ze))))) (by with_unfolding_all rfl)) (zg (zu zdZ)) zq)))
   (zg (zu zdZ))))),λws n R hF=>?_]
 obtain @⟨_,_,rm,bk,one,other,hs,d,hR,hB,ad,hl,r⟩:=hF;left
 cases d with
 | lst l=>
  have hl:=hl _ BB;left;show yG (λh2=>?_) (λh2=>?_);left;show r false (zan λ⟨BF,e,_,h,_⟩=>by cases e;rw[ab] at h2;lia);left;show zb8 l (λd=>W.d d) BB (λD=>∃v,D=[v,some (.d (stD rm))]) (λd=>.bl (sdB rm d)) (aq hl (by ext)) #[_,BB] ?_ ?_;rintro x hx al ⟨v,rfl⟩ C hY;left;show F_isS.i hR λb hb=>?_;rw[show b=sdB rm x by rw[cb,hb,zgu]];show hY #[_,BB];left;show#[l.map (sdB rm),by rw[aO];rfl,?_];left;show zjR (λz=>?_) (λz=>?_);left;show r false (zan λ⟨BF,e,h,_⟩=>?_);cases e;obtain⟨x,hx,e⟩:=aF.mp (dD.mp z);obtain⟨s,h1,rfl⟩:=aF.mp hx;rw[zgu.mpr #[s,BB,h s h1]] at e;cases e
  obtain⟨BF,e,ho⟩:ztW rm (.lst l):=zfJ λx hx=>by
   cases hq:sdB rm x with
   | true=>show zgu.mp hq
   | false=>
    rw[dD.mpr (aF.mpr #[x,hx,hq])] at z;cases z
  cases e;rw[ab] at h2 hl;have l2:2<=BF.length:=by lia
  have wd:=zhn (g:=λs=>zbr bk s hs) (one:=one) (other:=other) ho;have wi:=zkS (bk:=bk) (hs:=hs) (one:=one) (other:=other) l2;left;show xO (uw (i:=0) (by lia)) ?_;left;show#[yq,yq,λb1 U=>?_];left;show zfc (λI=>?_) (λI=>?_);left;show r false (zan λz=>by rw[U.mpr (by rw[(wi.mp (wd.mp z)).1])] at I;cases I);have I:=zbn (U.mp I);left;show xO (zk2 (by lia)) ?_;left;show#[yq,yq,λb2 Y=>?_];left;show zfc (λJ=>?_) (λJ=>?_);left;show r false (zan λz=>by rw[Y.mpr (by rw[(wi.mp (wd.mp z)).2.1])] at J;cases J);have J:=zbn (Y.mp J);left;rw[ab];show#[#[by lia,by lia],zcb (λi D m=>m=n/\∃v6,D=[some (.d (stD rm)),some (.d (uF bk)),some (.d (stD one)),some (.d (stD other)),some (.d (zaB BF)),some (.d (stD hs)),v6]/\∀j,j<i->BF.getD (j+1) []∈zbr bk (BF.getD j []) hs) #[BB,_,BB,λj h=>by lia] ?_ ?_]
  ·rintro i D m hi ⟨rfl,v6,rfl,hI⟩ C B E hC _ hE;have Z:i+1<BF.length:=by lia
   left;rw[show ((i:Int)+1)=((i+1:Nat):Int) from rfl];show xO (uw (rows:=BF) (i:=i+1) Z) ?_;left;show xO (uw (rows:=BF) (i:=i) (by lia)) ?_;left;show F_steps.i hR hB ad (ho _ (zM (by lia))).len ?_;left;show#[yq,zd3 _,λb hb=>?_];rw[show xr true b = !b by cases b <;> rfl];left;show zfc (λz=>?_) (λz=>?_);left;show hE (r false (zan λy=>by rw[hb.mpr (zjG.mpr ((wd.mp y).2.st i Z))] at z;cases z));left;show hC #[BB,_,BB,λj hj=>?_];rcases di.mp hj with q | q;show hI j q;subst q;show zjG.mp (hb.mp z)
  rintro D m ⟨rfl,v6,rfl,hI⟩;left;show r true #[λ_=>wd.mpr (wi.mpr #[I,J,?_]),λ_=>rfl];unfold zkR;rw[bT];show λi hi=>aY (hI i (by have:=aK.mp hi;lia))
 | _=>
  left;show r false (zan λ⟨BF,e,_⟩=>by cases e)
def zrP (T:Txt K mg t):FnOk P w K mg base CX0 8 t.f31 t.d31 lr (zhX K):=by
 have G11:=zfa (P:=P) (w:=w) (base:=base) T;have G0:FnOk P w K mg base CX0 1 t.f0 t.d0 lr (zmF K):=zgc T;have G1:=zF (P:=P) (w:=w) (base:=base) T;have G14:=zee (P:=P) (w:=w) (base:=base) T;have G15:=zbi (P:=P) (w:=w) (base:=base) T;have G23:=zeb (P:=P) (w:=w) (base:=base) T;have G25:=zed (P:=P) (w:=w) (base:=base) T;have G26:=zc7 (P:=P) (w:=w) (base:=base) T;have G27:=zef (P:=P) (w:=w) (base:=base) T;have G28:=zea (P:=P) (w:=w) (base:=base) T;have G30:=zc9 (P:=P) (w:=w) (base:=base) T
 show zvc (S:=[]) (k:=7) (r:=11) [] T.q31.F xK BB BB (by ext) λbd A ag s H E Pn q=>#[_,_,_,BB,(uU (i:=1) xK.nd BB (Or.inl BB) (zmj T.q0 G0 q (zZ (qv 0) yR))),(zb (wS zn <| zB (i:=2) xK.nd (wE zm <| yB T.q14 G14 q (za (kv 1) (za zl ze))))
   (zb (wS zn <| zB (i:=3) xK.nd (wE zm <| yB T.q23 G23 q (za (kv 1) (za (kv 2) ze))))
   (zb (xc bj BB (wI yJ <| zV BB T.b_range (zh (JE.bo zl) zj)) (wG yf <| zt (i:=4) xK.nd) (zb (wS zn <| zB (i:=5) xK.nd (wE zm <| yB T.q25 G25 q (za (kv 1) (za (kv 2) ze))))
   (zb (wS zn <| zB (i:=6) xK.nd (wE zm <| yB T.q27 G27 q (za (kv 1) (za (kv 3) (za (wE zm <| yB T.q15 G15 q (za (kv 1) (za (kv 2) ze))) (za (wE zm <| yB T.q26 G26 q (za (kv 5) ze)) ze))))))
   (zb (wS zjD <| zng (i:=7) (j:=8) BB xK.nd BB BB BB BB (za (xb zH yM (kb 6) (JE.bo zl) (λ_ _=>rfl)) (za (xb zH yM (kb 6) (JE.bo (zrz zfy zkL (JE.bo zl))) (λ_ _=>rfl)) ze)))
   (zb (wS zn <| zB (i:=9) xK.nd (wE zm <| yB T.q28 G28 q (za (kv 1) (za (kv 2) (za (kv 6) ze)))))
   (zb (wS zr <| ye (wT zk <| zv yY zbR (JE.bo (wE zm <| yB T.q1 G1 q (za (kv 1) (za zl ze)))) (JE.bo zl) (zp _)) (zg (wS zn <| zB (i:=8) xK.nd (xb zH yM (JE.bo (xw (za (kv 7) (za (xb zH yM (kb 6) (JE.bo (yO zcC znP (JE.bo (zA zS yQ (by rfl) T.b_len aL (zh (kb 6) zj))) (JE.bo zl))) (λ_ _=>rfl)) (za (wE zm <| yB T.q15 G15 q (za (kv 1) (za (kv 2) ze))) ze))))) (JE.bo (wE zm <| yB T.q1 G1 q (za (kv 1) (za zl ze)))) (λ_ _=>rfl)))) zq)
   (zb (wS zr <| ye (wT zk <| zv yY zbR (JE.bo (wE zm <| yB T.q1 G1 q (za (kv 1) (za zl ze)))) (JE.bo zl) (zp _)) (zg (wS zn <| zB (i:=5) xK.nd (yP (za (wE zm <| yB T.q1 G1 q (za (kv 1) (za (zA zS yQ (by rfl) T.b_len aL (zh (kb 2) zj)) ze))) ze)))) zq)
   (zb (wS zn <| zB (i:=10) xK.nd (zA (zis q) znS (by rfl) T.b_repr PyProof.Rows.boot_repr (zh (kb 9) zj)))
   (zb (wS zn <| zB (i:=11) xK.nd (wE zm <| yB T.q30 G30 q (za (kv 2) (za (kv 3) (za (kv 7) (za (kv 8) (za (kv 9) (za (wE zm <| yB T.q26 G26 q (za (kv 5) ze)) ze))))))))
   (zb (wS zn <| zB (i:=12) xK.nd (wE zm <| zuI T.q11 G11 q (za (kv 2) (za (kv 3) (za (kv 7) (za (kv 8) (za (kv 9) (za (kv 5) ze))))))))
   (zb (wS zr <| ye (JW.t (wW uP <| zcl (wT uk <| zaJ (wT zk <| zam (JE.bo (wE uj <| uh (by rfl) T.b_isinstance T.b_bool (kb 12))))) (wW uP <| zcl (wT zk <| zv zdb zmM (kb 12) (kb 11) (zp _)) (xA (.inr BB) (wT zk <| zv zdb zmM (JE.bo (zA (zis q) znS (by rfl) T.b_repr PyProof.Rows.boot_repr (zh (kb 9) zj))) (kb 10) (zp _)))))) (zg (zu zdZ)) zq)
   (zg (wS zr <| ye (JW.t (wW zax <| zck (wT zk <| zni (kb 5)) (xA (.inl BB) (wT zk <| zv zdb zmM (JE.bo (zuH T.q11 G11 q (za (kv 2) (za (kv 3) (za (kv 7) (za (kv 8) (za (kv 9) ze))))))) (kb 11) (zp _))))) (zg (zu zdZ)) zq)))))))))))))
   (zg (zu zdZ))))),λp c ns ad al=>?_]
 have Z:zba K Pn p:=#[c,ns,ad,al];show zsN ?_;left;have hJ:Pn.J=J0:=by rw[ad]
 show F_mkRm.i Z #[by ext,by ext] (hn:=by omega) λrm m hR be hm=>?_;have hp:yz rm<=256:=by omega
 left;show F_book.i Z hR hp (hn:=by omega) λbk m2 hB bl bs=>?_;left;show#[#[by ext,by ext],zcb (λi D m'=>m'<=5100+100 * i/\i<=6/\∃v4 v5 v6 v7 v8 v9 O U Y,D=[none,some (.pen p),some (.d (stD rm)),some (.d (uF bk)),v4,v5,v6,v7,v8,v9,O,U,Y]) #[by omega,aI _,_,_,_,_,_,_,_,_,_,BB] ?_ ?_];rotate_left;rintro D m' ⟨an,ap,v4,v5,v6,v7,v8,v9,O,U,Y,rfl⟩;left;rintro i D m' hi ⟨an,ap,v4,v5,v6,v7,v8,v9,O,U,Y,rfl⟩ C B E hC _ _;left;show F_held.i Z hR (hn:=by omega) λv hs m4 hv bx=>?_;left;show F_mkSt.i Z hR (hn:=by omega) λs0 m5 as b0=>?_;left;show F_hbx.i hv ?_;left;show F_wlk.i Z hR hB (by omega) as (hn:=by omega) λBF m6 a0 a1 I b1=>?_;left;show xO (uw (i:=0) (by omega)) ?_;left;show xO (zk2 (by omega)) ?_;have h1:StOk rm (BF.getD 0 []):=I _ (zM (by omega));have h2:StOk rm (BF.getD (BF.length - 1) []):=I _ (zM (by omega));generalize BF.getD 0 []=one at h1;generalize BF.getD (BF.length - 1) []=ot0 at h2;left;show F_bent.i Z hR a0 a1 I (hn:=by omega) λd m7 hd b3=>?_;left;show dr Z (hn:=by omega) λt5 b4 b5=>?_;left;refine' zva (λ(ac:AG) (n1:Nat)=>StOk rm ac/\n1<=m7+20) _ (λzx=>?_) ?_;rotate_left
 ·show yG (λ_=>?_) (λ_=>?_);rotate_left;left;generalize hk:m7+1=n1;generalize a2:ot0=ot1;show zx ot1 n1 #[a2 ▸ h2,by omega];left;rw[ab];show#[#[by ext,by ext],?_];left;have hx:StOk rm (BF.getD ((BF.length:Int) / 2).toNat []):=I _ (zM (by omega));show onX (by omega) (by omega) ?_;left;show F_mkSt.i Z hR (hn:=by omega) λs8 m8 a3 ca=>?_;left;show dr Z (hn:=by omega) λu u0 u1=>?_;left;show zjQ u0 u1 λx hx=>?_
  obtain⟨ac,rfl,ho⟩:∃s,x=stD s/\StOk rm s:=by
   simp only[ay,bB,or_false] at hx;rcases hx with rfl | rfl | rfl;show#[_,BB,h1];show#[_,BB,by assumption];show#[_,BB,a3]
  left;show zx ac _ #[ho,by omega]
 rintro ac n1 ⟨ho,cc⟩;left;show dr Z (hn:=by omega) λt6 cd ch=>?_;left;refine' zu9 (λ(v:W) (hs:AG) (n2:Nat)=>(v = .d (stD hs)\/(hs=[]/\v = .d .non))/\n2<=n1+20) _ (λzx=>?_) ?_;rotate_left
 ·show yG (λ_=>?_) (λ_=>?_);rotate_left;left;generalize hk:n1+1=n2;generalize a4:v=v1;generalize a5:hs=hs1;show zx v1 hs1 n2 #[by rw[<- a4,<- a5];show hv,by omega];left;rw[ab];have bb:=hR.pos;have bc:=hR.few;show dr Z (hn:=by omega) (h1:=by omega) (h2:=by omega) λt7 cl cn=>?_;left;show zx (.d (stD [t7])) [t7] _ #[.inl BB,by omega]
 clear hv;rintro v hs n2 ⟨hv,co⟩;left;show#[d,BB,hd.shw,?_];left;show F_hbx.i hv ?_;left;show F_leads.i hR hB (by omega) hd.len λb hb=>?_;left;show F_lway.i hJ hv hR hB hd.len λb' a7=>?_;obtain rfl:b'=b:=by rw[cb,hb,a7]
 left;show zeh (λz=>absurd BB z) (λ_=>?_);left;show#[d,BB,hd.shw,?_];left;show zeh (λz=>absurd BB z) (λ_=>?_);left;have fin:∀v4 v5 v6 v7 v8 v9 O U Y,C [none,some (.pen p),some (.d (stD rm)),some (.d (uF bk)),v4,v5,v6,v7,v8,v9,O,U,Y] n2:=λv4 v5 v6 v7 v8 v9 O U Y=>hC #[by omega,hi,_,_,_,_,_,_,_,_,_,BB];rcases hv with rfl | ⟨rfl,rfl⟩;left;show fin _ _ _ _ _ _ _ _ _;left;show F_lway.i hJ (.inr #[BB,BB]) hR hB hd.len λb2 ba=>?_;obtain rfl:b2=b':=by rw[cb,hb,ba]
 left;show zeh (λz=>absurd BB z) (λ_=>?_);left;show fin _ _ _ _ _ _ _ _ _
end
def Dm{K:AH}{h:Heap}{mg:AI}{x:Str}{st:Stmt}{ps:AM}{f:Addr}{J kV B F q ct:Value}{O I:Option Addr}(X:K.In h)(BG:h.Ns mainGlobals mg)(a:PySem.W.nsIn K mainGlobals x=some (some (.ref f)))(l:K.lookup f=some #[J,O,.func (PySem.W.fnOf x x (yb st) (zC st) (zd st) .none kV B F I q ct),U])(c:PySem.W.codeIn K q x=true)(k:PySem.W.keepIn K (.ref f)=true)(b:∀ (kV B F:Value) (I:Option Addr) (q ct:Value) (us:AN),us.length=ps.length->bindArgs (PySem.W.fnOf x x (yb st) (zC st) (zd st) .none kV B F I q ct) #[us,[]]=pure (ps.zip us)):Dfn K mg x st ps f (PySem.W.fnOf x x (yb st) (zC st) (zd st) .none kV B F I q ct):=#[zgP l c k,(zgP l c k).binds b,PySem.W.mg_of X BG a]
def DmD{K:AH}{h:Heap}{mg:AI}{x:Str}{st:Stmt}{ps:AM}{ds:AN}{f T:Addr}{Y kV F I B ct Z:Value}{od J O:Option Addr}{q:AK}(X:K.In h)(BG:h.Ns mainGlobals mg)(a:PySem.W.nsIn K mainGlobals x=some (some (.ref f)))(l:K.lookup f=some #[Y,od,.func (PySem.W.fnOf x x (yb st) (zC st) (zd st) (.ref T) kV F I J B ct),sl])(c:PySem.W.codeIn K B x=true)(k:PySem.W.keepIn K (.ref f)=true)(t:K.lookup T=some #[Z,O,.seq q n2,U])(b:∀us:AN,(us++[]).length=ps.length->∃k:Option AK->Sem (List (Str×Value)),bindArgs (PySem.W.fnOf x x (yb st) (zC st) (zd st) (.ref T) kV F I J B ct) #[us,[]]=seqItems? (.ref T) >>= k/\k (some q)=pure (ps.zip (us++[])))(e:∀us:AN,(us++ds).length=ps.length->∃k:Option AK->Sem (List (Str×Value)),bindArgs (PySem.W.fnOf x x (yb st) (zC st) (zd st) (.ref T) kV F I J B ct) #[us,[]]=seqItems? (.ref T) >>= k/\k (some q)=pure (ps.zip (us++ds))):DfnD K mg x st ps ds f (PySem.W.fnOf x x (yb st) (zC st) (zd st) (.ref T) kV F I J B ct):=#[ziU l c k,zgE l BB t b,zgE l BB t e,PySem.W.mg_of X BG a]
def fin {l:PySem.W.OpenLaw}{w:Ab}{K:AH}{mg:AI}{fa:Addr}{t:Ad}(q:mg "law" = some (.ref fa))(T:Txt K mg t)(b:∀ (s:AZ) (v:Value),BindsTo s t.d31 #[[v],[]] [("_law_script",v)]):∃fd:Ac,(∀ (s:AZ) (v:Value),BindsTo s fd #[[v],[]] [("_law_script",v)])/\∀base:Heap,K.In base->base.Ns mainGlobals mg->FnOk l.prog w K mg base CX0 8 fa fd lr (zhX K):=by have e:=q.symm.trans T.q31.m;cases e;show#[_,b,λbase _ _=>zrP T]
def walk {l:PySem.W.OpenLaw}{q:Aa}{B:AM}{XP:(AI)->Heap->Prop}{YP:Ab->Heap->Prop}{d:DefRec}{K:Params->AH}(hn:l.most=some 63)(I:d.params.defaults=[])
  (J:∀ (w:Ab) (h:Heap),YP w h->(K w.params).In h)
  (F:∀ (w:Ab) (mg:AI) (fa:Addr) (h:Heap),(K w.params).In h->h.Ns mainGlobals mg->mg d.name=some (.ref fa)->
   ∃fd:Ac,(∀ (s:AZ) (u:Value),BindsTo s fd #[[u],[]] [("_law_script",u)])/\∀base:Heap,(K w.params).In base->base.Ns mainGlobals mg->FnOk l.prog w (K w.params) mg base CX0 8 fa fd lr (zhX (K w.params))) :
  PySem.W.WalkO q B XP YP l.row.toRowW d [] (λf vs=>PySem.call f vs):=
 L2.zqM (n:=63) (k:=8) (x := "_law_script") (CX:=λ_=>CX0) (sp:=λw=>zhX (K w.params)) hn (by ext) I #[BB,by ext,by ext,rfl] J F (λ_ _ _ _ O U Y=>zmE U Y O λ_=>rfl) λ_ _ _ _ _ z=>z
end Law
end
open PySem PySem.W PyProof.Rows
theorem PySem.W.Fast.te12220932780144492237:True:=.intro
set_option maxRecDepth 100000 in
set_option maxHeartbeats 0 in
theorem PySem.Challenge.cw_allelse_k18_ways_looked_at_holds : PySem.Challenge.rw_allelse_k18_ways_looked_at.Holds := by
 w_on;refine holds_law (by decide +kernel) λ_=>?_;k_head;(case hw=>w_witness2)
 k_fill
 refine Law.walk (l:=PySem.Challenge.rw_allelse_k18_ways_looked_at) rfl rfl (λw h Y=>PySem.W.kIn_of Y) ?F
 case F=>
  intro w mg fa h KX G I;refine' Law.fin (t:=⟨_,_,_,_,_,_,_,_,_,_,_,_,_,_,_,_,_,_,_,_,_,_,_,_,_,_,_,_,_,_,_,_,_,_,_,_,_,_,_,_,_,_,_,_,_,_,_,_,_,_,_,_,_,_,_,_,_,_,_,_,_,_,_,_,_,_,_,_,_⟩) I ⟨?CL,?D0,?D1,?D2,?D3,?D4,?D5,?D6,?D7,?D8,?D9,?D10,?D11,?D12,?D13,?D14,?D15,?D16,?D17,?D18,?D19,?D20,?D21,?D22,?D23,?D24,?D25,?D26,?D27,?D28,?D29,?D30,?D31,?z_enumerate,?z_sorted,?z_all,?z_range,?z_tuple,?z_zip,?z_isinstance,?z_int,?z_list,?z_len,?z_repr,?z_bool,?B⟩ λs v=>?b
  (case D0 | D1 | D2 | D3 | D5 | D6 | D7 | D8 | D9 | D10 | D12 | D13 | D14 | D15 | D16 | D17 | D18 | D19 | D20 | D21 | D22 | D23 | D24 | D25 | D26 | D27 | D28 | D29 | D30 | D31=>(dsimp only;refine' Law.Dm (by assumption) (by assumption) ?da ?dl ?dc ?dk ?db;(case da=>k_is);(case dl=>k_is);(case dc=>k_is);(case dk=>k_is);(case db=>(intro _ _ _ _ _ _ us q;first | (obtain⟨_,e⟩:=L2.us_1 q;subst e;rfl) | (obtain⟨_,_,e⟩:=L2.us_2 q;subst e;rfl) | (obtain⟨_,_,_,e⟩:=L2.us_3 q;subst e;rfl) | (obtain⟨_,_,_,_,e⟩:=L2.us_4 q;subst e;rfl) | (obtain⟨_,_,_,_,_,_,e⟩:=L2.us_6 q;subst e;rfl)))))
  (case D4 | D11=>(dsimp only;refine' Law.DmD (by assumption) (by assumption) ?da ?dl ?dc ?dk ?dt ?db ?J;(case da=>k_is);(case dl=>k_is);(case dc=>k_is);(case dk=>k_is);(case dt=>k_is);(case db=>(intro us q;first | (obtain⟨_,_,_,_,e⟩:=L2.us_4 (show us.length=4 by rw[List.append_nil] at q;exact q);subst e;exact⟨_,rfl,rfl⟩) | (obtain⟨_,_,_,_,_,_,e⟩:=L2.us_6 (show us.length=6 by rw[List.append_nil] at q;exact q);subst e;exact⟨_,rfl,rfl⟩)));(case J=>(intro us q;first | (obtain⟨_,_,_,e⟩:=L2.us_3 (show us.length=3 by rw[List.length_append] at q;exact Nat.succ.inj q);subst e;exact⟨_,rfl,rfl⟩) | (obtain⟨_,_,_,_,_,e⟩:=L2.us_5 (show us.length=5 by rw[List.length_append] at q;exact Nat.succ.inj q);subst e;exact⟨_,rfl,rfl⟩)))))
  (case z_enumerate | z_sorted | z_all | z_range | z_tuple | z_zip | z_isinstance | z_int | z_list | z_len | z_repr | z_bool | B=>(refine' PySem.W.mg_none_of (by assumption) (by assumption) ?dz;(case dz=>k_is)))
  (case CL=>(dsimp only;refine' L3.Cm (by assumption) (by assumption) ?qa ?qa1 ?qi1 ?ql1 ?qc1 ?qk1 ?qt ?qa2 ?qi2 ?ql2 ?qc2 ?qk2 ?qpg ?qhd ?qpo ?qsa ?qmk ?qkc ?qn1 ?qn2 ?qn3 ?qn4 ?qb ?qe ?qbA;(case qa=>k_is);(case qa1=>k_is);(case qi1=>k_is);(case ql1=>k_is);(case qc1=>k_is);(case qk1=>k_is);(case qt=>k_is);(case qa2=>k_is);(case qi2=>k_is);(case ql2=>k_is);(case qc2=>k_is);(case qk2=>k_is);(case qpg=>k_is);(case qhd=>k_is);(case qpo=>k_is);(case qsa=>k_is);(case qmk=>k_is);(case qkc=>k_is);(case qn1=>k_is);(case qn2=>k_is);(case qn3=>k_is);(case qn4=>k_is);(case qb=>intro us q;exact match us,q with | [_,_,_,_],_=>⟨_,rfl,rfl⟩);(case qe=>intro us q;exact match us,(show us.length=3 by rw[List.length_append] at q;exact Nat.succ.inj q) with | [_,_,_],_=>⟨_,rfl,rfl⟩);(case qbA=>intro _ _ _ _ _ _ us q;exact match us,q with | [_,_],_=>rfl)))
  (case b=>exact .of_eq rfl)


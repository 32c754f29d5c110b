import PyProof.Rows.All
import Wide.All
import OpenK.AllK
import Wide.FinOn
import Lean
import PyProof.EqAt
import PyProof.EqKinds
import PyProof.TupleCall
import PySem.Challenge.RW_allelse_k21_whole_ways_put_together
local macro_rules|`(#[$xs,*])=>`(⟨$xs,*⟩)
local macro_rules|`(#v[$xs,*])=>`(List.toArray [$xs,*])
set_option Elab.async false
set_option linter.all false
set_option maxRecDepth 100000
set_option maxHeartbeats 4000000
section
local macro_rules | `(tactic| show $e)=>`(tactic|refine $e)
local macro_rules | `(tactic| ext)=>`(tactic|decide)
local macro_rules | `(tactic| right)=>`(tactic|simp_all)
local macro_rules | `(tactic| fail"v") => `(tactic| (first | show Or.inl rfl | show Or.inr (Or.inl rfl) | show Or.inr (Or.inr rfl)))
local macro_rules | `(tactic| fail"l") => `(tactic| (first | show Or.inl rfl | show Or.inr rfl | assumption))
local macro_rules | `(tactic| fail"f") => `(tactic| (show ⟨rfl, rfl, rfl, by decide +kernel, rfl, by decide +kernel, by decide +kernel⟩))
local macro_rules | `(tactic| fail"c") => `(tactic| (show ⟨rfl, by decide +kernel, rfl⟩))
open PySem PySem.Spec
abbrev AA:=Value->Shared->Prop
abbrev AB:=List (Addr×Obj)
abbrev AE:=List (List Int×Addr)
abbrev AF:=List (List Int)
abbrev AG:=List Int
abbrev AH:=PySem.W.Frag
abbrev AI:=Str->Option Value
abbrev AJ:=Option Value
abbrev AK:=Array Value
abbrev AL:=Addr->Prop
abbrev AM:=List Str
abbrev AN:=List Value
abbrev AO:=List Expr
abbrev AQ:=Option Int
abbrev AR:=List Nat
abbrev AY:=List Addr
abbrev AZ:=Shared
abbrev Aa:=Program
abbrev Ab:=World
abbrev Ac:=FuncData
abbrev Ae:=Around
abbrev Ag(p:Program)(w:World)(A:Around){α:Type}:=@wpAny α (model p w) A
abbrev Ah(x:Str):Prop:=(x==("__debug__":Str))=false
abbrev Ai:Str:="self"
abbrev Aj:Str:="room"
abbrev Ak:Str:="book"
abbrev Am:Str:="held"
abbrev An:Str:="standing"
abbrev Ao:Str:="_law_pen_here"
abbrev Ap:Str:="_law_room_here"
abbrev Aq:Str:="_law_book_here"
abbrev Ar:Str:="_law_one"
abbrev As:Str:="_law_two"
abbrev At:Str:="_law_held_here"
abbrev Au:Str:="thing"
abbrev Av:Str:="_law_three"
abbrev Aw:Str:="_law_way"
abbrev Ax:Str:="leads"
abbrev Ay:Str:="_law_box"
abbrev Az:Str:="_law_at"
abbrev A1:Str:="_law_k"
abbrev A5:Str:="_law_given_here"
abbrev A6:Str:="_law_some"
abbrev A7:Str:="_law_other"
abbrev A8:Str:="_law_found"
abbrev A9:Str:="_law_worths"
theorem BA{α:Sort u}{a:α}:a=a:=rfl
namespace L2
open PyProof.Rows
abbrev aa:=@wpAny_bind
abbrev ab:=@List.length_map
abbrev ae:=@Heap.get?_push_of_some
abbrev af:=@wpAny_pure
abbrev ah:=@List.getElem?_eq_some_iff
abbrev ai:=@Nat.le_refl
abbrev aj:=@List.getD_eq_getElem?_getD
abbrev ak:=@List.getElem?_eq_getElem
abbrev am:=@List.length_append
abbrev ao:=@List.mem_cons_self
abbrev aq:=@List.mem_singleton
abbrev ar:=@Heap.get?_push_size
abbrev au:=@List.mem_map
abbrev av:=@List.mem_cons_of_mem
abbrev aw:=@List.getElem?_set_ne
abbrev ax:=@Heap.lt_size
abbrev ay:=@Bool.false_ne_true
abbrev az:=@List.mem_of_getElem?
abbrev aA:=@List.mem_cons
abbrev aB:=@List.map_cons
abbrev aC:=@List.getElem?_append_left
abbrev aD:=@List.getElem?_map
abbrev aE:=@List.append_assoc
abbrev aF:=@List.mem_append
abbrev aG:=@List.length_range
abbrev aH:=@Nat.le_trans
abbrev aI:=@List.map_map
abbrev aJ:=@Option.map_eq_some_iff
abbrev aK:=@List.length_cons
abbrev aL:=@Nat.zero_le
abbrev aM:=@List.mem_range
abbrev aN:=@Bool.false_eq_true
abbrev aO:=@Array.length_toList
abbrev aP:=@PySem.boot_len
abbrev aQ:=@Nat.ne_of_lt
abbrev aR:=@List.map_append
abbrev aS:=@Int.toNat_natCast
abbrev aT:=@Array.getElem?_eq_getElem
abbrev aU:=@List.mem_append_right
abbrev aV:=@List.getElem?_set_self
abbrev aW:=@List.getElem?_append_right
abbrev aX:=@List.take_append_drop
abbrev aY:=@List.size_toArray
abbrev aZ:=@wpAny_call_entry
abbrev a6:=@Nat.lt_of_le_of_lt
abbrev a8:=@decide_eq_true
abbrev a9:=@Nat.lt_of_lt_of_le
abbrev bf:=@List.eq_nil_of_length_eq_zero
abbrev bg:=@List.take_of_length_le
abbrev bh:=@PassesOwn.never
abbrev bi:=@List.pairwise_cons
abbrev bj:=@Bool.and_eq_true
abbrev bm:=@PyProof.Rows.boot_tuple
abbrev bn:=@wpAny_holding
abbrev bp:=@of_decide_eq_true
abbrev bq:=@List.length_take
abbrev br:=@Array.toList_append
abbrev bt:=@List.mem_iff_getElem
abbrev bu:=@List.pairwise_append
abbrev bv:=@List.dropLast_concat_getLast
abbrev bw:=@List.length_singleton
abbrev bz:=@Heap.SameBut.update
abbrev bB:=@List.length_reverse
abbrev bC:=@wpAny_newObj_type
abbrev bD:=@List.getElem_mem
abbrev bE:=@decide_eq_false
abbrev bF:=@Heap.get?_update_self
abbrev bG:=@Classical.byContradiction
abbrev bH:=@List.mem_append_left
abbrev bI:=@List.mem_of_mem_take
abbrev bJ:=@List.take_length
abbrev bK:=@wpAny_setState_of
abbrev bL:=@List.getElem?_cons_succ
abbrev bM:=@wpAny_mono
abbrev bN:=@List.pairwise_iff_getElem
abbrev bO:=@Heap.get?_update_other
abbrev bP:=@List.map_congr_left
abbrev bQ:=@wpS_forRange
abbrev bR:=@List.length_set
abbrev bS:=@Heap.size_push
abbrev bT:=@wpAny_setField
abbrev bU:=@List.mem_reverse
abbrev bV:=@wpAny_askSetting
abbrev bW:=@List.not_mem_nil
abbrev bX:=@decide_eq_false_iff_not
abbrev bY:=@Array.toList_push
abbrev bZ:=@Array.mem_toList_iff
abbrev b5:=@PySem.W.kia_one
abbrev b6:=@List.drop_eq_getElem_cons
abbrev b7:=@wpAny_field
abbrev b8:=@List.getElem?_take_of_lt
abbrev b9:=@Array.getElem?_toList
abbrev cb:=@PySem.F.slot_dict_keyiterator_next
abbrev ce:=@Option.some.inj
abbrev cg:=@PyProof.Rows.callWith_type1
abbrev ci:=@Int.emod_lt_of_pos
abbrev cj:=@Obj.data_mapFields
abbrev ck:=@List.all_eq_true
abbrev cm:=@eq_of_beq
abbrev cq:=@List.filterMap_cons
abbrev cr:=@wpAny_truthy_bool
abbrev cw:=@List.take_sublist
abbrev cy:=@decide_eq_true_eq
abbrev cz:=@List.pairwise_map
abbrev cA:=@Bool.eq_iff_iff
abbrev cB:=@List.append_nil
abbrev cC:=@List.nodup_cons
abbrev cD:=@List.find?_cons
abbrev cE:=@Nat.not_lt_zero
abbrev cF:=@List.getElem_range
abbrev cG:=@PyProof.Rows.boot_sorted
abbrev cH:=@sizeLine_eq
abbrev cI:=@beq_self_eq_true
abbrev cJ:=@wpAny_typeNameOfWhole_keyiter
abbrev cK:=@List.mem_of_mem_drop
abbrev cL:=@wpAny_attempt
abbrev cN:=@wpAny_seqItems
abbrev cO:=@PyProof.Rows.F.plain_set_update_loop
abbrev cP:=@List.reverse_cons
abbrev cQ:=@Nat.lt_trichotomy
abbrev cR:=@List.mem_filter
abbrev cS:=@Int.emod_nonneg
abbrev cT:=@F.slot_zip_next
abbrev cU:=@F.slot_tuple_iterator_next
abbrev cV:=@Array.getElem?_eq_some_iff
abbrev cW:=@Nat.lt_succ_self
abbrev cY:=@wpAny_isInstance
abbrev cZ:=@Nat.lt_irrefl
abbrev c7:=@Nat.le_of_lt
abbrev c8:=@wpAny_standAt
abbrev c9:=@wpAny_pyIter_tuple
abbrev dg:=@wpAny_rule
abbrev dh:=@wpAny_passesOwn
abbrev di:=@AutoSeq1.wpAny_loadPart'
abbrev dj:=@Nat.le_of_lt_succ
abbrev dn:=@PySem.mem_of_lookup
abbrev dq:=@List.any_cons
abbrev du:=@Int.le_refl
abbrev dw:=@List.length_drop
abbrev dB:=@List.getElem_map
abbrev dC:=@List.mem_filterMap
abbrev dD:=@Obj.isFreed_of_fields
abbrev dE:=@wpAny_pyIter_list
abbrev dF:=@List.ext_getElem?
abbrev dG:=@Array.getElem_mem
abbrev dH:=@wpS_modify
abbrev dJ:=@List.reverse_perm
abbrev dL:=@Nat.pow_le_pow_right
abbrev dM:=@isSubtype_stop
abbrev dN:=@List.drop_zero
abbrev dO:=@PySem.F.args_dict_keyiterator_next_1
abbrev dP:=@PyProof.Rows.F.entry_set_update_loop
abbrev dQ:=@List.getLast?_eq_getElem?
abbrev dR:=@Nat.succ_le_succ
abbrev dS:=@List.ext_getElem
abbrev dU:=@List.nodup_range
abbrev dW:=@List.map_reverse
abbrev dX:=@PySem.F.entry_dict_keyiterator_next
abbrev dY:=@Nat.ne_of_gt
abbrev dZ:=@PySem.F.args_tuple_add_2
abbrev ee:=@wpAny_Call_Name_kw
abbrev ef:=@wpAny_specialOf
abbrev eh:=@PySem.F.entry_tuple_add
abbrev ek:=@List.all_cons
abbrev en:=@List.forIn_cons
abbrev et:=@Array.append_empty
abbrev eu:=@PySem.F.plainAttrs_list
abbrev ez:=@Nat.min_eq_left
abbrev eA:=@Int.natCast_mul
abbrev eC:=@List.getElem?_drop
abbrev eD:=@Option.bind_eq_some_iff
abbrev eE:=@wpAny_pyNext_list_item
abbrev eF:=@PySem.F.slot_tuple_add
abbrev eG:=@PyProof.Rows.boot_list
abbrev eI:=@List.filter_eq_nil_iff
abbrev eJ:=@Nat.le_succ
abbrev eK:=@Obj.cls_mapFields
abbrev eL:=@Bool.not_eq_true'
abbrev eM:=@List.drop_sublist
abbrev eO:=@F.args_zip_next_1
abbrev eP:=@List.nodup_append
abbrev eQ:=@List.drop_drop
abbrev eR:=@wpAny_pyNext_list_end
abbrev eS:=@codeAny_mono
abbrev eU:=@List.map_nil
abbrev eV:=@wpAny_typeOf
abbrev eW:=@List.Perm.append_left
abbrev eX:=@List.pairwise_reverse
abbrev eY:=@Nat.zero_add
abbrev eZ:=@PyProof.Rows.boot_abs
abbrev ff:=@List.getElem_inj
abbrev fg:=@Array.toList_inj
abbrev fj:=@F.entry_zip_next
abbrev fm:=@wpAny_pyIter_zip
abbrev fq:=@List.take_append_of_le_length
abbrev fw:=@List.drop_eq_nil_iff
abbrev fB:=@Around.under_plainId
abbrev fD:=@F.args_tuple_iterator_next_1
abbrev fE:=@Bool.and_true
abbrev fF:=@wpAny_execs_nil
abbrev fG:=@PySem.W.plainGet_of
abbrev fH:=@List.of_mem_zip
abbrev fJ:=@F.entry_tuple_iterator_next
abbrev fK:=@List.reverse_append
abbrev fL:=@List.take_left'
abbrev fM:=@List.length_pos_iff
abbrev fN:=@wpAny_setEntries_of
abbrev fO:=@Int.toNat_of_nonneg
abbrev fP:=@codeAny_builtin
abbrev fQ:=@assignInOrder_cons
abbrev fR:=@PySem.W.callWith_K
abbrev fS:=@tupleKind_room_in1
abbrev fT:=@List.filterMap_map
abbrev fU:=@Nat.sub_self
abbrev fV:=@Bool.not_eq_false'
abbrev fW:=@Nat.succ_pos
abbrev fX:=@List.nodup_nil
abbrev fY:=@List.Perm.refl
abbrev fZ:=@wpAny_fieldsOf
abbrev gb:=@Option.isSome_map
abbrev gc:=@List.getElem_take
abbrev gd:=@bne_self_eq_false
abbrev ge:=@Nat.mod_lt
abbrev gf:=@Nat.lt_succ_of_le
abbrev gg:=@wpAny_pyIter_slot
abbrev gh:=@wpAny_dictEntries
abbrev gk:=@Nat.lt_succ_of_lt
abbrev gl:=@List.Pairwise.imp
abbrev gm:=@Paired.length
abbrev gn:=@wpAny_of_eq
abbrev gq:=@wpAny_handled
abbrev gr:=@listUpdate_at
abbrev gt:=@Bool.not_true
abbrev gu:=@noFill_tuple_add
abbrev gv:=@Nat.div_eq_of_lt
abbrev gx:=@Array.toList_map
abbrev gy:=@wpAny_forIn_list
abbrev gA:=@Nat.succ_mul
abbrev gB:=@Nat.add_zero
abbrev Key:=Sum Int Str
def zgp:Key->Value->Bool
 | .inl k,v=>Value.isInt k v
 | .inr x,v=>Value.isStrOf x v
def keyH (w:Ab):Key->Int
 | .inl k=>hashInt k
 | .inr x=>hashStr w x
theorem zS:∀ {k:Key} {v:Value},zgp k v=true->(∃i t,k=Sum.inl i/\v=Value.int i t)\/(∃x t,k=Sum.inr x/\v=Value.str x t)
 | .inl i,v,h=>by obtain⟨t,e⟩:=Value.isInt_shape (k:=i) (v:=v) h;show .inl #[i,t,BA,e]
 | .inr x,v,h=>by obtain⟨t,e⟩:=Value.isStrOf_shape (x:=x) (v:=v) h;show .inr #[x,t,BA,e]
def zff (i:Int)(t:Tok):zgp (.inl i) (.int i t)=true:=by simp[zgp,Value.isInt]
def zjO (x:Str)(t:Tok):zgp (.inr x) (.str x t)=true:=by simp[zgp,Value.isStrOf]
def zr0 (a b:Int):decide ((Sum.inl a:Key)=Sum.inl b)=(a==b):=by grind
def zr3 (a b:Str):decide ((Sum.inr a:Key)=Sum.inr b)=decide (a=b):=by grind
def zr1 (a:Int)(b:Str):decide ((Sum.inl a:Key)=Sum.inr b)=false:=rfl
def zr2 (a:Str)(b:Int):decide ((Sum.inr a:Key)=Sum.inl b)=false:=rfl
def zT (prog:Aa)(w:Ab):PySem.KeyKind prog w Key where
 is:=zgp
 hash:=keyH w
 inj:=λv a b I F=>by
  rcases zS I with ⟨i,t,rfl,rfl⟩ | ⟨x,t,rfl,rfl⟩;rcases zS F with ⟨j,u,rfl,e⟩ | ⟨y,u,rfl,e⟩;injection e with q _;rw[q];show nomatch e;rcases zS F with ⟨j,u,rfl,e⟩ | ⟨y,u,rfl,e⟩;show nomatch e;injection e with q _;rw[q]
 byValue:=λk v h=>by rcases zS h with ⟨i,t,rfl,rfl⟩ | ⟨x,t,rfl,rfl⟩ <;> rfl
 pyHash:=λB h=>by
  rcases zS B with ⟨i,t,rfl,rfl⟩ | ⟨x,t,rfl,rfl⟩;show wpAny_pyHash_int h;show wpAny_pyHash_str h
 eqBool:=λJ B h=>by
  rcases zS J with ⟨i,t,rfl,rfl⟩ | ⟨x,t,rfl,rfl⟩;rcases zS B with ⟨j,u,rfl,rfl⟩ | ⟨y,u,rfl,rfl⟩;rw[zr0] at h;show wpAny_eqBool_int h;rw[zr1] at h;show SeqAt.EqAt.int_str i t y u _ _ _ _ h;rcases zS B with ⟨j,u,rfl,rfl⟩ | ⟨y,u,rfl,rfl⟩;rw[zr2] at h;show SeqAt.EqAt.str_int x t j u _ _ _ _ h;rw[zr3] at h;show wpAny_eqBool_str h
 «strs»:=λk x t v h=>by
  rcases zS h with ⟨i,u,rfl,e⟩ | ⟨y,u,rfl,e⟩;show nomatch e
  ·injection e with q _;subst q;cases v <;> rfl
def zgs (prog:Aa)(w:Ab)(i:Int)(t:Tok):(zT prog w).is (.inl i) (.int i t)=true:=zff i t
def zgt (prog:Aa)(w:Ab)(x:Str)(t:Tok):(zT prog w).is (.inr x) (.str x t)=true:=zjO x t
inductive V where
 | non | bl (b:Bool) | int (i:Int) | str (x:Str) | byt (b:Array UInt8) | flt (b:UInt64) | ref (a:Addr) | ty (n:String)
 deriving DecidableEq
abbrev AT:=List V
def yo:V->Value->Prop
 | .non,u=>u=Value.none
 | .bl b,u=>u=Value.bool b
 | .int i,u=>∃t,u=Value.int i t
 | .str x,u=>∃t,u=Value.str x t
 | .byt b,u=>∃t,u=Value.bytes b t
 | .flt b,u=>∃t,u=Value.float b t
 | .ref a,u=>u=Value.ref a
 | .ty n,u=>u=Value.type n
abbrev yb:AT->AN->Prop:=Paired yo
def yb.length(r:yb xs us):xs.length=us.length:=gm r
theorem yb.get:∀ {xs:AT} {us:AN} {i:Nat} {x:V},yb xs us->xs[i]?=some x->∃u,us[i]?=some u/\yo x u
 | _,_,_,_,.nil,e=>by simp at e
 | _,_,0,_,.cons r _,e=>by right
 | _,_,i+1,x,.cons _ t,e=>by
  obtain⟨u,h1,h2⟩:=yb.get (i:=i) (x:=x) t (by simpa using e);right
theorem yb.set(r:yo x u):∀ {xs:AT} {us:AN} (i:Nat),yb xs us->yb (xs.set i x) (us.set i u)
 | _,_,_,.nil=>.nil
 | _,_,0,.cons _ t=>.cons r t
 | _,_,i+1,.cons q t=>.cons q (yb.set r i t)
theorem yb.append:∀ {xs ys:AT} {us q:AN},yb xs us->yb ys q->yb (xs++ys) (us++q)
 | _,_,_,_,.nil,s=>s
 | _,_,_,_,.cons r t,s=>.cons r (yb.append t s)
theorem yb.take:∀ {xs:AT} {us:AN} (n:Nat),yb xs us->yb (xs.take n) (us.take n)
 | _,_,0,_=>.nil
 | _,_,_+1,.nil=>.nil
 | _,_,n+1,.cons r t=>.cons r (yb.take n t)
theorem yb.drop:∀ {xs:AT} {us:AN} (n:Nat),yb xs us->yb (xs.drop n) (us.drop n)
 | _,_,0,r=>r
 | _,_,_+1,.nil=>.nil
 | _,_,n+1,.cons _ t=>yb.drop n t
def zfV:Option V->AJ->Prop
 | some v,some u=>yo v u
 | none,none=>True
 | _,_=>False
def KV {κ:Type}:List (κ×V)->List (κ×Value)->Prop:=Paired λ(p:κ×V) (q:κ×Value)=>p.1=q.1/\yo p.2 q.2
def kV:Key->V
 | .inl i=>.int i
 | .inr x=>.str x
inductive HO where
  | lst (xs:AT)
  | tup (xs:AT)
  | dK (BC:List (Key×V)) | dT (BC:List (List Key×V))
  | set (S:Int->Bool) (n:Nat)
  | ins (C dx:Addr) (fs:List (Str×V))
  | own (x:Addr)
  | xd (fs:List (Str×V))
  | met (f x:Addr)
  | rng (lo hi:Int)
  | frz (o:Obj) (u:HO)
  | tbl (ps:AK)
  | ext (φ:Heap->Prop)
abbrev Hp:=Addr->Option HO
def upd (H:Hp)(a:Addr)(o:HO):Hp:=λb=>if b=a then some o else H b
def zh:upd H a o a=some o:=by unfold upd;rw[if_pos rfl]
def zf(h:b≠a):upd H a o b=H b:=by unfold upd;rw[if_neg h]
def zeC:upd (upd H a o) a u=upd H a u:=by funext b;unfold upd;split <;> rfl
def zml {H:Hp}{a b:Addr}{o u:HO}(h:H a=some o)(h':H b=some u)(d:o≠u):a≠b:=by grind
def zc {H:Hp}{a b:Addr}{o:HO}(h:H a=some o)(h':H b=none):a≠b:=by grind
def zaq (h:Heap)(a:Addr)(items:AK):Prop:=∃o,h.get? a=some o/\o.cls = .type "tuple" /\ (∃n,o.data = .seq items n)/\o.dict=none
def zaq.tup(x:zaq h a items):IsTup h a items:=let ⟨o,h1,h2,h3,_⟩:=x;#[o,h1,h2,h3]
def zaq.lt(x:zaq h a items):a<h.objs.size:=x.tup.lt
def zaq.new (h:Heap)(items:AK):zaq (h.push { cls:=.type "tuple",data:=.seq items }) h.objs.size items:=#[_,ar _ BA,BA,#[_,BA],BA]
section
variable (P:Aa)(w:Ab)
def yd (H:Hp)(h:Heap)(a:Addr):HO->Prop
 | .lst xs=>xs.length<=sizeLine/\∃ (B:AN) (n:Nat),yb xs B/\h.get? a=some { cls:=.type "list",data:=.seq B.toArray n }
 | .tup xs=>xs.length<=sizeLine/\∃B:AN,yb xs B/\zaq h a B.toArray
 | .dK BC=>BC.length<=sizeLine/\(a==sysModules)=false/\∃vs,KV BC vs/\h.DictOf (zT P w) a vs
 | .dT BC=>BC.length<=sizeLine/\(a==sysModules)=false/\∃xs:List (List Key×Addr×Value),
   Paired (λ(p:List Key×V) (q:List Key×Addr×Value)=>p.1=q.1/\H q.2.1=some (.tup (p.1.map kV))/\yo p.2 q.2.2) BC xs/\
   ∃o es I,h.get? a=some o/\o.ExactDict/\o.data = .dict es I/\es.toList=xs.map (entryOfKey (tupleKind (zT P w)))/\(xs.map (·.1)).Nodup
 | .set S n=>h.SetOf (intKind P w) a S n
 | .ins C dx fs=>H dx=some (.own a)/\fs.length<=1000/\dx≠a/\h.get? a=some (PySem.W.instObj C dx)/\
   ∃mA,h.Ns1 dx mA/\(∀f,zfV (fs.lookup f) (mA f))/\PySem.Within mA (fs.map (·.1))
 | .own _=>∃o,h.get? a=some o
 | .xd fs=>∃mA,h.Ns1 a mA/\∀f,zfV (fs.lookup f) (mA f)
 | .rng lo hi=>∃t u v,h.get? a=some { cls:=.type "range",data:=.fields #v[.int lo t,.int hi u,.int 1 v] }
 | .frz o u=>h.get? a=some o/\yd H h a u
 | .tbl ps=>h.get? a=some { cls:=.none,data:=.fields ps }
 | .met f x=>h.get? a=some (PySem.W.methodObj (.ref f) (.ref x))
 | .ext F=>F h/\(∃o,h.get? a=some o)/\∀h1 h2:Heap,F h1->(∀o,h1.get? a=some o->h2.get? a=some o)->F h2
def HOk (H:Hp)(h:Heap):Prop:=∀a o,H a=some o->yd P w H h a o
end
section
variable {P:Aa}{w:Ab}{H H':Hp}{h h':Heap}{a:Addr}{o:HO}
def yd.lt (x:yd P w H h a o):a<h.objs.size:=by
 cases o with
 | lst xs=>obtain⟨_,_,_,_,e⟩:=x;show ax e
 | tup xs=>obtain⟨_,_,_,p⟩:=x;show p.lt
 | dK BC=>obtain⟨_,_,_,_,o,_,_,e,_⟩:=x;show ax e
 | dT BC=>obtain⟨_,_,_,_,o,_,_,e,_⟩:=x;show ax e
 | set S n=>obtain⟨o,_,_,_,e,_⟩:=x;show ax e
 | ins C dx fs=>obtain⟨_,_,_,e,_⟩:=x;show ax e
 | own y=>obtain⟨_,e⟩:=x;show ax e
 | xd fs=>obtain⟨_,⟨_,_,_,e,_⟩,_⟩:=x;show ax e
 | rng lo hi=>obtain⟨_,_,_,e⟩:=x;show ax e
 | frz ob u=>obtain⟨e,_⟩:=x;show ax e
 | tbl ps=>show ax (show h.get? a=some _ from x)
 | met f y=>show ax (show h.get? a=some _ from x)
 | ext q=>obtain⟨_,⟨_,e⟩,_⟩:=x;show ax e
theorem Paired.mapP {α B:Type}{F BF:α->B->Prop}:∀ {l₁:List α} {q:List B},Paired F l₁ q->(∀a b,F a b->BF a b)->Paired BF l₁ q
 | _,_,.nil,_=>.nil
 | _,_,.cons r t,f=>.cons (f _ _ r) (Paired.mapP t f)
def Paired.imp' {α B:Type}{F BF:α->B->Prop}(f:∀a b,F a b->BF a b){l₁:List α}{q:List B}(r:Paired F l₁ q):Paired BF l₁ q:=Paired.mapP r f
def yd.stay (x:yd P w H h a o)(k:∀b u,(b=a\/H b=some (.own a))->h.get? b=some u->h'.get? b=some u)
  (J:∀b,H b=some (.own a)->H' b=some (.own a)) (O:∀b xs,H b=some (.tup xs)->H' b=some (.tup xs)):yd P w H' h' a o:=by
 induction o with
 | lst xs=>obtain⟨z,F,n,r,e⟩:=x;show#[z,F,n,r,k _ _ (.inl BA) e]
 | tup xs=>obtain⟨z,F,r,ob,e,c⟩:=x;show#[z,F,r,ob,k _ _ (.inl BA) e,c]
 | dK BC=>obtain⟨z,y,vs,r,ob,es,B,e,c⟩:=x;show#[z,y,vs,r,ob,es,B,k _ _ (.inl BA) e,c]
 | dT BC=>
  obtain⟨z,y,xs,r,ob,es,B,e,c⟩:=x;show#[z,y,xs,Paired.mapP r λp q z=>#[z.1,O _ _ z.2.1,z.2.2],ob,es,B,k _ _ (.inl BA) e,c]
 | set S n=>obtain⟨ob,es,B,t,e,c⟩:=x;show#[ob,es,B,t,k _ _ (.inl BA) e,c]
 | ins C dx fs=>
  obtain⟨d,z,U,e,mA,⟨I,es,B,Y,c⟩,r⟩:=x;show#[J _ d,z,U,k _ _ (.inl BA) e,mA,#[I,es,B,k _ _ (.inr d) Y,c],r]
 | own y=>obtain⟨ob,e⟩:=x;show#[ob,k _ _ (.inl BA) e]
 | xd fs=>obtain⟨mA,⟨I,es,B,e,c⟩,r⟩:=x;show#[mA,#[I,es,B,k _ _ (.inl BA) e,c],r]
 | rng lo hi=>obtain⟨t,u,v,e⟩:=x;show#[t,u,v,k _ _ (.inl BA) e]
 | frz ob u Z=>obtain⟨e,q⟩:=x;show#[k _ _ (.inl BA) e,Z q]
 | tbl ps=>
  have e:h.get? a=some { cls:=.none,data:=.fields ps }:=x;change h'.get? a=some { cls:=.none,data:=.fields ps };show k a _ (.inl BA) e
 | met f y=>
  have e:h.get? a=some (PySem.W.methodObj (.ref f) (.ref y)):=x;change h'.get? a=some (PySem.W.methodObj (.ref f) (.ref y));show k a _ (.inl BA) e
 | ext φ=>obtain⟨p,⟨o,e⟩,st⟩:=x;show#[st _ _ p λo q=>k _ _ (.inl BA) q,#[o,k _ _ (.inl BA) e],st]
def HOk.lt (x:HOk P w H h)(e:H a=some o):a<h.objs.size:=(x a o e).lt
def HOk.fresh (x:HOk P w H h)(e:h.objs.size<=a):H a=none:=by
 cases q:H a with
 | none=>rfl
 | some u=>show absurd (a9 (x.lt q) e) (cZ _)
def HOk.kept (x:HOk P w H h)(k:∀b u,h.get? b=some u->h'.get? b=some u):HOk P w H h':=λa o e=>
 (x a o e).stay (λb u _ q=>k b u q) (λ_ q=>q) λ_ _ q=>q
def HOk.laid (x:HOk P w H h)(k:∀b u,h.get? b=some u->h'.get? b=some u)(I:h.objs.size<=a)(B:yd P w (upd H a o) h' a o):HOk P w (upd H a o) h':=λb u e=>by
 have hn:=x.fresh I;by_cases F:b=a;subst F;rw[zh] at e;cases e;show B;rw[zf F] at e;show (x b u e).stay (λc v _ q=>k c v q) (λc q=>by rw[zf (zc q hn)];show q) λc xs q=>by rw[zf (zc q hn)];show q
end
def Rd (H:Hp)(a:Addr)(u:HO):Prop:=H a=some u\/∃o,H a=some (.frz o u)
def Rd.ok(r:Rd H a u)(x:HOk P w H h):yd P w H h a u:=by
 rcases r with r | ⟨o,r⟩;show x a u r;obtain⟨_,q⟩:=x a _ r;show q
def Mut:Option HO->Prop
 | some (.lst _)=>True
 | some (.dK _)=>True
 | some (.dT _)=>True
 | some (.set _ _)=>True
 | some (.ins _ _ _)=>True
 | some (.ext _)=>True
 | _=>False
section
variable {P:Aa}{w:Ab}{H:Hp}{h h':Heap}{x e:Addr}{o':HO}
def HOk.write (ok:HOk P w H h)(I:Mut (H x))(he:e=x\/H e=some (.own x))(k:∀b u,b≠e->h.get? b=some u->h'.get? b=some u)(J:∃u,h'.get? e=some u)
  (O:yd P w (upd H x o') h' x o'):HOk P w (upd H x o') h':=λb u q=>by
 have B:∀c y,H c=some (.own y)->c≠x:=λc y r z=>by subst z;rw[r] at I;show I
 have F:∀c xs,H c=some (.tup xs)->c≠x:=λc xs r z=>by subst z;rw[r] at I;show I
 by_cases Y:b=x;subst Y;rw[zh] at q;cases q;show O;rw[zf Y] at q;by_cases U:b=e
 have Z:H b=some (.own x):=by
  grind
 rw[q] at Z;cases Z;obtain⟨v,hv⟩:=J;show#[v,by rw[U];show hv];show (ok b u q).stay (λc v hc r=>k c v ?_ r) (λc r=>by rw[zf (B c b r)];show r) λc xs r=>by rw[zf (F c xs r)];show r
 grind
end
structure Un (fs ex:AY)(H H':Hp)(h h':Heap):Prop where
 keep:∀b o,h.get? b=some o->H b=none->b∉fs->b∉ex->h'.get? b=some o
 slot:∀b o,h.get? b=some o->H b=none->b∈fs->b∉ex->∃sl,h'.get? b=some { o with slots:=sl }
 free:∀b o,h.get? b=some o->H b=none->b∉ex->H' b=none
 there:∀b o,h.get? b=some o->b∉ex->∃o',h'.get? b=some o'
 tups:∀b xs,H b=some (.tup xs)->H' b=some (.tup xs)
 frzs:∀b o u,H b=some (.frz o u)->H' b=some (.frz o u)
 tbls:∀b ps,H b=some (.tbl ps)->∃more,H' b=some (.tbl (ps++more))
section
variable {fs fs' ex ex':AY}{H H1 H2:Hp}{h h1 h2 h':Heap}{a x e:Addr}{o:HO}
def Un.any(u:Un fs ex H H1 h h1)(q:h.get? b=some ob)(n:H b=none)(B:b∉ex):∃I,h1.get? b=some { ob with slots:=I }:=by
 by_cases F:b∈fs;show u.slot b ob q n F B;show#[ob.slots,u.keep b ob q n F B]
def Un.kept (k:∀b u,h.get? b=some u->h'.get? b=some u):Un fs ex H H h h':=
 #[λb ob q _ _ _=>k b ob q,λb ob q _ _ _=>#[ob.slots,k b ob q],λ_ _ _ n _=>n,λb ob q _=>#[ob,k b ob q],λ_ _ q=>q,λ_ _ _ q=>q,λ_ ps q=>#[#v[],by rw[q];simp]]
def Un.refl:Un fs ex H H h h:=Un.kept λ_ _ q=>q
def Un.laid (k:∀b u,h.get? b=some u->h'.get? b=some u)(B:h.objs.size<=a)(hn:H a=none):Un fs ex H (upd H a o) h h' where
 keep:=λb u q _ _ _=>k b u q
 slot:=λb u q _ _ _=>#[u.slots,k b u q]
 free:=λb u q n _=>by rw[zf (aQ (a9 (ax q) B))];show n
 there:=λb u q _=>#[u,k b u q]
 tups:=λb xs q=>by rw[zf (zc q hn)];show q
 frzs:=λb u xs q=>by rw[zf (zc q hn)];show q
 tbls:=λb ps q=>#[#v[],by rw[zf (zc q hn),q];simp]
def Un.write (B:Mut (H x))(U:e=x\/H e=some (.own x))(k:∀b u,b≠e->h.get? b=some u->h'.get? b=some u)(J:∃u,h'.get? e=some u):Un fs ex H (upd H x o) h h':=by
 have O:∀b,H b=none->b≠x:=λb n z=>by subst z;rw[n] at B;show B
 have I:∀b,H b=none->b≠e:=λb n z=>by grind
 have F:∀b u,H b=some u->¬ Mut (some u)->b≠x:=λb u q nm z=>by subst z;rw[q] at B;show nm B
 show#[λb u q n _ _=>k b u (I b n) q,λb u q n _ _=>#[u.slots,k b u (I b n) q],λb u q n _=>by rw[zf (O b n)];show n,λb u q _=>?_,
  λb xs q=>by rw[zf (F b _ q λz=>z)];show q,λb u xs q=>by rw[zf (F b _ q λz=>z)];show q,λb ps q=>#[#v[],by rw[zf (F b _ q λz=>z),q];simp]]
 grind
end
def trk (h:Heap)(H:Hp):AY:=(List.range h.objs.size).filter λa=>(H a).isSome
def zlQ (h:Heap)(H:Hp):Heap:=PySem.W.hideAll h (trk h H)
def zjx (h:Heap)(H:Hp):(zlQ h H).objs.size=h.objs.size:=PySem.W.hideAll_size _ _
def zlR(e:h.get? b=some o)(n:H b=none):(zlQ h H).get? b=some o:=
 PySem.W.hideAll_get _ e λB=>by
  have q:(H b).isSome=true:=(cR.mp B).2;right
def zpx(e:(zlQ h H).get? b=some o):h.get? b=some o/\H b=none:=by
 have B:h.get? b=some o:=PySem.W.of_hideAll (trk h H) e;show#[B,?_]
 cases q:H b with
 | none=>rfl
 | some x=>
  have F:b∈trk h H:=cR.mpr #[aM.mpr (ax B),by simp[q]];have z:(zlQ h H).get? b=none:=PySem.W.hideAll_none (trk h H) F;grind
def zol (g h:Heap)(L:Addr):AB:=(List.range h.objs.size).filterMap λa=>if a=L\/(g.get? a).isSome=true then none else (h.get? a).map λo=>(a,o)
def zz (g h:Heap)(L d:Addr):AB:=(zol g h L).filter λp=>decide (p.1≠d)
structure Mod (K:AH)(mg:AI)(base:Heap):Prop where
 kin:K.In base
 glob:base.Ns mainGlobals mg
 blt:∃mb,base.Ns builtinsNs mb/\∀x:Str,x ≠ "__name__" -> mb x=bootBuiltins x
 nolimit:base.NoLimit
structure Cx where
 prog:Aa
 w:Ab
 K:AH
 mg:AI
 base:Heap
 A:Ae
 N:AM
 s₀:AZ
 H₀:Hp
 env:Env
 outer:List Env
 stack:List Env
 ex:AY
 fn:Str->Bool
 calm:Bool
 pn:AB
 xe:AA
abbrev Af (X:Cx){α:Type}:=@wpAny α (model X.prog X.w) X.A
def frs (l:List Env):AY:=l.filterMap (·.frame)
abbrev Cx.fs (X:Cx):AY:=frs X.outer
def Vis (q:Scope)(x:Str):Prop:=q.names.lookup x=some .local\/q.names.lookup x=some .cell\/q.names.lookup x=some .free
def Loc (q:Scope)(x:Str):Prop:=q.names.lookup x=some .local\/q.names.lookup x=some .cell
def Look (env:Env)(h:Heap)(m:AI)(x:Str)(u:Value):Prop:=
 (env.kindOf x=some .local/\m x=some u)\/((env.kindOf x=some .cell\/env.kindOf x=some .free)/\∃c,env.cells.lookup x=some c/\h.IsCell c (some u))
structure Cx.Ok (X:Cx):Prop where
 mod:Mod X.K X.mg X.base
 kind:X.env.scope.kind = .function
 glob:X.env.globals=mainGlobals
 blt:X.env.builtins=builtinsNs
 above:X.s₀.heap.objs.size<=X.env.locals
 inj:∀x y c,X.env.cells.lookup x=some c->X.env.cells.lookup y=some c->x=y
 has:∀x,(X.env.kindOf x=some .cell\/X.env.kindOf x=some .free)->∃c,X.env.cells.lookup x=some c
 cab:∀x c,X.fn x=true->X.env.cells.lookup x=some c->X.s₀.heap.objs.size<=c
 hd:X.calm=true->X.A.handled=none
 frames:X.A.frames=some X.stack
 stk:X.stack=X.outer\/(X.stack=X.env::X.outer/\X.env.frame=some X.env.locals)
 exf:∀b∈X.ex,b≠X.env.locals/\∀x c,X.env.cells.lookup x=some c->c≠b
 bs:∀b o,X.base.get? b=some o->X.s₀.heap.get? b=some o/\X.H₀ b=none
 bsz:X.base.objs.size<=X.s₀.heap.objs.size
 noex:∀b o,X.base.get? b=some o->b∉X.ex
 exfs:∀b∈X.ex,b∉X.fs
 funs:X.s₀.heap.FunFrames X.base X.outer
 frf:∀b∈X.fs,X.H₀ b=none
structure Inv (X:Cx)(BB:AB)(G:List (Option V))(H:Hp)(s:AZ):Prop where
 ok:X.Ok
 os:s.os=X.s₀.os
 bare:AllBare s.gens
 base:Un X.fs X.ex X.H₀ H X.s₀.heap s.heap
 loc:∃m,s.heap.Ns X.env.locals m/\∀ (i:Nat) (x:Str) (v:V),X.N[i]?=some x->G[i]?=some (some v)->Vis X.env.scope x->∃u,yo v u/\Look X.env s.heap m x u
 cell:∀x c,X.env.cells.lookup x=some c->∃v,s.heap.IsCell c v
 free:H X.env.locals=none
 freeC:∀x c,X.env.cells.lookup x=some c->H c=none
 pin:∀p∈X.pn++BB,s.heap.get? p.1=some p.2/\H p.1=none/\p.1≠X.env.locals/\p.1∉X.fs/\∀v,p.2.data≠.cell v
 hok:HOk X.prog X.w H s.heap
 len:G.length=X.N.length
section
variable {X:Cx}{BB:AB}{G:List (Option V)}{H H':Hp}{s:AZ}{h':Heap}
def Cx.Ok.nofr(q:X.Ok)(e:X.base.get? b=some o):b∉X.fs:=λB=>by
 have:=(q.funs.mem B).1;grind
def Inv.bs (I:Inv X BB G H s):∀b o,X.base.get? b=some o->s.heap.get? b=some o/\H b=none:=λb o e=>
 #[I.base.keep b o (I.ok.bs b o e).1 (I.ok.bs b o e).2 (I.ok.nofr e) (I.ok.noex b o e),I.base.free b o (I.ok.bs b o e).1 (I.ok.bs b o e).2 (I.ok.noex b o e)]
def Inv.bk (I:Inv X BB G H s):∀b o,X.base.get? b=some o->s.heap.get? b=some o:=λb o e=>(I.bs b o e).1
def Inv.mod (I:Inv X BB G H s):Mod X.K X.mg X.base:=I.ok.mod
def Inv.kIn (I:Inv X BB G H s):X.K.In s.heap:=I.ok.mod.kin.keeps I.bk
def Inv.lt (I:Inv X BB G H s):X.env.locals<s.heap.objs.size:=let ⟨_,hn,_⟩:=I.loc;hn.lt
def Inv.sz (I:Inv X BB G H s):X.s₀.heap.objs.size<=s.heap.objs.size:=aH I.ok.above (c7 I.lt)
def Inv.nofs (I:Inv X BB G H s){a:Addr}(h:s.heap.objs.size<=a):a∉X.fs:=λq=>by obtain⟨_,o,B,_⟩:=I.ok.funs.mem q;show absurd (a9 (ax B) (aH I.sz h)) (cZ _)
def Inv.cne (I:Inv X BB G H s):∀x c,X.env.cells.lookup x=some c->c≠X.env.locals:=λx c e z=>by
 obtain⟨v,o,F,J⟩:=I.cell x c e;obtain⟨m,⟨o',es,O,q,B,_⟩,_⟩:=I.loc;grind
def Inv.funs (I:Inv X BB G H s):s.heap.FunFrames X.base X.outer:=by
 have all:∀ (l:List Env),(∀b∈frs l,b∈X.fs)->X.s₀.heap.FunFrames X.base l->s.heap.FunFrames X.base l:=by
  intro l
  induction l with
  | nil=>intro _ _;trivial
  | cons env r J=>
   intro hs O;obtain⟨U,⟨L,o,q,hn,Y,Z⟩,hr⟩:=O;have B:L∈X.fs:=hs L (by unfold frs;rw[cq,q];show ao);obtain⟨sl,e⟩:=I.base.slot L o Y (I.ok.frf L B) B λz=>I.ok.exfs L z B;show#[U,#[L,_,q,hn,e,Z],J (λb F=>hs b (by unfold frs;rw[cq,q];show av _ F)) hr]
 show all X.outer (λ_ F=>F) I.ok.funs
def Inv.stack (I:Inv X BB G H s):s.heap.FunFrames X.base X.stack:=by
 rcases I.ok.stk with e | ⟨e,hf⟩;rw[e];show I.funs;rw[e];obtain⟨m,hn,_⟩:=I.loc;show .cons (by rw[I.ok.kind];decide) hf hn ?_ I.funs;show Heap.get?_none_of_le (aH I.ok.bsz I.ok.above)
def Inv.stkSub (I:Inv X BB G H s):∀b∈frs X.stack,b∈X.env.locals::X.fs:=λb q=>by
 rcases I.ok.stk with e | ⟨e,hf⟩;grind;rw[e] at q;unfold frs at q;rw[cq,hf] at q;show q
def Inv.stkFree (I:Inv X BB G H s):∀b∈frs X.stack,H b=none:=λb q=>by
 rcases aA.mp (I.stkSub b q) with e | q;rw[e];show I.free;obtain⟨_,o,B,_⟩:=I.ok.funs.mem q;show I.base.free b o B (I.ok.frf b q) λz=>I.ok.exfs b z q
def Inv.step {g':Array GenState}{t':Nat}{d':Drawn}{ch:AY}(I:Inv X BB G H s)
  (F:∀b∈ch,(b∈X.ex\/X.s₀.heap.objs.size<=b)/\b≠X.env.locals/\(∀x c,X.env.cells.lookup x=some c->c≠b)/\∀p∈X.pn++BB,p.1≠b)
  (U:∀b o,b≠X.env.locals->b∉X.fs->b∉ch->s.heap.get? b=some o->H b=none->h'.get? b=some o)
  (Y:∀b o,b≠X.env.locals->b∈X.fs->b∉ch->s.heap.get? b=some o->H b=none->∃sl,h'.get? b=some { o with slots:=sl }) (J:∀b o,b∉ch->s.heap.get? b=some o->H b=none->H' b=none)
  (an:∀b o,b∉ch->s.heap.get? b=some o->∃o',h'.get? b=some o')
  (ad:∀b xs,H b=some (.tup xs)->H' b=some (.tup xs)) (ag:∀b o u,H b=some (.frz o u)->H' b=some (.frz o u)) (a0:∀b ps,H b=some (.tbl ps)->∃more,H' b=some (.tbl (ps++more)))
  (ns:∀m,s.heap.Ns X.env.locals m->h'.Ns X.env.locals m) (ap:HOk X.prog X.w H' h') (hg:AllBare g') :
  Inv X BB G H' { s with heap:=h',gens:=g',drawn:=d',toks:=t' }:=by
 have al:∀b o,X.s₀.heap.get? b=some o->b≠X.env.locals:=λb o e=>aQ (a9 (ax e) I.ok.above)
 have Z:∀b o,X.s₀.heap.get? b=some o->b∉X.ex->b∉ch:=λb o e B hb=>by
  rcases (F b hb).1 with z | z;show B z;show absurd (a9 (ax e) z) (cZ _)
 have O:∀x c,X.env.cells.lookup x=some c->∀v,s.heap.IsCell c v->h'.IsCell c v:=by
  rintro x c e v ⟨o,ho,hd⟩;have ac:c∉ch:=λz=>(F c z).2.2.1 x c e BA;by_cases hc:c∈X.fs;obtain⟨sl,q⟩:=Y c o (I.cne x c e) hc ac ho (I.freeC x c e);show#[_,q,hd];show#[o,U c o (I.cne x c e) hc ac ho (I.freeC x c e),hd]
 show#[I.ok,I.os,hg,#[λb o e n hb B=>?_,λb o e n hb B=>?_,λb o e n B=>?_,λb o e B=>?_,λb xs e=>ad b xs (I.base.tups b xs e),λb o xs e=>ag b o xs (I.base.frzs b o xs e),λb ps e=>?_],?_,λx c e=>?_,?_,λx c e=>?_,λp hp=>?_,ap,I.len];show U b o (al b o e) hb (Z b o e B) (I.base.keep b o e n hb B) (I.base.free b o e n B);obtain⟨sl,e1⟩:=I.base.slot b o e n hb B;obtain⟨as,e2⟩:=Y b _ (al b o e) hb (Z b o e B) e1 (I.base.free b o e n B);show#[as,e2];obtain⟨o',e1⟩:=I.base.there b o e B;show J b o' (Z b o e B) e1 (I.base.free b o e n B);obtain⟨o',e1⟩:=I.base.there b o e B;right;obtain⟨m1,e1⟩:=I.base.tbls b ps e;grind;obtain⟨m,hn,hl⟩:=I.loc;show#[m,ns m hn,λi x v e1 e2 e3=>?_];obtain⟨u,r,l⟩:=hl i x v e1 e2 e3;show#[u,r,?_];rcases l with l | ⟨k,c,e,z⟩;show .inl l;show .inr #[k,c,e,O x c e _ z];obtain⟨v,z⟩:=I.cell x c e;show#[v,O x c e v z];obtain⟨m,⟨o,_,_,ho,_⟩,_⟩:=I.loc;show J _ o (λz=>(F _ z).2.1 BA) ho I.free;obtain⟨v,o,ho,hd⟩:=I.cell x c e;show J c o (λz=>(F c z).2.2.1 x c e BA) ho (I.freeC x c e);obtain⟨e,n,ne,nf,d⟩:=I.pin p hp;have ac:p.1∉ch:=λz=>(F p.1 z).2.2.2 p hp BA;right
def Inv.un(I:Inv X BB G H s)(u:Un X.fs [] H H' s.heap h')(B:HOk X.prog X.w H' h'):Inv X BB G H' { s with heap:=h',toks:=t' }:=by
 obtain⟨m,⟨o,es,ep,O,r⟩,_⟩:=id I.loc;obtain⟨sl,U⟩:=u.any O I.free (by simp);show I.step (g':=s.gens) (d':=s.drawn) (ch:=[]) (λ_ z=>nomatch z) (λb o _ F _ e n=>u.keep b o e n F (by simp)) (λb o _ F _ e n=>u.slot b o e n F (by simp)) (λb o _ e n=>u.free b o e n (by simp)) (λb o _ e=>u.there b o e (by simp)) u.tups u.frzs u.tbls (λm' Y=>by obtain⟨o',es',J,q,Z⟩:=Y;rw[O] at q;cases q;show#[_,es',J,U,Z]) B I.bare
def Inv.call(I:Inv X BB G H s)(u:Un (frs X.stack) ch H H' s.heap h')(J:HOk X.prog X.w H' h')(Z:AllBare g')(B:∀b∈ch,(b∈X.ex\/X.s₀.heap.objs.size<=b)/\b≠X.env.locals/\(∀x c,X.env.cells.lookup x=some c->c≠b)/\∀p∈X.pn++BB,p.1≠b) :
  Inv X BB G H' { s with heap:=h',gens:=g',drawn:=d',toks:=t' }:=by
 obtain⟨m,⟨o,es,ep,Y,r⟩,_⟩:=id I.loc;obtain⟨sl,O⟩:=u.any Y I.free λz=>(B _ z).2.1 BA;show I.step (ch:=ch) B (λb o O hb q e n=>u.keep b o e n (λz=>(aA.mp (I.stkSub b z)).elim O hb) q) (λb o _ _ q e n=>u.any e n q) (λb o q e n=>u.free b o e n q) (λb o q e=>u.there b o e q) u.tups u.frzs u.tbls (λm' hm=>by obtain⟨o',es',U,F,r'⟩:=hm;rw[Y] at F;cases F;show#[_,es',U,O,r']) J Z
def Inv.turned(I:Inv X BB G H s)(k:∀b o,b≠B->s.heap.get? b=some o->h'.get? b=some o)(hn:H B=none)(J:B≠X.env.locals)(h1:B∈X.ex\/X.s₀.heap.objs.size<=B)(h2:∀x c,X.env.cells.lookup x=some c->c≠B)(O:∀p∈X.pn++BB,p.1≠B):Inv X BB G H { s with heap:=h',toks:=t' }:=by
 have U:∀b u,H b=some u->b≠B:=λb u e z=>by rw[z,hn] at e;cases e
 show I.step (g':=s.gens) (d':=s.drawn) (ch:=[B]) (λb Y=>?_) (λb o _ _ F e _=>k b o (λz=>F (by simp[z])) e) (λb o _ _ F e _=>#[o.slots,k b o (λz=>F (by simp[z])) e]) (λ_ _ _ _ n=>n)
  (λb o F e=>#[o,k b o (λz=>F (by simp[z])) e]) (λ_ _ e=>e) (λ_ _ _ e=>e) (λb ps e=>#[#v[],by rw[e];simp]) (λm Z=>?_) (λb u e=>?_) I.bare
 have e:b=B:=by simpa using Y
 subst e;show#[h1,J,h2,O];obtain⟨o,es,ep,ho,r⟩:=Z;show#[o,es,ep,k _ o (Ne.symm J) ho,r];show (I.hok b u e).stay (λc v F q=>k c v ?_ q) (λ_ q=>q) λ_ _ q=>q;grind
def Inv.tok (I:Inv X BB G H s)(t:Nat):Inv X BB G H { s with toks:=t }:=I.un (h':=s.heap) (t':=t) Un.refl I.hok
def Inv.kept(I:Inv X BB G H s)(k:∀b u,s.heap.get? b=some u->h'.get? b=some u):Inv X BB G H { s with heap:=h',toks:=t' }:=I.un (Un.kept k) (I.hok.kept k)
def Inv.laid{a:Addr}(I:Inv X BB G H s)(k:∀b u,s.heap.get? b=some u->h'.get? b=some u)(q:s.heap.objs.size<=a)(B:yd X.prog X.w (upd H a o) h' a o) :
  Inv X BB G (upd H a o) { s with heap:=h',toks:=t' }:=I.un (Un.laid k q (I.hok.fresh q)) (I.hok.laid k q B)
def Inv.write(I:Inv X BB G H s)(F:Mut (H x))(J:e=x\/H e=some (.own x))(k:∀b u,b≠e->s.heap.get? b=some u->h'.get? b=some u)(q:∃u,h'.get? e=some u)(B:yd X.prog X.w (upd H x o) h' x o):Inv X BB G (upd H x o) { s with heap:=h',toks:=t' }:=I.un (Un.write F J k q) (I.hok.write F J k q B)
def Inv.pins_of(I:Inv X BB G H s)(h:∀p∈q,s.heap.get? p.1=some p.2/\H p.1=none/\p.1≠X.env.locals/\p.1∉X.fs/\∀v,p.2.data≠.cell v):Inv X q G H s:=
 #[I.ok,I.os,I.bare,I.base,I.loc,I.cell,I.free,I.freeC,λp B=>(aF.mp B).elim (λz=>I.pin p (bH _ z)) (h p),I.hok,I.len]
def zht {N:AM}(q:N.Nodup){i j:Nat}{x:Str}(a:N[i]?=some x)(b:N[j]?=some x):i=j:=by obtain⟨h1,B⟩:=ah.mp a;obtain⟨h2,F⟩:=ah.mp b;show (ff q).mp (B.trans F.symm)
def zfK(I:Inv X BB G H s)(hN:X.N.Nodup)(hi:X.N[i]?=some x)(J:Loc X.env.scope x)(r:yo v u)(h:∀s',Inv X BB (G.set i (some v)) H s'->(∃a,Heap.SameBut a s.heap s'.heap/\(a=X.env.locals\/X.env.cells.lookup x=some a))->Q () s')(hf:X.fn x=true\/X.env.scope.names.lookup x=some .local:=by fail"l"):wpAny M A (storeName X.env x u) Q E s:=by
 obtain⟨m,hn,hl⟩:=id I.loc;have ad:(X.env.scope.kind==.class || (X.env.scope.kind==.module&&X.env.locals != X.env.globals))=false:=by rw[I.ok.kind];rfl
 have Y:i<G.length:=by rw[I.len];show (ah.mp hi).1
 have Z:=I.cne
 have B:∀ {a:Addr} {h':Heap},(∃o,s.heap.get? a=some o/\H a=none)->Heap.SameBut a s.heap h'->HOk X.prog X.w H h':=λ{a h'} ha hs b ob e=>by
  obtain⟨_,_,an⟩:=ha;show (I.hok b ob e).stay (λc w' O q=>(hs.2 c ?_).trans q) (λ_ q=>q) λ_ _ q=>q;grind
 rcases J with hk | hk;show wpAny_storeName_local hk hn (λh' ap hs=>?_) ad;obtain⟨oL,_,_,as,_⟩:=id hn;show h _ #[I.ok,I.os,I.bare,#[λb o e n hb J=>?_,λb o e n hb J=>?_,I.base.free,λb o e J=>?_,I.base.tups,I.base.frzs,I.base.tbls],#[_,ap,λj y v' F U e3=>?_],λy c e=>?_,I.free,I.freeC,λp hp=>?_,B #[oL,as,I.free] hs,by simpa using I.len] #[_,hs,.inl BA];show (hs.2 b (aQ (a9 (ax e) I.ok.above))).trans (I.base.keep b o e n hb J);obtain⟨sl,F⟩:=I.base.slot b o e n hb J;show#[sl,(hs.2 b (aQ (a9 (ax e) I.ok.above))).trans F];obtain⟨o',F⟩:=I.base.there b o e J;show#[o',(hs.2 b (aQ (a9 (ax e) I.ok.above))).trans F];by_cases hj:j=i;subst hj;rw[hi] at F;cases F;rw[aV Y] at U;cases U;show#[u,r,.inl #[hk,by simp]];rw[aw (Ne.symm hj)] at U;obtain⟨u',r',q⟩:=hl j y v' F U e3;show#[u',r',?_];rcases q with ⟨k,e⟩ | ⟨k,c,e,z⟩;show .inl #[k,?_];have:y≠x:=λe=>hj (zht hN F (e ▸ hi));simp[this,e];show .inr #[k,c,e,z.sameBut hs (Z y c e)];obtain⟨w',z⟩:=I.cell y c e;show#[w',z.sameBut hs (Z y c e)];obtain⟨e,n,ne,nf,d⟩:=I.pin p hp;show#[(hs.2 p.1 ne).trans e,n,ne,nf,d]
 have ac:X.fn x=true:=by
  grind
 obtain⟨c,O⟩:=I.ok.has x (.inl hk);obtain⟨w',z⟩:=I.cell x c O;show wpAny_storeName_cell I.ok.kind hk O z (λh' ag hs=>?_);obtain⟨oc,a0,a1⟩:=id z;show h { s with heap:=h' } #[I.ok,I.os,I.bare,#[λb o e n hb J=>?_,λb o e n hb J=>?_,I.base.free,λb o e J=>?_,I.base.tups,I.base.frzs,I.base.tbls],#[m,hn.sameBut hs (Ne.symm (Z x c O)),λj y v' F U e3=>?_],λy c' e=>?_,I.free,I.freeC,λp hp=>?_,B #[oc,a0,I.freeC x c O] hs,by simpa using I.len] #[c,hs,.inr O];show (hs.2 b (aQ (a9 (ax e) (I.ok.cab x c ac O)))).trans (I.base.keep b o e n hb J);obtain⟨sl,F⟩:=I.base.slot b o e n hb J;show#[sl,(hs.2 b (aQ (a9 (ax e) (I.ok.cab x c ac O)))).trans F];obtain⟨o',F⟩:=I.base.there b o e J;show#[o',(hs.2 b (aQ (a9 (ax e) (I.ok.cab x c ac O)))).trans F];by_cases hj:j=i;subst hj;rw[hi] at F;cases F;rw[aV Y] at U;cases U;show#[u,r,.inr #[.inl hk,c,O,ag]];rw[aw (Ne.symm hj)] at U;obtain⟨u',r',q⟩:=hl j y v' F U e3;show#[u',r',?_];rcases q with q | ⟨k,c',e,z'⟩;show .inl q;show .inr #[k,c',e,z'.sameBut hs ?_];rintro rfl;show hj (zht hN F (I.ok.inj _ _ _ e O ▸ hi));by_cases al:c'=c;subst al;show#[_,ag];obtain⟨w2,z2⟩:=I.cell y c' e;show#[w2,z2.sameBut hs al];obtain⟨e,n,ne,nf,d⟩:=I.pin p hp;show#[(hs.2 p.1 ?_).trans e,n,ne,nf,d];intro q;right
def za5(I:Inv X BB G H s)(q:X.N.Nodup)(hi:X.N[i]?=some x)(B:Loc X.env.scope x)(r:yo v u)(h:∀s',Inv X BB (G.set i (some v)) H s'->Q () s')(F:X.fn x=true\/X.env.scope.names.lookup x=some .local:=by fail"l"):wpAny M A (storeName X.env x u) Q E s:=
 zfK I q hi B r (λs' I' _=>h s' I') F
def Inv.call'(I:Inv X BB G H s)(F:s'.os=s.os)(u:Un (frs X.stack) ch H H' s.heap s'.heap)(q:HOk X.prog X.w H' s'.heap)(J:AllBare s'.gens)(B:∀b∈ch,(b∈X.ex\/X.s₀.heap.objs.size<=b)/\b≠X.env.locals/\(∀x c,X.env.cells.lookup x=some c->c≠b)/\∀p∈X.pn++BB,p.1≠b):Inv X BB G H' s':=by
 obtain⟨h',g',d',t',o'⟩:=s';have e:o'=s.os:=F;subst e;show I.call (g':=g') (t':=t') (d':=d') u q J B
end
abbrev XK:=Value->Option Addr->Hp->Prop
abbrev St:=List (Option V)
abbrev VK:=V->Hp->Prop
abbrev TE:=St->Hp->VK->Prop
abbrev TT:=St->Hp->(Bool->Hp->Prop)->Prop
abbrev TA:=St->Hp->(AT->Hp->Prop)->Prop
structure Ends where
 nx:St->Hp->Prop
 rt:VK
 bk:St->Hp->Prop:=λ_ _=>False
 ct:St->Hp->Prop:=λ_ _=>False
abbrev TS:=Ends->St->Hp->Prop
def EP (X:Cx)(BB:AB)(G:St)(Q:VK)(u:Value)(s':AZ):Prop:=∃v H',Inv X BB G H' s'/\yo v u/\Q v H'
def TP (X:Cx)(BB:AB)(G:St)(Q:Bool->Hp->Prop)(b:Bool)(s':AZ):Prop:=∃H',Inv X BB G H' s'/\Q b H'
def AP (X:Cx)(BB:AB)(G:St)(Q:AT->Hp->Prop)(us:AN)(s':AZ):Prop:=∃vs H',Inv X BB G H' s'/\yb vs us/\Q vs H'
def SP (X:Cx)(BB:AB)(BG:Ends)(f:Flow)(s':AZ):Prop:=
 match f with
 | .next=>∃ q H',Inv X BB q H' s'/\BG.nx q H'
 | .brk=>∃ q H',Inv X BB q H' s'/\BG.bk q H'
 | .cont=>∃ q H',Inv X BB q H' s'/\BG.ct q H'
 | .ret u=>∃v q H',Inv X BB q H' s'/\yo v u/\BG.rt v H'
def PE (X:Cx)(e:Expr)(t:TE):Prop:=
 ∀ (BB:AB) (s:AZ) (G:St) (H:Hp) (Q:VK),Inv X BB G H s->t G H Q->Af X (eval e X.env) (EP X BB G Q) X.xe s
def PT (X:Cx)(e:Expr)(t:TT):Prop:=
 ∀ (BB:AB) (s:AZ) (G:St) (H:Hp) (Q:Bool->Hp->Prop),Inv X BB G H s->t G H Q->Af X (isTrue e X.env (eval e X.env)) (TP X BB G Q) X.xe s
def PW (X:Cx)(e:Expr)(t:TT):Prop:=
 ∀ (q:Sem Value) (BB:AB) (s:AZ) (G:St) (H:Hp) (Q:Bool->Hp->Prop),Inv X BB G H s->t G H Q->Af X (isTrue e X.env q) (TP X BB G Q) X.xe s
def PW.pt(h:PW X e t):PT X e t:=h _
def PA (X:Cx)(es:AO)(t:TA):Prop:=
 ∀ (pos:Pos) (BB:AB) (s:AZ) (G:St) (H:Hp) (Q:AT->Hp->Prop),Inv X BB G H s->t G H Q->Af X (spliced (backTo pos (starEach es X.env))) (AP X BB G Q) X.xe s
def PS (X:Cx)(st:Stmt)(t:TS):Prop:=
 ∀ (BB:AB) (s:AZ) (G:St) (H:Hp) (BG:Ends),Inv X BB G H s->t BG G H->Af X (exec st X.env) (SP X BB BG) X.xe s
def PSs (X:Cx)(st:List Stmt)(t:TS):Prop:=
 ∀ (BB:AB) (s:AZ) (G:St) (H:Hp) (BG:Ends),Inv X BB G H s->t BG G H->Af X (execs st X.env) (SP X BB BG) X.xe s
def thn{α:Type}{t:Sem α}{Q Q':α->AZ->Prop}(h:wpAny M A t Q E s)(q:∀a s,Q a s->Q' a s):wpAny M A t Q' E s:=bM h q λ_ _ x=>x
section
variable {X:Cx}
def za6 (i:Nat):TE:=λG H Q=>∃v,G[i]?=some (some v)/\Q v H
def tC (v:V):TE:=λ_ H Q=>Q v H
def znS {i:Nat}{x:Str}{pos:Pos}(J:X.N[i]?=some x)(O:Vis X.env.scope x)(B:Ah x:=by ext)(F:(x==("__classdict__" : Str))=false:=by ext):PE X (.Name x pos) (za6 i):=by
 intro BB s G H Q I h;obtain⟨v,e,h⟩:=h;obtain⟨m,hn,U⟩:=I.loc;obtain⟨u,r,l⟩:=U i x v J e O;have fin:EP X BB G Q u s:=#[v,H,I,r,h];rcases l with ⟨q,hm⟩ | ⟨q,c,hc,hcell⟩;show wpAny_Name (wpAny_loadName_local I.ok.kind q hn hm fin) B;rcases q with q | q;show wpAny_Name (wpAny_loadName_cell I.ok.kind q hc hcell fin) B;show wpAny_Name (wpAny_loadName_free I.ok.kind q hc hcell fin F) B
def znR {i j pos}:PE X (.Constant (.int i) j pos) (tC (.int i)):=λ_ _ _ H _ I h=>wpAny_Constant_int #[.int i,H,I.tok _,#[_,BA],h]
def zvN {b j pos}:PE X (.Constant (.bool b) j pos) (tC (.bl b)):=λ_ _ _ H _ I h=>Constant_bool #[.bl b,H,I,BA,h]
def zsy {j pos}:PE X (.Constant .none j pos) (tC .non):=λ_ _ _ H _ I h=>Constant_none #[.non,H,I,BA,h]
def zsB {x j pos}:PE X (.Constant (.str x) j pos) (tC (.str x)):=λ_ _ _ H _ I h=>Calls.Constant_str #[.str x,H,I.tok _,#[_,BA],h]
def Gl (X:Cx)(x:Str):Prop:=X.env.kindOf x=some .globalImplicit
def zjQ{E:AA}{BB:AB}{s:AZ}{G:St}{H:Hp}{x:Str}{u:Value}{Q:AA}(I:Inv X BB G H s)(q:Gl X x)(B:X.mg x=some u)(h:Q u s)(F:Ah x:=by ext):Af X (eval (.Name x pos) X.env) Q E s:=
 Calls.Name_function_global I.ok.kind q (Calls.loadGlobal_global (by rw[I.ok.glob];show I.mod.glob.keeps I.bk) B h) F
def zca {E:AA}{BB:AB}{s:AZ}{G:St}{H:Hp}{x:Str}{u:Value}{pos:Pos}{Q:AA}(I:Inv X BB G H s)(q:Gl X x)(B:X.mg x=none)(F:bootBuiltins x=some u)(h:Q u s)
  (hn:x ≠ "__name__" := by ext) (J:Ah x:=by ext):Af X (eval (.Name x pos) X.env) Q E s:=by
 obtain⟨O,h1,h2⟩:=I.mod.blt;show Calls.Name_function_global I.ok.kind q (Calls.loadGlobal_builtin (by rw[I.ok.glob];show I.mod.glob.keeps I.bk) B (by rw[I.ok.blt];show h1.keeps I.bk) ((h2 x hn).trans F) h) J
def zpG {x:Str}{v:V}{u:Value}{pos:Pos}(q:Gl X x)(B:X.mg x=none)(F:bootBuiltins x=some u)(r:yo v u)(hn:x ≠ "__name__" := by ext)(J:Ah x:=by ext):PE X (.Name x pos) (tC v):=
 λ_ _ _ H _ I h=>zca I q B F #[v,H,I,r,h] hn J
variable {a b:Expr}{ta tb:TE}{pos:Pos}
def PC (X:Cx)(F:CmpOp)(a b:Expr)(t:TE):Prop:=
 ∀ (BB:AB) (s:AZ) (G:St) (H:Hp) (Q:VK),Inv X BB G H s->t G H Q->
  Af X (eval a X.env) (λv q=>Af X (eval b X.env) (λu B=>Af X (compareOp F v u) (EP X BB G Q) X.xe B) X.xe q) X.xe s
def zdY(b:Expr)(h:q≠.In)(h2:q≠.NotIn):behindInMarks q b=false:=by
 have B:(q==CmpOp.In)=false:=by cases q <;> first | rfl | show absurd BA h
 have F:(q==CmpOp.NotIn)=false:=by cases q <;> first | rfl | show absurd BA h2
 cases b <;> simp[behindInMarks,B,F]
def zv8 (ta:TE):TE:=λG H Q=>ta G H λx H1=>Q (.bl (decide (x = .non))) H1
def zqR (ta:TE):TE:=λG H Q=>ta G H λx H1=>Q (.bl (!decide (x = .non))) H1
def yo.none_iff(r:yo x v):(v==Value.none)=decide (x = .non):=by
 cases x with
 | non=>cases r;rfl
 | bl _=>cases r;rfl
 | int _=>obtain⟨t,rfl⟩:=r;rfl
 | str _=>obtain⟨t,rfl⟩:=r;rfl
 | byt _=>obtain⟨t,rfl⟩:=r;rfl
 | flt _=>obtain⟨t,rfl⟩:=r;rfl
 | ref _=>cases r;rfl
 | ty _=>cases r;rfl
def zsu {j pos'}(q:PE X a ta):PC X .Is a (.Constant .none j pos') (zv8 ta):=by intro BB s G H Q I h;show thn (q BB s G H _ I h)  ?_;rintro v J ⟨x,H1,I1,B,F⟩;show Constant_none (is_none_gen #[.bl _,H1,I1,by rw[B.none_iff];rfl,F])
def zpF {j pos'}(q:PE X a ta):PC X .IsNot a (.Constant .none j pos') (zqR ta):=by intro BB s G H Q I h;show thn (q BB s G H _ I h)  ?_;rintro v J ⟨x,H1,I1,B,F⟩;show Constant_none (isnot_none_gen #[.bl _,H1,I1,by rw[B.none_iff];rfl,F])
def tB (t:TE):TT:=λG H Q=>t G H λx H1=>∃c,x = .bl c/\Q c H1
def znV(h:PC X B a b t)(h1:behindInMarks B b=false:=by first | show zdY _ (by ext) (by ext) | rfl):PT X (.Compare a [B] [b] pos) (tB t):=by intro BB s G H Q I F;show wpAny_isTrue_Compare1 (thn (h BB s G H _ I F) λv U h1=>thn h1 λu Y h2=>thn h2 λc Z ⟨x,H1,I1,J,O⟩=>?_) h1;obtain⟨d,rfl,q⟩:=O;cases J;show cr #[H1,I1,q]
def zsS(h:PE X e t)(he:∀whole,isTrue e X.env whole=(do let v <- whole;standAt e.pos;holding [v] (truthy v)):=by intro _;rfl):PT X e (tB t):=by intro BB s G H Q I hw;show isTrue_plain (thn (h BB s G H _ I hw) λv s1 ⟨x,H1,I1,r1,q1⟩=>?_) (he _);obtain⟨d,rfl,q⟩:=q1;cases r1;show cr #[H1,I1,q]
variable {tA tB':TT}{zz:AO}
def zv4 (t u:TT):TT:=λG H Q=>t G H λc H1=>if c=true then u G H1 Q else Q false H1
def tOr (t u:TT):TT:=λG H Q=>t G H λc H1=>if c=true then Q true H1 else u G H1 Q
def tNot (t:TT):TT:=λG H Q=>t G H λc H1=>Q (!c) H1
def zp5 (q:PT X a tA):PW X (.BoolOp .And [a] pos) tA:=by
 intro B BB s G H Q I h;show isTrue_and (thn (q BB s G H Q I h) λc F e=>?_)
 cases c with
 | true=>show isTrue_and_nil e
 | false=>show e
def zsU (q:PT X a tA):PW X (.BoolOp .Or [a] pos) tA:=by
 intro B BB s G H Q I h;show isTrue_or (thn (q BB s G H Q I h) λc F e=>?_)
 cases c with
 | false=>show isTrue_or_nil e
 | true=>show e
def zsT (B:PT X a tA)(F:PW X (.BoolOp .And (b::zz) pos) tB'):PW X (.BoolOp .And (a::b::zz) pos) (zv4 tA tB'):=by
 intro J BB s G H Q I h;show isTrue_and (thn (B BB s G H _ I h)  ?_);rintro c O ⟨H1,I1,q⟩
 cases c with
 | true=>show F J BB O G H1 Q I1 q
 | false=>show#[H1,I1,q]
def zvS (B:PT X a tA)(F:PW X (.BoolOp .Or (b::zz) pos) tB'):PW X (.BoolOp .Or (a::b::zz) pos) (tOr tA tB'):=by
 intro J BB s G H Q I h;show isTrue_or (thn (B BB s G H _ I h)  ?_);rintro c O ⟨H1,I1,q⟩
 cases c with
 | true=>show#[H1,I1,q]
 | false=>show F J BB O G H1 Q I1 q
def zsR (q:PT X a tA):PT X (.UnaryOp .Not a pos) (tNot tA):=by intro BB s G H Q I h;show isTrue_not (q BB s G H (λc H1=>Q (!c) H1) I h)
def zto (ta tb:TE):TE:=λG H Q=>ta G H λx H1=>∃c,x = .bl c/\if c=true then tb G H1 Q else Q (.bl false) H1
def ztx (ta:TE):TE:=λG H Q=>ta G H λx H1=>∃c,x = .bl c/\Q (.bl (!c)) H1
def zsA{op}(h:PE X a t):PE X (.BoolOp op [a] pos) t:=λBB s G H Q I q=>BoolOp_one (h BB s G H Q I q)
def zsv (B:PE X a ta)(F:PE X (.BoolOp .And (b::zz) pos) tb):PE X (.BoolOp .And (a::b::zz) pos) (zto ta tb):=by
 intro BB s G H Q I h;show BoolOp_and (thn (B BB s G H _ I h)  ?_);rintro v J ⟨x,H1,I1,O,q⟩;obtain⟨c,rfl,q⟩:=q;cases O;show cr ?_
 cases c with
 | true=>show F BB J G H1 Q I1 q
 | false=>show#[.bl false,H1,I1,BA,q]
def zsz (B:PE X a ta):PE X (.UnaryOp .Not a pos) (ztx ta):=by intro BB s G H Q I h;show UnaryOp_ (thn (B BB s G H _ I h)  ?_);rintro v J ⟨x,H1,I1,F,q⟩;obtain⟨c,rfl,q⟩:=q;cases F;show not_of (cr #[.bl (!c),H1,I1,BA,q])
def tIf (t:TT)(ta tb:TE):TE:=λG H Q=>t G H λc H1=>if c=true then ta G H1 Q else tb G H1 Q
def zmz(F:PT X c tA)(J:PE X a ta)(O:PE X b tb):PE X (.IfExp c a b pos) (tIf tA ta tb):=by
 intro BB s G H Q I h;show wpAny_IfExp (thn (F BB s G H _ I h)  ?_);rintro d q ⟨H1,I1,B⟩
 cases d with
 | true=>show J BB q G H1 Q I1 B
 | false=>show O BB q G H1 Q I1 B
end
def SqL (K:AH)(H:Hp)(a:Addr)(xs:AT):Prop:=
 Rd H a (.lst xs)\/
  ∃ (o:Obj) (q:AK) (n:Nat),K.lookup a=some o/\o.cls = .type "list" /\ o.dict=none/\o.data = .seq q n/\q.size<=sizeLine/\yb xs q.toList
def SqT (K:AH)(H:Hp)(a:Addr)(xs:AT):Prop:=
 Rd H a (.tup xs)\/
  ∃ (o:Obj) (q:AK) (n:Nat),K.lookup a=some o/\o.cls = .type "tuple" /\ o.data = .seq q n/\q.size<=sizeLine/\yb xs q.toList
def absV:Value->Option V
 | .none=>some .non
 | .bool b=>some (.bl b)
 | .int i _=>some (.int i)
 | .str x _=>some (.str x)
 | .bytes b _=>some (.byt b)
 | .float b _=>some (.flt b)
 | .ref a=>some (.ref a)
 | .type n=>some (.ty n)
 | _=>none
def yo.abs(r:yo x u):absV u=some x:=by
 cases x with
 | non=>cases r;rfl
 | bl _=>cases r;rfl
 | int _=>obtain⟨t,rfl⟩:=r;rfl
 | str _=>obtain⟨t,rfl⟩:=r;rfl
 | byt _=>obtain⟨t,rfl⟩:=r;rfl
 | flt _=>obtain⟨t,rfl⟩:=r;rfl
 | ref _=>cases r;rfl
 | ty _=>cases r;rfl
def yo.inj(r:yo x u)(q:yo y u):x=y:=ce (r.abs.symm.trans q.abs)
theorem yb.inj:∀ {xs ys:AT} {us:AN},yb xs us->yb ys us->xs=ys
 | _,_,_,.nil,.nil=>rfl
 | _,_,_,.cons r t,.cons q t'=>by rw[r.inj q,yb.inj t t']
section
variable {X:Cx}{BB:AB}{G:St}{H:Hp}{s:AZ}{a:Addr}{xs ys:AT}
def SqL.of {K:AH}(h:H a=some (.lst xs)):SqL K H a xs:=.inl (.inl h)
def SqT.of {K:AH}(h:H a=some (.tup xs)):SqT K H a xs:=.inl (.inl h)
def Inv.list (I:Inv X BB G H s)(h:SqL X.K H a xs):∃q:AN,yb xs q/\PlainL s.heap a q.toArray/\xs.length<=sizeLine:=by
 rcases h with h | ⟨o,q,n,hk,hc,hd,hs,hz,r⟩;obtain⟨z,q,n,r,e⟩:=h.ok I.hok;show#[q,r,#[_,n,e,BA,BA,BA],z];show#[q.toList,r,#[o,n,I.kIn a o hk,hc,hd,by simpa using hs],?_];have e:=r.length;grind
def Inv.tuple (I:Inv X BB G H s)(h:SqT X.K H a xs):∃q:AN,yb xs q/\IsTup s.heap a q.toArray/\xs.length<=sizeLine:=by
 rcases h with h | ⟨o,q,n,hk,hc,hs,hz,r⟩;obtain⟨z,q,r,p⟩:=h.ok I.hok;show#[q,r,p.tup,z];show#[q.toList,r,#[o,I.kIn a o hk,hc,n,by simpa using hs],?_];have e:=r.length;grind
def Inv.list_inj (I:Inv X BB G H s)(h:SqL X.K H a xs)(h':SqL X.K H a ys):xs=ys:=by
 obtain⟨q,r,⟨o,n,e,_,_,d⟩,_⟩:=I.list h;obtain⟨its',F,⟨o',O,B,_,_,d'⟩,_⟩:=I.list h';rw[e] at B;cases B;rw[d] at d';injection d' with J _;have:q=its':=by simpa using congrArg Array.toList J
 subst this;show r.inj F
def Inv.tuple_inj (I:Inv X BB G H s)(h:SqT X.K H a xs)(h':SqT X.K H a ys):xs=ys:=by
 obtain⟨q,r,⟨o,e,_,n,d⟩,_⟩:=I.tuple h;obtain⟨its',F,⟨o',B,_,O,d'⟩,_⟩:=I.tuple h';rw[e] at B;cases B;rw[d] at d';injection d' with J _;have:q=its':=by simpa using congrArg Array.toList J
 subst this;show r.inj F
end
abbrev Cx.wish (X:Cx)(E:AA):Cx:={ X with xe:=E }
abbrev Cx.nox (X:Cx):Cx:=X.wish λ_ _=>False
def Cx.Ok.wish {X:Cx}(q:X.Ok)(E:AA):(X.wish E).Ok:=
 #[q.mod,q.kind,q.glob,q.blt,q.above,q.inj,q.has,q.cab,q.hd,q.frames,q.stk,q.exf,q.bs,q.bsz,q.noex,q.exfs,q.funs,q.frf]
def Cx.Ok.unwish{X:Cx}(q:(X.wish E).Ok):X.Ok:=
 #[q.mod,q.kind,q.glob,q.blt,q.above,q.inj,q.has,q.cab,q.hd,q.frames,q.stk,q.exf,q.bs,q.bsz,q.noex,q.exfs,q.funs,q.frf]
section
variable {X:Cx}{BB:AB}{G:St}{H:Hp}{s:AZ}{E:AA}
def Inv.wish (I:Inv X BB G H s)(E:AA):Inv (X.wish E) BB G H s:=#[I.ok.wish E,I.os,I.bare,I.base,I.loc,I.cell,I.free,I.freeC,I.pin,I.hok,I.len]
def Inv.unwish (I:Inv (X.wish E) BB G H s):Inv X BB G H s:=#[I.ok.unwish,I.os,I.bare,I.base,I.loc,I.cell,I.free,I.freeC,I.pin,I.hok,I.len]
def SP.unwish(h:SP (X.wish E) BB BG f s'):SP X BB BG f s':=by
 cases f with
 | next=>obtain⟨B,H',I,q⟩:=h;show#[B,H',I.unwish,q]
 | brk=>obtain⟨B,H',I,q⟩:=h;show#[B,H',I.unwish,q]
 | cont=>obtain⟨B,H',I,q⟩:=h;show#[B,H',I.unwish,q]
 | ret u=>obtain⟨v,B,H',I,r,q⟩:=h;show#[v,B,H',I.unwish,r,q]
def PSs.nox{st:List Stmt}(h:PSs X.nox st t):PSs X st t:=λBB s G H BG I B=>
 bM (h BB s G H BG (I.wish _) B) (λ_ _ q=>q.unwish) λ_ _ z=>False.elim z
end
section
variable {X:Cx}{st:Stmt}{zz:List Stmt}{t u:TS}{e:Expr}{te:TE}{pos:Pos}
def zqP:TS:=λBG G H=>BG.nx G H
def zqS (t u:TS):TS:=λBG G H=>t { BG with nx:=u BG } G H
def zkz:PSs X [] zqP:=λ_ _ G H _ I h=>fF #[G,H,I,h]
def zaV (h1:PS X st t)(h2:PSs X zz u):PSs X (st::zz) (zqS t u):=by
 intro BB s G H BG I h;show wpAny_execs_cons (thn (h1 BB s G H { BG with nx:=u BG } I h) λf F q=>?_)
 cases f with
 | next=>
  obtain⟨B,H',I',q⟩:=q;show h2 BB F B H' BG I' q
 | ret v=>show q
 | brk=>show q
 | cont=>show q
def zeh (h1:PS X st t):PSs X [st] t:=by
 intro BB s G H BG I h;show wpAny_execs_cons (thn (h1 BB s G H BG I h) λf B q=>?_)
 cases f with
 | next=>show fF q
 | ret v=>show q
 | brk=>show q
 | cont=>show q
def Inv.quiet{BB:AB}{G:St}{H:Hp}(I:Inv X BB G H s):interactive X.env=false:=by simp[interactive,I.ok.kind]
def zqN (te:TE):TS:=λBG G H=>te G H λ_ H1=>BG.nx G H1
def zp0 (q:PE X e te)(hs:swapsWith e none pos.line X.env=pure false:=by rfl):PS X (.Expr e pos) (zqN te):=by intro BB s G H BG I h;show wpAny_Expr_any (thn (q BB s G H _ I h) <| by rintro v F ⟨x,H1,I1,J,B⟩;show#[G,H1,I1,B]) I.quiet hs
def ztz (te:TE):TS:=λBG G H=>te G H BG.rt
def znU (q:PE X e te):PS X (.Return (some e) pos) (ztz te):=by intro BB s G H BG I h;show wpAny_Return_some (thn (q BB s G H _ I h) <| by rintro v J ⟨x,H1,I1,B,F⟩;show#[x,G,H1,I1,B,F])
def zv7 (c:TT)(t u:TS):TS:=λBG G H=>c G H λb H1=>if b=true then t BG G H1 else u BG G H1
def zsO(F:PT X c tc)(J:PSs X a t)(O:PSs X b u):PS X (.If c a b pos) (zv7 tc t u):=by
 intro BB s G H BG I h;show wpAny_If (thn (F BB s G H _ I h)  ?_);rintro d q ⟨H1,I1,B⟩
 cases d with
 | true=>show J BB q G H1 BG I1 B
 | false=>show O BB q G H1 BG I1 B
end
abbrev TG:=V->St->Hp->(St->Hp->Prop)->Prop
abbrev TGs:=AT->St->Hp->(St->Hp->Prop)->Prop
def PG (X:Cx)(q:Expr)(t:TG):Prop:=
 ∀ (BB:AB) (s:AZ) (G:St) (H:Hp) (v:V) (u:Value) (Q:St->Hp->Prop),Inv X BB G H s->yo v u->t v G H Q->
  Af X (assign q X.env u) (λ_ s'=>∃ B H',Inv X BB B H' s'/\Q B H') X.xe s
def PGs (X:Cx)(B:AO)(t:TGs):Prop:=
 ∀ (BB:AB) (s:AZ) (G:St) (H:Hp) (vs:AT) (us:AN) (Q:St->Hp->Prop),Inv X BB G H s->yb vs us->t vs G H Q->
  Af X (assignInOrder ((assignEach B X.env).map (·.2)) us) (λ_ s'=>∃ q H',Inv X BB q H' s'/\Q q H') X.xe s
abbrev zux:=V->V->V->Hp->(Hp->Prop)->Prop
def PSet (X:Cx)(t:zux):Prop:=
 ∀ (BB:AB) (s:AZ) (G:St) (H:Hp) (o i v:V) (q B u:Value) (Q:Hp->Prop),Inv X BB G H s->yo o q->yo i B->yo v u->t o i v H Q->
  Af X (setItem q B u) (λ_ s'=>∃H',Inv X BB G H' s'/\Q H') X.xe s
abbrev TIp:=V->V->Hp->VK->Prop
def PIp (X:Cx)(q:Operator)(t:TIp):Prop:=
 ∀ (BB:AB) (s:AZ) (G:St) (H:Hp) (x y:V) (v u:Value) (Q:VK),Inv X BB G H s->yo x v->yo y u->t x y H Q->
  Af X (inplaceOp q v u) (EP X BB G Q) X.xe s
section
variable {X:Cx}{pos:Pos}
def zbA (i:Nat):TG:=λv G H Q=>Q (G.set i (some v)) H
def zpS(q:X.N.Nodup)(hi:X.N[i]?=some x)(B:Loc X.env.scope x)(F:X.fn x=true\/X.env.scope.names.lookup x=some .local:=by fail"l"):PG X (.Name x pos) (zbA i):=by intro BB s G H v u Q I r h;show wpAny_assign_Name (za5 I q hi B r (λs' I'=>#[_,H,I',h]) F)
def gNil:TGs:=λvs G H Q=>vs=[]/\Q G H
def zrL (t:TG)(u:TGs):TGs:=λvs G H Q=>∃v r,vs=v::r/\t v G H λq H'=>u r q H' Q
def zpT:PGs X [] gNil:=by intro BB s G H vs us Q I r h;obtain⟨e,h⟩:=h;subst e;cases r;show assignInOrder_nil #[G,H,I,h]
def zmB(h1:PG X e t)(h2:PGs X es u)(hs:(assignEach (e::es) X.env).map (·.2)=assign e X.env::(assignEach es X.env).map (·.2):=by rfl):PGs X (e::es) (zrL t u):=by
 intro BB s G H vs us Q I r h;obtain⟨v,O,B,h⟩:=h;subst B
 cases r with
 | cons r rr=>
  rw[hs];show fQ (thn (h1 BB s G H _ _ _ I r h)  ?_);rintro _ F ⟨q,H1,I1,J⟩;show h2 BB F q H1 _ _ Q I1 rr J
def zu7 (K:AH)(n:Nat)(t:TGs):TG:=λv G H Q=>∃a xs,v = .ref a/\SqT K H a xs/\xs.length=n/\t xs G H Q
def zsJ {es:AO}{k:Nat}{t:TGs}{n:Nat}(J:X.calm=true)(h:PGs X es t)
  (hn:(assignEach es X.env).length=n:=by rfl) (q:(assignEach es X.env).findIdx? (·.1)=none:=by rfl):PG X (.Tuple es k pos) (zu7 X.K n t):=by
 intro BB s G H v u Q I r B;obtain⟨a,xs,O,U,Y,B⟩:=B;subst O;cases r;obtain⟨Z,F,ht,hz⟩:=I.tuple U;show assign_Tuple_tuple (I.ok.hd J) ht (by simp[hn,<- Y,F.length]) q λh' hx=>?_;have I1:Inv X BB G H { s with heap:=h' }:=I.kept (t':=s.toks) λb o e=>hx b o (aQ (ax e)) e;show h BB _ G H xs _ Q I1 (by simpa using F) B
def gSub (to ti:TE)(t:zux):TG:=λv G H Q=>to G H λo H1=>ti G H1 λi H2=>t o i v H2 λH3=>Q G H3
def zsI(ho:PE X o to)(hi:PE X i ti)(hs:PSet X t)(ha:∀v,assign (.Subscript o i pos) X.env v=(do
   let ov <- holding [v] (eval o X.env)
   let iv <- holding [v,ov] (eval i X.env)
   standAt pos
   holding [v,ov,iv] (setItem ov iv v)
   release [v,ov,iv] []):=by intro _;rfl):PG X (.Subscript o i pos) (gSub to ti t):=by
 intro BB s G H v u Q I r h;rw[ha];show aa (bn (thn (ho BB s G H _ I h)  ?_));rintro ov s1 ⟨x,H1,I1,r1,q1⟩;show aa (bn (thn (hi BB s1 G H1 _ I1 q1)  ?_));rintro iv s2 ⟨y,H2,I2,r2,q2⟩;show aa (c8 (aa (bn (thn (hs BB s2 G H2 x y v ov iv u _ I2 r1 r2 r q2)  ?_))));rintro _ s3 ⟨H3,I3,q3⟩;show wpAny_release #[G,H3,I3,q3]
def ziK (te:TE)(g:TG):TS:=λBG G H=>te G H λx H1=>g x G H1 BG.nx
def zsL(B:PE X e te)(F:PG X tg g)(hs:swapsWithSole [tg] e pos.line X.env=pure false:=by rfl)(J:swappedStores [tg] e X.env=pure none:=by rfl)(h1:(assignEach [tg] X.env).map (·.2)=[assign tg X.env]:=by rfl):PS X (.Assign [tg] e pos) (ziK te g):=by
 intro BB s G H BG I h;show wpAny_Assign_stores (thn (B BB s G H _ I h) λv O ⟨x,H1,I1,U,Y⟩=>?_) hs J;rw[h1];show thn (F BB O G H1 x v _ I1 U Y) λ_ Z q=>q
def zsQ(q:X.N.Nodup)(hi:X.N[i]?=some x)(B:Loc X.env.scope x)(F:PE X e te)(hs:swapsWith e (some (.Name x pos')) pos.line X.env=pure false:=by rfl)(J:X.fn x=true\/X.env.scope.names.lookup x=some .local:=by fail"l") :
  PS X (.Assign [.Name x pos'] e pos) (ziK te (zbA i)):=by
 intro BB s G H BG I h;show wpAny_Assign_Name (thn (F BB s G H _ I h) λv Y ⟨y,H1,I1,O,U⟩=>?_) hs;show za5 I1 q hi B O (λZ I2=>#[_,H1,I2,U]) J
def tPar (i j:Nat)(ta:TA):TS:=λBG G H=>ta G H λvs H1=>∃v w,vs=[v,w]/\BG.nx ((G.set i (some v)).set j (some w)) H1
def zsP{kt k2 pt2}(hc:X.calm=true)(hN:X.N.Nodup)(hi:X.N[i]?=some x)(hj:X.N[j]?=some y)(hij:i≠j)(hx:X.env.scope.names.lookup x=some .local)(hy:X.env.scope.names.lookup y=some .local)(ha:PA X [a,b] ta)(hw:swappedStores [.Tuple [.Name x px,.Name y py] kt pt] (.Tuple [a,b] k2 pt2) X.env=pure (some [x,y]))(hs:swapsWithSole [.Tuple [.Name x px,.Name y py] kt pt] (.Tuple [a,b] k2 pt2) pos.line X.env=pure false:=by rfl) :
  PS X (.Assign [.Tuple [.Name x px,.Name y py] kt pt] (.Tuple [a,b] k2 pt2) pos) (tPar i j ta):=by
 intro BB s G H BG I h;rw[exec_Assign_arm];show aa (c8 ?_);rw[hs];show aa (af ?_);rw[if_neg (by ext)];show aa (Tuple_ (thn (ha _ BB s G H _ I h)  ?_));rintro us s1 ⟨vs,H1,I1,r1,q1⟩;obtain⟨v,w,e1,q1⟩:=q1;subst e1
 obtain⟨u1,u2,rfl,rv,rw'⟩:∃u1 u2,us=[u1,u2]/\yo v u1/\yo w u2:=by
  cases r1 with
  | cons p q=>
   cases q with
   | cons p' q'=>
    cases q';show#[_,_,BA,p,p']
 show bC ?_ (by change 2<=sizeLine;decide);have I2:Inv X BB G H1 { s1 with heap:=s1.heap.push { cls:=.type "tuple",data:=.seq [u1,u2].toArray } }:=I1.kept (t':=s1.toks) λb o e=>ae _ e;rw[hw];show aa (af ?_);change Af X (do rule "assign.swapped-stores";let items <- unpackItems (.ref s1.heap.objs.size) 2 none;assignInOrder [λv=>bindName X.env y v,λv=>bindName X.env x v] items.reverse;pure Flow.next) _ _ _;show aa (dg (aa (unpackItems_tuple (items:=#v[u1,u2]) (I.ok.hd hc) (IsTup.new s1.heap _) λh' hx'=>?_)));have I3:=I2.kept (h':=h') (t':=s1.toks) λb o e=>hx' b o (aQ (ax e)) e;change wpAny _ _ (assignInOrder [λv=>bindName X.env y v,λv=>bindName X.env x v] [u2,u1] >>= λ_=>pure Flow.next) _ _ _;show aa (fQ (wpAny_bindName (za5 I3 hN hj (.inl hy) rw' (λs2 I4=>?_) (.inr hy))));show fQ (wpAny_bindName (za5 I4 hN hi (.inl hx) rv (λs3 I5=>assignInOrder_nil (af ?_)) (.inr hx)));rw[List.set_comm _ _ (Ne.symm hij)] at I5;show#[_,H1,I5,q1]
def tAug (i:Nat)(te:TE)(ti:TIp):TS:=λBG G H=>∃x,G[i]?=some (some x)/\te G H λy H1=>ti x y H1 λz H2=>BG.nx (G.set i (some z)) H2
def zsM(Z:X.N.Nodup)(hi:X.N[i]?=some x)(O:Loc X.env.scope x)(he:PE X e te)(ho:PIp X J ti)(hf:X.fn x=true\/X.env.scope.names.lookup x=some .local:=by fail"l") :
  PS X (.AugAssign (.Name x pos') J e pos) (tAug i te ti):=by
 intro BB s G H BG I h;obtain⟨v,e1,h⟩:=h;obtain⟨m,hn,hl⟩:=I.loc;have U:Vis X.env.scope x:=by rcases O with k | k;show .inl k;show .inr (.inl k)
 obtain⟨u,r,l⟩:=hl i x v hi e1 U;show wpAny_AugAssign_Name ?_;have Y:Af X (eval e X.env) (λw B=>Af X (inplaceOp J u w) (λr F=>Af X (storeName X.env x r) (λ_=>SP X BB BG .next) X.xe F) X.xe B) X.xe s:=by show thn (he BB s G H _ I h)  ?_;rintro w s1 ⟨y,H1,I1,r1,q1⟩;show thn (ho BB s1 G H1 v y u w _ I1 r r1 q1)  ?_;rintro z s2 ⟨zv,H2,I2,r2,q2⟩;show za5 I2 Z hi O r2 (λs3 I3=>#[_,H2,I3,q2]) hf
 rcases l with ⟨q,hm⟩ | ⟨q,c,hc,hcell⟩;show wpAny_loadName_local I.ok.kind q hn hm Y;rcases q with q | q;show wpAny_loadName_cell I.ok.kind q hc hcell Y;rcases O with k | k;have:X.env.scope.names.lookup x=some .free:=q;right;have:X.env.scope.names.lookup x=some .free:=q;right
def ipI (f:Int->Int->Int):TIp:=λx y H Q=>∃i j,x = .int i/\y = .int j/\Q (.int (f i j)) H
def zrQ:PIp X .Add (ipI λi j=>i+j):=by intro BB s G H x y v u Q I B F h;obtain⟨i,j,J,O,q⟩:=h;subst J;subst O;obtain⟨t,rfl⟩:=B;obtain⟨t',rfl⟩:=F;show iadd_int #[.int _,H,I.tok _,#[_,BA],q]
def ztE (c:TT)(tb:TS):TS:=λBG G H=>∃W:Nat->St->Hp->Prop,(∃m,W m G H)/\∀m G H,W m G H->
 c G H λb H1=>if b=true then ∃N:St->Hp->Prop,(∀ q H',N q H'->∃B,B<m/\W B q H')/\tb { BG with nx:=N,ct:=N,bk:=BG.nx } G H1 else BG.nx G H1
def zmE(hp:PassesOwn (model X.prog X.w) X.A X.env X.xe)(hc:PT X c tc)(hb:PSs X body tb):PS X (.While c body [] pos) (ztE tc tb):=by
 intro BB s G H BG I h;obtain⟨W,⟨m0,w0⟩,F⟩:=h;show wpAny_While (codeAny_whileLoop (λn s'=>∃ J H',Inv X BB J H' s'/\W n J H') ?_ m0 #[G,H,I,w0]);rintro n s1 ⟨B,H1,I1,w1⟩;show dh hp (thn (hc BB s1 B H1 _ I1 (F n B H1 w1))  ?_);rintro b s2 ⟨H2,I2,O⟩
 cases b with
 | true=>
  obtain⟨N,hN,O⟩:=O;rw[if_pos rfl];show dh hp (thn (hb BB s2 B H2 _ I2 O) λf s3 U=>?_)
  cases f with
  | next=>
   obtain⟨q,H3,I3,Y⟩:=U;obtain⟨Z,hm,w3⟩:=hN q H3 Y;show#[Z,hm,q,H3,I3,w3]
  | cont=>
   obtain⟨q,H3,I3,Y⟩:=U;obtain⟨Z,hm,w3⟩:=hN q H3 Y;show#[Z,hm,q,H3,I3,w3]
  | brk=>show U
  | ret v=>show U
 | false=>
  rw[if_neg ay];show fF #[B,H2,I2,O]
end
structure It where
 go:Nat->Hp->Prop
 yld:Nat->Hp->V->Hp->Prop
 stop:Nat->Hp->Prop
def zfW (X:Cx)(BB:AB)(H:Hp)(b:Addr):Prop:=
 H b=none/\b≠X.env.locals/\b∉X.fs/\(b∈X.ex\/X.s₀.heap.objs.size<=b)/\(∀x c,X.env.cells.lookup x=some c->c≠b)/\∀p∈X.pn++BB,p.1≠b
def Inv.fpOk {X:Cx}{BB:AB}{G:St}{H H':Hp}{s:AZ}{b:Addr}(I:Inv X BB G H s)(B:s.heap.objs.size<=b)(hn:H' b=none):zfW X BB H' b:=by
 show#[hn,dY (a9 I.lt B),I.nofs B,.inr (aH I.sz B),λx c e z=>?_,λp F z=>?_];obtain⟨v,q⟩:=I.cell x c e;show absurd (a9 q.lt (by rw[z];show B)) (cZ _);show absurd (a9 (ax (I.pin p F).1) (by rw[z];show B)) (cZ _)
structure Turn (P:Aa)(w:Ab)(K:AH)(tg:Expr)(J:It)(fp:AY)(it:Addr)(tn:Nat->Heap->Prop):Prop where
 mem:it∈fp
 obj:∀i h,tn i h->∀b∈fp,∃o,h.get? b=some o/\∀v,o.data≠.cell v
 keep:∀i h h',tn i h->(∀b∈fp,∀o,h.get? b=some o->h'.get? b=some o)->tn i h'
 item:∀ (X:Cx),X.prog=P->X.w=w->X.K=K->X.calm=true->∀ (i:Nat) (BB:AB) (s:AZ) (G:St) (H:Hp) (E:AA),Inv X BB G H s->(∀b∈fp,zfW X BB H b)->tn i s.heap->J.go i H->
  wpAny (model P w) X.A (pyNext (.ref it)) (λr s1=>∃u,r=some u/\
   wpAny (model P w) X.A (letOwnedTupleGo tg (.ref it) u) (λ_ s2=>∃x H',Inv X BB G H' s2/\yo x u/\J.yld i H x H'/\tn (i+1) s2.heap/\∀b∈fp,H' b=none) E s1) E s
 done:∀ (X:Cx),X.prog=P->X.w=w->X.K=K->X.calm=true->∀ (i:Nat) (BB:AB) (s:AZ) (G:St) (H:Hp) (E:AA),Inv X BB G H s->(∀b∈fp,zfW X BB H b)->tn i s.heap->J.stop i H->
  wpAny (model P w) X.A (pyNext (.ref it)) (λr s1=>r=none/\Inv X BB G H s1) E s
 self:∀ (A:Ae) (i:Nat) (s:AZ) (Q:AA) (E:AA),tn i s.heap->Q (.ref it) s->wpAny (model P w) A (pyIter (.ref it)) Q E s
abbrev TI:=St->Hp->(It->Hp->Prop)->Prop
def PIE (X:Cx)(BB:AB)(G:St)(tg:Expr)(R:It->Hp->Prop)(q:Value)(B:AZ):Prop:=
 ∃ (F:Addr) (I:AY) (O:Nat->Heap->Prop) (J:It) (H':Hp),q = .ref F/\Inv X BB G H' B/\Turn X.prog X.w X.K tg J I F O/\O 0 B.heap/\(∀b∈I,zfW X BB H' b)/\R J H'
def PI (X:Cx)(tg iter:Expr)(wi:TI):Prop:=
 ∀ (BB:AB) (s:AZ) (G:St) (H:Hp) (R:It->Hp->Prop),Inv X BB G H s->wi G H R->
  Af X (eval iter X.env) (λv q=>Af X (pyIter v) (PIE X BB G tg R) X.xe q) X.xe s
def zoP(F:s.heap.get? B=some o)(I:o.cls = .type n)(J:o.data = .fields vs)(hn:["enumerate","zip","dict_itemiterator","dict_reverseitemiterator","odict_iterator","itertools.zip_longest","itertools.pairwise"].contains n=false)(q:Q () s):wpAny M A (letOwnedTupleGo tg (.ref B) u) Q E s:=by
 unfold letOwnedTupleGo
 cases tg <;> first
  | show af q
  | (cases u <;> first
    | show af q
    | (show aa (wpAny_load F ?_)
       rw[I,J];change wpAny M A (if (["enumerate","zip","dict_itemiterator","dict_reverseitemiterator","odict_iterator","itertools.zip_longest","itertools.pairwise"].contains n&&vs[0]?==some (rawInt _))=true then _ else _) Q E s;rw[if_neg (by lia)];show af q))
def Itl (K:AH)(a:Addr):It:=
 #[λi H=>∃xs x,SqL K H a xs/\xs[i]?=some x,λi H x H'=>H'=H/\∀xs,SqL K H a xs->xs[i]?=some x,λi H=>∃xs,SqL K H a xs/\xs.length<=i]
def Itt (K:AH)(a:Addr):It:=
 #[λi H=>∃xs x,SqT K H a xs/\xs[i]?=some x,λi H x H'=>H'=H/\∀xs,SqT K H a xs->xs[i]?=some x,λi H=>∃xs,SqT K H a xs/\xs.length<=i]
def Itr (lo:Int)(n:Nat):It:=#[λi _=>i<n,λi H x H'=>H'=H/\x = .int (lo+i),λi _=>n<=i]
def zk7{P:Aa}{w:Ab}{K:AH}(a q:Addr):Turn P w K tg (Itl K a) [q] q (λi h=>h.IsListIter q a i) where
 mem:=by simp
 obj:=λi h st b B=>by
  have e:b=q:=by simpa using B
  subst e;obtain⟨o,e,c,d⟩:=st;right
 keep:=λi h h' st k=>st.at λo e=>k q (by simp) o e
 item:=by intro X U Y Z hc i BB s G H E I J st hg;subst U Y Z;obtain⟨xs,x,O,hx⟩:=hg;obtain⟨ac,rv,p,hz⟩:=I.list O;obtain⟨u,hu,ru⟩:=rv.get hx;obtain⟨f0,f1,f2,f3,f4,f5⟩:=J q (by simp);show eE st p.isList (x:=u) (by simpa using hu) λh' F sb=>?_;have I1:Inv X BB G H { s with heap:=h' }:=I.turned (t':=s.toks) (λb o B e=>(sb.2 b B).trans e) f0 f1 f3 f4 f5;obtain⟨o,e,c,d⟩:=id F;show#[u,BA,zoP (s:={ s with heap:=h' }) e c d (by ext) #[x,H,I1,ru,#[BA,λys hy=>by rw[I.list_inj hy O];show hx],F,λb B=>(J b B).1]]
 done:=by intro X U Y Z hc i BB s G H E I J st hg;subst U Y Z;obtain⟨xs,O,hx⟩:=hg;obtain⟨ac,rv,p,hz⟩:=I.list O;obtain⟨f0,f1,f2,f3,f4,f5⟩:=J q (by simp);have hl:=rv.length;show eR (I.ok.hd hc) st p.isList (by simp;lia) λh' eb=>#[BA,I.turned (t':=s.toks) (λb o B e=>eb b o B e) f0 f1 f3 f4 f5]
 self:=λ_ _ _ _ _ st h=>wpAny_pyIter_listiter st h
def ziE{P:Aa}{w:Ab}{K:AH}(a q:Addr):Turn P w K tg (Itt K a) [q] q (λi h=>h.IsTupleIter q a i) where
 mem:=by simp
 obj:=λi h st b B=>by
  have e:b=q:=by simpa using B
  subst e;obtain⟨o,e,c,d⟩:=st;right
 keep:=λi h h' st k=>st.at λo e=>k q (by simp) o e
 item:=by intro X Y Z hK hc i BB s G H E I O st hg;subst Y Z hK;obtain⟨xs,x,U,hx⟩:=hg;obtain⟨F,rv,p,hz⟩:=I.tuple U;obtain⟨u,hu,ru⟩:=rv.get hx;obtain⟨f0,f1,f2,f3,f4,f5⟩:=O q (by simp);show wpAny_pyNext_tuple_item st (show s.heap.IsTuple a F.toArray from p) (x:=u) (by simpa using hu) λh' J sb=>?_;have I1:Inv X BB G H { s with heap:=h' }:=I.turned (t':=s.toks) (λb o B e=>(sb.2 b B).trans e) f0 f1 f3 f4 f5;obtain⟨o,e,c,d⟩:=id J;show#[u,BA,zoP (s:={ s with heap:=h' }) e c d (by ext) #[x,H,I1,ru,#[BA,λys hy=>by rw[I.tuple_inj hy U];show hx],J,λb B=>(O b B).1]]
 done:=by intro X Y Z hK hc i BB s G H E I O st hg;subst Y Z hK;obtain⟨xs,U,hx⟩:=hg;obtain⟨F,rv,p,hz⟩:=I.tuple U;obtain⟨f0,f1,f2,f3,f4,f5⟩:=O q (by simp);have hl:=rv.length;show wpAny_pyNext_tuple_end (I.ok.hd hc) st (show s.heap.IsTuple a F.toArray from p) (by simp;lia) λh' eb=>#[BA,I.turned (t':=s.toks) (λb o B e=>eb b o B e) f0 f1 f3 f4 f5]
 self:=λ_ _ _ _ _ st h=>wpAny_pyIter_tupleiter st h
def ziD{P:Aa}{w:Ab}{K:AH}(q:Addr)(lo:Int)(n:Nat):Turn P w K tg (Itr lo n) [q] q (λi h=>IsRangeIter h q (lo+(i:Nat) * 1) ((n:Int) - (i:Nat)) 1) where
 mem:=by simp
 obj:=λi h st b B=>by right
 keep:=λi h h' st k=>k q (by simp) _ st
 item:=by intro X O U Y Z i BB s G H E I J st hg;subst O U Y;obtain⟨f0,f1,f2,f3,f4,f5⟩:=J q (by simp);have W:=Walks.range (prog:=X.prog) (w:=X.w) (I.ok.hd Z) q lo 1 n;show W.item i s _ _ hg st λv h' tk hv F kk=>?_;obtain⟨t,rfl⟩:=hv;have I1:Inv X BB G H { s with heap:=h',toks:=tk }:=I.turned (λb o B e=>kk b o (by simpa using B) e) f0 f1 f3 f4 f5;show#[_,BA,zoP (s:={ s with heap:=h',toks:=tk }) (n := "range_iterator") F BA BA (by ext) #[.int (lo+i),H,I1,#[t,?_],#[BA,BA],F,λb B=>(J b B).1]];rw[Int.mul_one]
 done:=by intro X O U Y Z i BB s G H E I J st hg;subst O U Y;obtain⟨f0,f1,f2,f3,f4,f5⟩:=J q (by simp);show wpAny_pyNext_range_end (I.ok.hd Z) st (by have:n<=i:=hg;lia) λh' eb=>#[BA,I.turned (t':=s.toks) (λb o B e=>eb b o B e) f0 f1 f3 f4 f5]
 self:=λ_ _ _ _ _ st h=>wpAny_pyIter_rangeiter st h
section
variable {X:Cx}{tg:Expr}
def zoR (K:AH)(tl:TE):TI:=λG H R=>tl G H λx H1=>∃a,x = .ref a/\(∃xs,SqL K H1 a xs)/\R (Itl K a) H1
def zva (K:AH)(tl:TE):TI:=λG H R=>tl G H λx H1=>∃a,x = .ref a/\(∃xs,SqT K H1 a xs)/\R (Itt K a) H1
def zpV(F:PE X l tl):PI X tg l (zoR X.K tl):=by
 intro BB s G H R I h;show thn (F BB s G H _ I h)  ?_;rintro v B ⟨x,H1,I1,J,O⟩;obtain⟨a,e,⟨xs,U⟩,q⟩:=O;subst e;cases J;obtain⟨Y,rv,p,hz⟩:=I1.list U;show dE p.isList ?_;show#[B.heap.objs.size,[B.heap.objs.size],_,_,H1,BA,I1.kept (t':=B.toks) λb o e=>ae _ e,zk7 a _,#[_,ar _ BA,BA,BA],λb Z=>?_,q];have e:b=B.heap.objs.size:=by simpa using Z
 subst e;show I1.fpOk (ai _) (I1.hok.fresh (ai _))
def zsK(J:PE X l tl):PI X tg l (zva X.K tl):=by
 intro BB s G H R I h;show thn (J BB s G H _ I h)  ?_;rintro v B ⟨x,H1,I1,O,U⟩;obtain⟨a,e,⟨xs,Y⟩,q⟩:=U;subst e;cases O;obtain⟨F,rv,p,hz⟩:=I1.tuple Y;show c9 (show B.heap.IsTuple a F.toArray from p) ?_;show#[B.heap.objs.size,[B.heap.objs.size],_,_,H1,BA,I1.kept (t':=B.toks) λb o e=>ae _ e,ziE a _,#[_,ar _ BA,BA,BA],λb Z=>?_,q];have e:b=B.heap.objs.size:=by simpa using Z
 subst e;show I1.fpOk (ai _) (I1.hok.fresh (ai _))
def zmO{BB:AB}{G:St}{H:Hp}{s:AZ}{R:It->Hp->Prop}{E:AA}{lo hi:Int}{t u v:Tok}(I:Inv X BB G H s)(h1:-(2 ^ 62)<=lo)(h2:lo<2 ^ 62)(B:-(2 ^ 62)<=hi)(F:hi<2 ^ 62)(q:R (Itr lo (hi - lo).toNat) H):Af X (pyIter (.ref s.heap.objs.size)) (PIE X BB G tg R) E { s with heap:=s.heap.push { cls:=.type "range",data:=.fields #v[.int lo t,.int hi u,.int 1 v] },toks:=tk }:=by
 show wpAny_pyIter_range (IsRange.new ..) (small_one h1 h2 B F) ?_;have I1:Inv X BB G H { s with heap:=s.heap.push { cls:=.type "range",data:=.fields #v[.int lo t,.int hi u,.int 1 v] },toks:=tk }:=I.kept λb o e=>ae _ e
 show#[(s.heap.push { cls:=.type "range",data:=.fields #v[.int lo t,.int hi u,.int 1 v] }).objs.size,[(s.heap.push { cls:=.type "range",data:=.fields #v[.int lo t,.int hi u,.int 1 v] }).objs.size],_,_,H,BA,
  I1.kept (t':=tk) λb o e=>ae _ e,ziD _ lo (hi - lo).toNat,?_,λb J=>?_,q]
 ·have O:lo+((0:Nat):Int) * 1=lo:=by simp
  have U:(((hi - lo).toNat:Nat):Int) - ((0:Nat):Int)=Builtin.Range.rangeSize lo hi 1:=by rw[rangeSize_one];split <;> lia
  change IsRangeIter _ _ (lo+((0:Nat):Int) * 1) ((((hi - lo).toNat:Nat):Int) - ((0:Nat):Int)) 1;rw[O,U];show ar _ BA
 have e:b=(s.heap.push { cls:=.type "range",data:=.fields #v[.int lo t,.int hi u,.int 1 v] }).objs.size:=by simpa using J
 subst e;show I1.fpOk (ai _) (I1.hok.fresh (ai _))
def zrN (ta:TA):TI:=λG H R=>ta G H λvs H1=>∃j:Int,vs=[.int j]/\-(2 ^ 62)<=j/\j<2 ^ 62/\R (Itr 0 j.toNat) H1
def zkt(F:Gl X "range")(J:X.mg "range" = none)(O:PA X [a] ta)(hs:starEach [a] X.env=[(false,eval a X.env)]:=by rfl):PI X tg (.Call (.Name "range" p) [a] [] pos) (zrN ta):=by
 intro BB s G H R I h;show Call_ (zca I F J boot_range (cg (thn (O pos BB s G H _ I h) λus Z ⟨vs,H1,I1,U,B⟩=>?_) hs BA));obtain⟨j,e,B,Y,q⟩:=B;subst e
 cases U with
 | cons r rr=>
  cases rr;obtain⟨t,rfl⟩:=r;show call_range_1 (zmO I1 (by lia) (by lia) B Y (by simpa using q))
def zv6 (wi:TI)(g:TG)(tb:TS):TS:=λBG G H=>wi G H λJ H1=>∃W:Nat->Nat->St->Hp->Prop,(∃m,W 0 m G H1)/\∀i m G H,W i m G H->
 (J.stop i H/\BG.nx G H)\/(J.go i H/\∃N:St->Hp->Prop,(∀ q H',N q H'->∃F,F<m/\W (i+1) F q H')/\∀x H',J.yld i H x H'->g x G H' λB H2=>tb { BG with nx:=N,ct:=N,bk:=BG.nx } B H2)
def zfx (q:AY)(h:Heap):AB:=q.filterMap λb=>(h.get? b).map λo=>(b,o)
def zbd(B:b∈q)(e:h.get? b=some o):(b,o)∈zfx q h:=dC.mpr #[b,B,by rw[e];rfl]
def zkh(F:p∈zfx B h):p.1∈B/\h.get? p.1=some p.2:=by
 obtain⟨b,I,e⟩:=dC.mp F
 cases q:h.get? b with
 | none=>rw[q] at e;cases e
 | some o=>
  grind
def Inv.pinned {BB:AB}{G:St}{H:Hp}{s:AZ}{q:AY}(I:Inv X BB G H s)(F:∀b∈q,zfW X BB H b)(J:∀b∈q,∃o,s.heap.get? b=some o/\∀v,o.data≠.cell v):Inv X (BB++zfx q s.heap) G H s:=
 I.pins_of λp O=>(aF.mp O).elim (λz=>I.pin p (aU _ z)) λz=>by
  obtain⟨B,e⟩:=zkh z;obtain⟨U,Y,Z,_⟩:=F p.1 B;obtain⟨o,e',d⟩:=J p.1 B;right
def Inv.unpinned{BB pl:AB}{G:St}{H:Hp}(I:Inv X (BB++pl) G H s):Inv X BB G H s:=I.pins_of λp q=>I.pin p (aU _ (bH _ q))
def zsN(hp:PassesOwn (model X.prog X.w) X.A X.env X.xe)(hc:X.calm=true)(hi:PI X tg iter wi)(hg:PG X tg g)(B:PSs X body tb)(hs:∀x,foldedSetIterable iter X.env x=pure x:=by intro _;rfl):PS X (.For tg iter body [] pos) (zv6 wi g tb):=by
 intro BB s G H BG I h;show wpAny_For (thn (hi BB s G H _ I h) λv s1 h1=>thn h1 λa0 s2 h2=>?_) hs;obtain⟨it,fp,tn,J,H2,e,I2,T,an,f2,W,⟨m0,w0⟩,ad⟩:=h2;subst e;have F:∀ {H':Hp},(∀b∈fp,H' b=none)->∀b∈fp,zfW X BB H' b:=λhn b B=>#[hn b B,(f2 b B).2];show codeAny_forLoop_any (λn s'=>∃i O H',Inv X BB O H' s'/\tn i s'.heap/\(∀b∈fp,H' b=none)/\W i n O H') ?_ m0 #[0,G,H2,I2,an,λb B=>(f2 b B).1,w0];rintro n s3 ⟨i,U,H3,I3,ag,al,w3⟩;rcases ad i n U H3 w3 with ⟨stop,qn⟩ | ⟨go,N,hN,step⟩
 ·show dh hp (thn (T.done X BA BA BA hc i BB s3 U H3 X.xe I3 (F al) ag stop)  ?_);rintro r s4 ⟨hr,I4⟩;subst hr;show fF #[U,H3,I4,qn]
 ·show dh hp (thn (T.item X BA BA BA hc i BB s3 U H3 X.xe I3 (F al) ag go)  ?_);rintro r s4 ⟨u,hr,h4⟩;subst hr;show dh hp (thn h4  ?_);rintro _ s5 ⟨x,H5,I5,r5,y5,ac,ap⟩;have I5':=I5.pinned (F ap) (T.obj _ _ ac);show dh hp (thn (hg _ s5 U H5 x u _ I5' r5 (step x H5 y5))  ?_);rintro _ s6 ⟨as,H6,I6,q6⟩;show dh hp (thn (B _ s6 as H6 _ I6 q6) λf s7 Z=>?_);have Y:∀ {q:St} {H7:Hp},Inv X (BB++zfx fp s5.heap) q H7 s7->N q H7->∃m,m<n/\∃i O H',Inv X BB O H' s7/\tn i s7.heap/\(∀b∈fp,H' b=none)/\W i m O H':=λ{q H7} I7 n7=>by obtain⟨m',hm,w7⟩:=hN q H7 n7;show#[m',hm,i+1,q,H7,I7.unpinned,T.keep _ _ _ ac λb B o e=>(I7.pin (b,o) (aU _ (aU _ (zbd B e)))).1,λb B=>?_,w7];obtain⟨o,e,d⟩:=T.obj _ _ ac b B;show (I7.pin (b,o) (aU _ (aU _ (zbd B e)))).2.1
  cases f with
  | next=>obtain⟨q,H7,I7,n7⟩:=Z;show Y I7 n7
  | cont=>obtain⟨q,H7,I7,n7⟩:=Z;show Y I7 n7
  | brk=>obtain⟨q,H7,I7,Z⟩:=Z;show#[q,H7,I7.unpinned,Z]
  | ret v=>obtain⟨x7,q,H7,I7,r7,Z⟩:=Z;show#[x7,q,H7,I7.unpinned,r7,Z]
end
def zoL {K:AH}{a:Addr}{xs:AT}{g:TG}{tb:TS}{BG:Ends}{G:St}{H:Hp}(Pv:Nat->St->Hp->Prop)(O:Pv 0 G H)(U:∀i G H,i<=xs.length->Pv i G H->SqT K H a xs)
  (hs:∀i x G H,xs[i]?=some x->Pv i G H->g x G H λB H2=>tb { BG with nx:=Pv (i+1),ct:=Pv (i+1),bk:=BG.nx } B H2) (Y:∀ G H,Pv xs.length G H->BG.nx G H) :
  ∃W:Nat->Nat->St->Hp->Prop,(∃m,W 0 m G H)/\∀i m G H,W i m G H->
   ((Itt K a).stop i H/\BG.nx G H)\/((Itt K a).go i H/\∃N:St->Hp->Prop,(∀ F H',N F H'->∃J,J<m/\W (i+1) J F H')/\∀x H',(Itt K a).yld i H x H'->g x G H' λB H2=>tb { BG with nx:=N,ct:=N,bk:=BG.nx } B H2):=by
 show#[λi m G H=>m=xs.length - i/\i<=xs.length/\Pv i G H,#[xs.length,by simp,aL _,O],?_];rintro i m G H ⟨rfl,hi,p⟩;have q:=U i G H hi p;by_cases I:i<xs.length;show .inr #[#[xs,xs[i],q,by simp[I]],Pv (i+1),λF H' Z=>#[xs.length - (i+1),by lia,BA,I,Z],λx H' y=>?_];obtain⟨e,y⟩:=y;subst e;show hs i x G _ (y xs q) p;have e:i=xs.length:=by lia
 subst e;show .inl #[#[xs,q,ai _],Y G H p]
abbrev R2:=V->V->Hp->VK->Prop
def OpR (X:Cx)(f:Value->Value->Sem Value)(r:R2):Prop:=
 ∀ (BB:AB) (s:AZ) (G:St) (H:Hp) (x y:V) (v u:Value) (Q:VK),Inv X BB G H s->yo x v->yo y u->r x y H Q->
  Af X (f v u) (EP X BB G Q) X.xe s
def UnR (X:Cx)(f:Value->Sem Value)(r:V->Hp->VK->Prop):Prop:=
 ∀ (BB:AB) (s:AZ) (G:St) (H:Hp) (x:V) (v:Value) (Q:VK),Inv X BB G H s->yo x v->r x H Q->
  Af X (f v) (EP X BB G Q) X.xe s
def zdu (X:Cx)(f:Value)(r:AT->Hp->VK->Prop):Prop:=
 ∀ (BB:AB) (s:AZ) (G:St) (H:Hp) (xs:AT) (us:AN) (Q:VK),Inv X BB G H s->yb xs us->r xs H Q->
  Af X (call f us) (EP X BB G Q) X.xe s
def tOp (r:R2)(ta tb:TE):TE:=λG H Q=>ta G H λx H1=>tb G H1 λy H2=>r x y H2 Q
def tUn (r:V->Hp->VK->Prop)(ta:TE):TE:=λG H Q=>ta G H λx H1=>r x H1 Q
def rI (C:Int->Int->Prop)(g:Int->Int->V):R2:=λx y H Q=>∃i j,x = .int i/\y = .int j/\C i j/\Q (g i j) H
def rI0 (g:Int->Int->V):R2:=λx y H Q=>∃i j,x = .int i/\y = .int j/\Q (g i j) H
def rU (g:Int->V):V->Hp->VK->Prop:=λx H Q=>∃i,x = .int i/\Q (g i) H
section
variable {X:Cx}{a b c:Expr}{ta tb tc:TE}{pos:Pos}
def zuB(J:PE X a ta)(O:PE X b tb){BB:AB}{G:St}{H:Hp}{R:V->V->Hp->Prop}(I:Inv X BB G H s)(h:ta G H λx H1=>tb G H1 λy H2=>R x y H2){Q:AA}{f:Value->Value->Sem Value}(U:∀v u F x y H2,Inv X BB G H2 F->yo x v->yo y u->R x y H2->Af X (f v u) Q X.xe F) :
  Af X (eval a X.env) (λv q=>Af X (eval b X.env) (λu B=>Af X (f v u) Q X.xe B) X.xe q) X.xe s:=by
 show thn (J BB s G H _ I h)  ?_;rintro v Y ⟨x,H1,I1,Z,q1⟩;show thn (O BB Y G H1 _ I1 q1)  ?_;rintro u F ⟨y,H2,I2,r2,q2⟩;show U v u F x y H2 I2 Z r2 q2
def zvP(F:OpR X (binaryOp B) r)(J:PE X a ta)(O:PE X b tb):PE X (.BinOp a B b pos) (tOp r ta tb):=by intro BB s G H Q I h;show wpAny_BinOp (zuB J O I h λv u U x y H2 I2 Y Z q=>F BB U G H2 x y v u Q I2 Y Z q)
def zsC(B:UnR X (unaryOp q) r)(F:PE X a ta):PE X (.UnaryOp q a pos) (tUn r ta):=by intro BB s G H Q I h;show UnaryOp_ (thn (F BB s G H _ I h) <| by rintro v J ⟨x,H1,I1,O,U⟩;show B BB J G H1 x v Q I1 O U)
def opI{C:Int->Int->Prop}{g:Int->Int->Int}(B:∀ (i j:Int) (t u:Tok) (s:AZ) (Q:AA) (E:AA),C i j->Q (.int (g i j) s.toks) { s with toks:=s.toks+1 }->Af X (f (.int i t) (.int j u)) Q E s) :
  OpR X f (rI C λi j=>.int (g i j)):=by
 intro BB s G H x y v u Q I F J h;obtain⟨i,j,rfl,rfl,O,q⟩:=h;obtain⟨t,rfl⟩:=F;obtain⟨t',rfl⟩:=J;show B i j t t' s _ _ O #[.int (g i j),H,I.tok _,#[_,BA],q]
def opI0{g:Int->Int->Int}(B:∀ (i j:Int) (t u:Tok) (s:AZ) (Q:AA) (E:AA),Q (.int (g i j) s.toks) { s with toks:=s.toks+1 }->Af X (f (.int i t) (.int j u)) Q E s) :
  OpR X f (rI0 λi j=>.int (g i j)):=by
 intro BB s G H x y v u Q I F J h;obtain⟨i,j,rfl,rfl,q⟩:=h;obtain⟨t,rfl⟩:=F;obtain⟨t',rfl⟩:=J;show B i j t t' s _ _ #[.int (g i j),H,I.tok _,#[_,BA],q]
def zuk{g:Int->Int->Bool}(B:∀ (i j:Int) (t u:Tok) (s:AZ) (Q:AA) (E:AA),Q (.bool (g i j)) s->Af X (f (.int i t) (.int j u)) Q E s) :
  OpR X f (rI0 λi j=>.bl (g i j)):=by
 intro BB s G H x y v u Q I F J h;obtain⟨i,j,rfl,rfl,q⟩:=h;obtain⟨t,rfl⟩:=F;obtain⟨t',rfl⟩:=J;show B i j t t' s _ _ #[.bl (g i j),H,I,BA,q]
def zra (i j:Int):Prop:=0<j/\j<1073741824
def CPow (i j:Int):Prop:=0<=j/\j<=1000000/\i.natAbs<2 ^ 64
def znl (i j:Int):Prop:=(-(2 ^ 64)<i/\i<2 ^ 64)\/(-(2 ^ 64)<j/\j<2 ^ 64)
def znl.ok {i j:Int}(h:znl i j):IntMulOk i j:=by
 rcases h with ⟨h1,h2⟩ | ⟨h1,h2⟩;show .of_left (intBits_le_64 h1 h2);show .of_right (intBits_le_64 h1 h2)
def zsh:OpR X (binaryOp .Add) (rI0 λi j=>.int (i+j)):=opI0 λ_ _ _ _ _ _ _ q=>add_int q
def zso:OpR X (binaryOp .Sub) (rI0 λi j=>.int (i - j)):=opI0 λ_ _ _ _ _ _ _ q=>sub_int q
def zsl:OpR X (binaryOp .Mult) (rI znl λi j=>.int (i * j)):=opI λ_ _ _ _ _ _ _ B q=>mul_int q B.ok
def zpC:OpR X (binaryOp .FloorDiv) (rI zra λi j=>.int (i / j)):=opI λi j _ _ _ _ _ B q=>by have h1:(0:Int)<j:=B.1;have h2:j<1073741824:=B.2;show floordiv_int (by lia) (by rw[Int.fdiv_eq_ediv_of_nonneg i (by lia)];show q) (.inl (PyProof.noPylong_small (by lia)))
def zsk:OpR X (binaryOp .Mod) (rI (λ_ j=>0<j) λi j=>.int (i % j)):=opI λi j _ _ _ _ _ B q=>by have h1:(0:Int)<j:=B;show mod_int' (by lia) (by rw[Int.fmod_eq_emod_of_nonneg i (by lia)];show q)
def zsn:OpR X (binaryOp .Pow) (rI CPow λi j=>.int (i ^ j.toNat)):=opI λ_ _ _ _ _ _ _ B q=>pow_int_small B.1 B.2.1 B.2.2 q
def unI{g:Int->Int}(B:∀ (i:Int) (t:Tok) (s:AZ) (Q:AA) (E:AA),Q (.int (g i) s.toks) { s with toks:=s.toks+1 }->Af X (f (.int i t)) Q E s) :
  UnR X f (rU λi=>.int (g i)):=by
 intro BB s G H x v Q I F h;obtain⟨i,rfl,q⟩:=h;obtain⟨t,rfl⟩:=F;show B i t s _ _ #[.int (g i),H,I.tok _,#[_,BA],q]
def zof:UnR X (unaryOp .USub) (rU λi=>.int (-i)):=unI λ_ _ _ _ _ q=>neg_int q
end
def zv3:V->V->Bool
 | .non,.non=>true | .non,.int _=>true | .int _,.non=>true | .non,.bl _=>true | .bl _,.non=>true | .non,.str _=>true | .str _,.non=>true
 | .int _,.int _=>true | .bl _,.bl _=>true | .str _,.str _=>true | .byt _,.byt _=>true
 | .int _,.str _=>true | .str _,.int _=>true | .bl _,.str _=>true | .str _,.bl _=>true
 | _,_=>false
def rEq:R2:=λx y H Q=>zv3 x y=true/\Q (.bl (decide (x=y))) H
def rNe:R2:=λx y H Q=>zv3 x y=true/\Q (.bl (!decide (x=y))) H
def zjc {i j:Int}:decide (V.int i=V.int j)=(i==j):=by rw[cA];simp
def zny:decide (V.bl i=V.bl j)=(i==j):=by rw[cA];simp
def zjd:decide (V.str i=V.str j)=(i==j):=by rw[cA];simp
def zjb:decide (V.byt i=V.byt j)=(i.toList==j.toList):=by
 rw[cA];right
section
variable {X:Cx}{a b c:Expr}{ta tb tc:TE}{pos:Pos}
def zX{BB:AB}{G:St}{H:Hp}{Q:VK}(I:Inv X BB G H s)(q:Q (.bl k) H)(e:k=B):EP X BB G Q (.bool B) s:=by subst e;show#[.bl k,H,I,BA,q]
def zvG:OpR X (compareOp .Eq) rEq:=by
 intro BB s G H x y v u Q I F B h;obtain⟨hs,q⟩:=h
 cases x with
 | non=>
  cases F
  cases y with
  | non=>cases B;show PySem.EqNone.eq_none_none (zX I q (by simp))
  | bl j=>cases B;show PySem.EqNone.eq_none_bool (zX I q (by simp))
  | int j=>obtain⟨t',rfl⟩:=B;show PySem.EqNone.eq_none_int (zX I q (by simp))
  | str j=>obtain⟨t',rfl⟩:=B;show PySem.EqNone.eq_none_str (zX I q (by simp))
  | _=>show absurd (show false=true from hs) ay
 | bl i=>
  cases F
  cases y with
  | non=>cases B;show PySem.EqNone.eq_bool_none (zX I q (by simp))
  | bl j=>cases B;show eq_bool (zX I q zny)
  | str j=>obtain⟨t',rfl⟩:=B;show PySem.EqMixed.eq_bool_str (zX I q (by simp))
  | _=>show absurd (show false=true from hs) ay
 | int i=>
  obtain⟨t,rfl⟩:=F
  cases y with
  | non=>cases B;show PySem.EqNone.eq_int_none (zX I q (by simp))
  | int j=>obtain⟨t',rfl⟩:=B;show eq_int (zX I q zjc)
  | str j=>obtain⟨t',rfl⟩:=B;show PySem.EqMixed.eq_int_str (zX I q (by simp))
  | _=>show absurd (show false=true from hs) ay
 | str i=>
  obtain⟨t,rfl⟩:=F
  cases y with
  | non=>cases B;show PySem.EqNone.eq_str_none (zX I q (by simp))
  | bl j=>cases B;show PySem.EqMixed.eq_str_bool (zX I q (by simp))
  | int j=>obtain⟨t',rfl⟩:=B;show PySem.EqMixed.eq_str_int (zX I q (by simp))
  | str j=>obtain⟨t',rfl⟩:=B;show eq_str (zX I q zjd)
  | _=>show absurd (show false=true from hs) ay
 | byt i=>
  obtain⟨t,rfl⟩:=F
  cases y with
  | byt j=>obtain⟨t',rfl⟩:=B;show PySem.W.eq_bytes (zX I q zjb)
  | _=>show absurd (show false=true from hs) ay
 | _=>cases y <;> show absurd (show false=true from hs) ay
def zvL:OpR X (compareOp .NotEq) rNe:=by
 intro BB s G H x y v u Q I F B h;obtain⟨hs,q⟩:=h
 cases x with
 | non=>
  cases F
  cases y with
  | non=>cases B;show PySem.EqNone.ne_none_none (zX I q (by simp))
  | bl j=>cases B;show PySem.EqNone.ne_none_bool (zX I q (by simp))
  | int j=>obtain⟨t',rfl⟩:=B;show PySem.EqNone.ne_none_int (zX I q (by simp))
  | str j=>obtain⟨t',rfl⟩:=B;show PySem.EqNone.ne_none_str (zX I q (by simp))
  | _=>show absurd (show false=true from hs) ay
 | bl i=>
  cases F
  cases y with
  | non=>cases B;show PySem.EqNone.ne_bool_none (zX I q (by simp))
  | bl j=>cases B;show ne_bool (zX I q (congrArg not zny))
  | str j=>obtain⟨t',rfl⟩:=B;show PySem.EqMixed.ne_bool_str (zX I q (by simp))
  | _=>show absurd (show false=true from hs) ay
 | int i=>
  obtain⟨t,rfl⟩:=F
  cases y with
  | non=>cases B;show PySem.EqNone.ne_int_none (zX I q (by simp))
  | int j=>obtain⟨t',rfl⟩:=B;show ne_int (zX I q (congrArg not zjc))
  | str j=>obtain⟨t',rfl⟩:=B;show PySem.EqMixed.ne_int_str (zX I q (by simp))
  | _=>show absurd (show false=true from hs) ay
 | str i=>
  obtain⟨t,rfl⟩:=F
  cases y with
  | non=>cases B;show PySem.EqNone.ne_str_none (zX I q (by simp))
  | bl j=>cases B;show PySem.EqMixed.ne_str_bool (zX I q (by simp))
  | int j=>obtain⟨t',rfl⟩:=B;show PySem.EqMixed.ne_str_int (zX I q (by simp))
  | str j=>obtain⟨t',rfl⟩:=B;show ne_str (zX I q (congrArg not zjd))
  | _=>show absurd (show false=true from hs) ay
 | byt i=>
  obtain⟨t,rfl⟩:=F
  cases y with
  | byt j=>obtain⟨t',rfl⟩:=B;show PySem.W.ne_bytes (zX I q (congrArg not zjb))
  | _=>show absurd (show false=true from hs) ay
 | _=>cases y <;> show absurd (show false=true from hs) ay
def zvK:OpR X (compareOp .Lt) (rI0 λi j=>.bl (decide (i<j))):=zuk λ_ _ _ _ _ _ _ q=>lt_int q
def zvJ:OpR X (compareOp .LtE) (rI0 λi j=>.bl (decide (i<=j))):=zuk λ_ _ _ _ _ _ _ q=>le_int q
def zvI:OpR X (compareOp .Gt) (rI0 λi j=>.bl (decide (j<i))):=zuk λ_ _ _ _ _ _ _ q=>gt_int q
def zvH:OpR X (compareOp .GtE) (rI0 λi j=>.bl (decide (j<=i))):=zuk λ_ _ _ _ _ _ _ q=>ge_int q
def zt(b:Expr)(h:q≠.In:=by ext)(h2:q≠.NotIn:=by ext):behindInMarks q b=false:=by
 have B:(q==CmpOp.In)=false:=by cases q <;> first | rfl | show absurd BA h
 have F:(q==CmpOp.NotIn)=false:=by cases q <;> first | rfl | show absurd BA h2
 cases b <;> simp[behindInMarks,B,F]
def zpH(F:OpR X (compareOp B) r)(J:PE X a ta)(O:PE X b tb)(U:behindInMarks B b=false):PE X (.Compare a [B] [b] pos) (tOp r ta tb):=by intro BB s G H Q I h;show wpAny_Compare1 (zuB J O I h λv u Y x y H2 I2 Z ry q=>F BB Y G H2 x y v u Q I2 Z ry q) U
def zqT (t:TE):TT:=λG H Q=>t G H λx H'=>∃k,x = .bl k/\Q k H'
def zp1(B:OpR X (compareOp q) r)(F:PE X a ta)(J:PE X b tb)(O:behindInMarks q b=false):PT X (.Compare a [q] [b] pos) (zqT (tOp r ta tb)):=by
 intro BB s G H Q I h
 show wpAny_isTrue_Compare1 (thn (F BB s G H _ I h) λv U ⟨x,H1,I1,Y,Z⟩=>thn (J BB U G H1 _ I1 Z) λu s2 ⟨y,H2,I2,r2,q2⟩=>
  thn (B BB s2 G H2 x y v u _ I2 Y r2 q2) λc s3 ⟨z,H3,I3,r3,k,e,q3⟩=>?_) O
 subst e;cases r3;show cr #[H3,I3,q3]
def zkZ (r q:R2)(ta tb tc:TE):TE:=λG H Q=>ta G H λx H1=>tb G H1 λy H2=>r x y H2 λz H3=>∃k,z = .bl k/\
 (if k=true then tc G H3 λw' H4=>q y w' H4 Q else Q (.bl false) H3)
def zmx(Y:OpR X (compareOp B) r)(F:OpR X (compareOp q) J)(Z:PE X a ta)(hb:PE X b tb)(hc:PE X c tc)(hm:lastMarks [B,q] [b,c]=false:=by with_unfolding_all rfl):PE X (.Compare a [B,q] [b,c] pos) (zkZ r J ta tb tc):=by
 intro BB s G H Q I h
 show Compare_chain (thn (Z BB s G H _ I h) λv s1 ⟨x,H1,I1,r1,q1⟩=>chain_link (thn (hb BB s1 G H1 _ I1 q1) λu s2 ⟨y,H2,I2,O,q2⟩=>
  thn (Y BB s2 G H2 x y v u _ I2 r1 O q2) λd s3 ⟨z,H3,I3,r3,k,e,U⟩=>?_)) hm
 subst e;cases r3;show cr ?_
 cases k with
 | false=>show ite_ff #[.bl false,H3,I3,BA,U]
 | true=>show ite_tt (chain_last (thn (hc BB s3 G H3 _ I3 U) <| by rintro w' s4 ⟨z',H4,I4,r4,q4⟩;show F BB s4 G H4 y z' u w' Q I4 O r4 q4))
def zhm:(sizeLine:Nat)<2 ^ 63:=by rw[cH];decide
def zbI(r:yb [x] us):∃u,us=[u]/\yo x u:=by
 cases r with
 | cons q B=>cases B;show#[_,BA,q]
def zwu(r:yb [x,y] us):∃u w',us=[u,w']/\yo x u/\yo y w':=by
 cases r with
 | cons q B=>
  cases B with
  | cons F I=>cases I;show#[_,_,BA,q,F]
def zlv:zdu X (.builtin "abs") (λxs H Q=>∃i,xs=[.int i]/\Q (.int (if i<0 then -i else i)) H):=by intro BB s G H xs us Q I r h;obtain⟨i,rfl,q⟩:=h;obtain⟨u,rfl,t,rfl⟩:=zbI r;show call_abs_int λu tk=>#[.int (if i<0 then -i else i),H,I.tok _,#[_,BA],q]
def zt3 (K:AH)(x:V)(H:Hp)(n:Nat):Prop:=
 match x with
 | .str y=>y.length<=sizeLine/\n=y.length
 | .byt y=>y.size<=sizeLine/\n=y.size
 | .ref p=>(∃xs,SqL K H p xs/\n=xs.length)\/∃xs,SqT K H p xs/\n=xs.length
 | _=>False
def zlx:zdu X (.builtin "len") (λxs H Q=>∃x n,xs=[x]/\zt3 X.K x H n/\Q (.int n) H):=by
 intro BB s G H xs us Q I r h;obtain⟨x,n,rfl,e,q⟩:=h;obtain⟨u,rfl,rx⟩:=zbI r;have hl:=zhm;have hs:sizeLine=16777216:=cH
 cases x with
 | str y=>
  obtain⟨t,rfl⟩:=rx;obtain⟨hy,e'⟩:y.length<=sizeLine/\n=y.length:=e;subst e';show len_str (by lia) #[.int _,H,I.tok _,#[_,BA],q]
 | byt y=>
  obtain⟨t,rfl⟩:=rx;obtain⟨hy,e'⟩:y.size<=sizeLine/\n=y.size:=e;subst e';show PySem.W.len_bytes (by lia) #[.int _,H,I.tok _,#[_,BA],q]
 | ref p=>
  cases rx;have e':(∃xs,SqL X.K H p xs/\n=xs.length)\/∃xs,SqT X.K H p xs/\n=xs.length:=e;rcases e' with ⟨xs,hx,e'⟩ | ⟨xs,hx,e'⟩;subst e';obtain⟨its,r',pl,hz⟩:=I.list hx;have hlen:=r'.length;show Calls.call_len_list pl.isList (by simp only[aY];lia) #[.int xs.length,H,I.tok _,#[_,by simp only[aY];rw[hlen]],q];subst e';obtain⟨its,r',pl,hz⟩:=I.tuple hx;have hlen:=r'.length;show len_tuple pl (by simp only[aY];lia) #[.int xs.length,H,I.tok _,#[_,by simp only[aY];rw[hlen]],q]
 | _=>show (show False from e).elim
end
structure ObjM (h:Heap)(x dx C:Addr)(mA:AI):Prop where
 obj:h.get? x=some (PySem.W.instObj C dx)
 ns:h.Ns1 dx mA
 ne:dx≠x
def zjW {h:Heap}{dx:Addr}{mA:AI}(n:h.Ns1 dx mA):∃F,h.get? dx=some F/\∀name,PySem.W.lookIn name F=some (mA name):=by
 obtain⟨o,es,Z,I,J,O,_,U⟩:=n;show#[o,I,λname=>?_];have e:=U name;unfold nsFind findBy at e;rw[<- Array.find?_toList] at e;unfold PySem.W.lookIn;rw[J];dsimp only;split;right
 ·rename_i q;rw[q] at e
  have a:es.toList.any (·.refKey)=false:=by rw[List.any_eq_false];intro y Y;obtain⟨z,t,B⟩:=O y (bZ.mp Y);simp[DictEntry.refKey,B]
  grind
def ObjM.look(I:ObjM h x dx C mA):∃q,PySem.W.InstAt h x (PySem.W.instObj C dx) C (some q)/\∀name,PySem.W.lookIn name q=some (mA name):=
 let ⟨q,ho,hl⟩:=zjW I.ns
 #[q,#[I.obj,BA,BA,ho],hl]
section
variable {prog:Aa}{w:Ab}{A:Ae}{E:AA}{s:AZ}{K:AH}{x dx C f:Addr}{mA:AI}{name:Str}{v:Value}
def zoN(X:K.In s.heap)(I:ObjM s.heap x dx C mA)(F:PySem.W.plainGet K C name=true)(O:PySem.W.hasDictIn K C=true)(U:PySem.W.findIn K (.ref C) name=some none)(Y:mA name=some v)(B:PySem.W.handedIn v=true)(h:Q v { s with toks:=s.toks+1 }) :
  Ag prog w A (getAttr (.ref x) name q) Q E s:=by
 obtain⟨od,J,Z⟩:=I.look;show PySem.W.get_value X J (fG F).1 (PySem.W.findObj_own O U BA (by rw[Z,Y])) B h
def zlP(X:K.In s.heap)(I:ObjM s.heap x dx C mA)(q:PySem.W.plainGet K C name=true)(B:PySem.W.findIn K (.ref C) name=some (some (.ref f)))(F:PySem.W.isFn K (.ref f)=true)(O:mA name=none)(h:Q (.ref f,[.ref x]) s) :
  Ag prog w A (getMethod (.ref x) name pl) Q E s:=by
 obtain⟨U,J,Y⟩:=I.look;show PySem.W.method_fn X J (fG q).1 (fG q).2 B (beq_iff_eq.mp F) (by change (PySem.W.lookIn name U).map (·.isSome)=some false;rw[Y,O];rfl) h
def zqD(X:K.In s.heap)(I:ObjM s.heap x dx C mA)(hs:PySem.W.findIn K (.ref C) "__setattr__" = some (some (.builtin "object.__setattr__")))(Z:PySem.W.plainOver K C=true)(ht:PySem.W.takerIn K C name=some none)(hh:PySem.W.hasDictIn K C=true)(hw:PySem.Within mA ns)(hsz:ns.length<=sizeLine)(h:∀h',ObjM h' x dx C (λy=>if y=name then some v else mA y)->Heap.SameBut dx s.heap h'->Q () { s with heap:=h',toks:=s.toks+2 }) :
  Ag prog w A (setAttr (.ref x) name v) Q E s:=by
 obtain⟨od,J,hl⟩:=I.look;show PySem.W.set_plain X J hs (PySem.W.osa_open (s:={ s with toks:=s.toks+1 }) (r:=none) X J Z ht λb=>?_);obtain⟨cd,hc,F⟩:=PySem.W.any_some hh;have hx:s.heap.get? x=some #[.ref C,some dx,.plain,#v[]]:=I.obj;show aa (af (aa (aa (wpAny_loadPart hx (aa (PySem.W.Looks.here (s:={ s with toks:=s.toks+1 }) (PySem.W.looks_clsIn X hc) ?_))))));rw[F];show af (a:=some dx) (aa (af (aa ?_)));show wpAny_nsSet1 (s:={ s with toks:=s.toks+1 }) I.ns λh' q B=>?_;obtain⟨oD,ac,ad,O,U,Y⟩:=q.count (PySem.Within.cons name v hw);show aa (wpAny_lookBehind O (by rw[U];show pastItsLine_dict (aH Y (by right))) ?_);show af (h _ #[(B.2 _ (Ne.symm I.ne)).trans I.obj,q,I.ne] B)
def zmh(X:K.In s.heap)(F:PySem.W.makesIn K C=true)(hi:PySem.W.findIn K (.ref C) "__init__" = some (some (.ref f)))(I:PySem.W.typeIn K (.ref f)=some (.type "function"))(h:codeAny (model prog w) (A.under (.builtin "type.__call__" #[.ref C::vs,B])) (.call (.ref f) #[.ref (s.heap.objs.size+1)::vs,B]) (PySem.W.InitBack (s.heap.objs.size+1) R)
   { s with heap:=(s.heap.push PySem.W.emptyDict).push (PySem.W.instObj C s.heap.objs.size) }) :
  codeAny (model prog w) A (.call (.ref C) #[vs,B]) R s:=by
 obtain⟨J,g,d,t,O⟩:=s;show PySem.W.make_core (PySem.W.makes_of X F) (PySem.W.looks_findIn X hi) (λq=>PySem.W.bind_fn X q I) (.inl BA) h
end
def zbE (f:Str)(v:V):List (Str×V)->List (Str×V)
 | []=>[(f,v)]
 | (g,x)::r=>if g=f then (g,v)::r else (g,x)::zbE f v r
theorem zcc (f g:Str)(v:V):∀fs:List (Str×V),(zbE f v fs).lookup g=if g=f then some v else fs.lookup g
 | []=>by
  change List.lookup g [(f,v)]=_;grind
 | (k,x)::r=>by
  have q:=zcc f g v r;rw[show zbE f v ((k,x)::r)=(if k=f then (k,v)::r else (k,x)::zbE f v r) from rfl];grind
theorem zb9 (f:Str)(v:V):∀fs:List (Str×V),f∈(zbE f v fs).map (·.1)/\∀g,g∈fs.map (·.1)->g∈(zbE f v fs).map (·.1)
 | []=>#[by simp[zbE],λg h=>by simp at h]
 | (k,x)::r=>by
  obtain⟨q,B⟩:=zb9 f v r;rw[show zbE f v ((k,x)::r)=(if k=f then (k,v)::r else (k,x)::zbE f v r) from rfl];grind
theorem zcb (f:Str)(v:V):∀fs:List (Str×V),(zbE f v fs).length<=fs.length+1
 | []=>by simp[zbE]
 | (k,x)::r=>by
  have q:=zcb f v r;rw[show zbE f v ((k,x)::r)=(if k=f then (k,v)::r else (k,x)::zbE f v r) from rfl];grind
def zfV.some_of(r:zfV (some v) o):∃u,o=some u/\yo v u:=by
 cases o with
 | none=>show (show False from r).elim
 | some u=>show#[u,BA,r]
def zfV.none_of(r:zfV none o):o=none:=by
 cases o with
 | none=>rfl
 | some u=>show (show False from r).elim
def zjw(r:yo v u):PySem.W.handedIn u=true:=by
 cases v with
 | non=>cases (show u=Value.none from r);rfl
 | bl b=>cases (show u=Value.bool b from r);rfl
 | int i=>obtain⟨t,e⟩:=(show ∃t,u=Value.int i t from r);cases e;rfl
 | str x=>obtain⟨t,e⟩:=(show ∃t,u=Value.str x t from r);cases e;rfl
 | byt b=>obtain⟨t,e⟩:=(show ∃t,u=Value.bytes b t from r);cases e;rfl
 | flt b=>obtain⟨t,e⟩:=(show ∃t,u=Value.float b t from r);cases e;rfl
 | ref a=>cases (show u=Value.ref a from r);rfl
 | ty n=>cases (show u=Value.type n from r);rfl
section
variable {P:Aa}{w:Ab}{H H':Hp}{h h':Heap}{a C dx:Addr}{fs fs':List (Str×V)}
def zdI (B:HOk P w H h)(e:H a=some (.ins C dx fs)):∃mA,ObjM h a dx C mA/\(∀f,zfV (fs.lookup f) (mA f))/\PySem.Within mA (fs.map (·.1))/\fs.length<=1000/\H dx=some (.own a):=by obtain⟨d,z,F,ob,mA,n,r,q⟩:=(show yd P w H h a (.ins C dx fs) from B a _ e);show#[mA,#[ob,n,F],r,q,z,d]
end
structure Cls (K:AH)(C:Addr):Prop where
 pg:PySem.W.plainGet K C Str.empty=true
 hd:PySem.W.hasDictIn K C=true
 po:PySem.W.plainOver K C=true
 sa:PySem.W.findIn K (.ref C) "__setattr__" = some (some (.builtin "object.__setattr__"))
def Cls.get {K:AH}{C:Addr}(c:Cls K C)(f:Str):PySem.W.plainGet K C f=true:=c.pg
def zar (K:AH)(C:Addr)(f:Str):Prop:=PySem.W.findIn K (.ref C) f=some none
def zar.taker{K:AH}{C:Addr}(n:zar K C f):PySem.W.takerIn K C f=some none:=by unfold PySem.W.takerIn;rw[show PySem.W.findIn K (.ref C) f=some none from n];rfl
structure Meth (K:AH)(C:Addr)(m:Str)(f:Addr):Prop where
 at_:PySem.W.findIn K (.ref C) m=some (some (.ref f))
 fn:PySem.W.isFn K (.ref f)=true
 kp:PySem.W.keepIn K (.ref f)=true
section
variable {X:Cx}{BB:AB}{G:St}{H:Hp}{s:AZ}{a C dx:Addr}{fs:List (Str×V)}{f:Str}{v:V}{A:Ae}{E:AA}
def zh4(I:Inv X BB G H s)(e:H a=some (.ins C dx fs))(c:Cls X.K C)(n:zar X.K C f)(l:fs.lookup f=some v)(h:∀u s',Inv X BB G H s'->yo v u->Q u s'):wpAny (model X.prog X.w) A (getAttr (.ref a) f b) Q E s:=by
 obtain⟨mA,O,r,_,_,_⟩:=zdI I.hok e;obtain⟨u,B,q⟩:=zfV.some_of (v:=v) (o:=mA f) (by rw[<- l];show r f);show zoN I.kIn O (c.get f) c.hd n B (zjw q) (h u _ (I.tok _) q)
def zh5(I:Inv X BB G H s)(e:H a=some (.ins C dx fs))(c:Cls X.K C)(k:Meth X.K C m g)(l:fs.lookup m=none)(h:Q (.ref g,[.ref a]) s):wpAny (model X.prog X.w) A (getMethod (.ref a) m pl) Q E s:=by
 obtain⟨mA,O,r,_,_,_⟩:=zdI I.hok e;have hn:mA m=none:=zfV.none_of (by rw[<- l];show r m);show zlP I.kIn O (c.get m) k.at_ k.fn hn h
def ziu(I:Inv X BB G H s)(e:H a=some (.ins C dx fs))(c:Cls X.K C)(n:zar X.K C f)(hl:fs.length<1000)(F:yo y u)(h:∀s',Inv X BB G (upd H a (.ins C dx (zbE f y fs))) s'->Q () s'):wpAny (model X.prog X.w) A (setAttr (.ref a) f u) Q E s:=by
 obtain⟨mA,O,r,wi,_,B⟩:=zdI I.hok e;have J:(fs.map (·.1)).length<=sizeLine:=by rw[ab,cH];lia
 show zqD I.kIn O c.sa c.po n.taker c.hd wi J λh' O' U=>h _ ?_;have Y:∃o,h'.get? dx=some o:=let ⟨o,_,_,e',_⟩:=O'.ns;#[o,e'];show I.write (x:=a) (e:=dx) (by rw[e];show True.intro) (.inr B) (λb q Z z=>(U.2 b Z).trans z) Y ?_;show#[by rw[zf O.ne];show B,?_,O.ne,O'.obj,_,O'.ns,λg=>?_,λg hg=>?_];have:=zcb f y fs;lia;change zfV ((zbE f y fs).lookup g) (if g=f then some u else mA g);rw[zcc];by_cases q:g=f;rw[if_pos q,if_pos q];show F;right;by_cases q:g=f;rw[q];show (zb9 f y fs).1;show (zb9 f y fs).2 g (wi g λz=>hg ?_);grind
def Inv.made (I:Inv X BB G H s):Inv X BB G (upd (upd H s.heap.objs.size (.own (s.heap.objs.size+1))) (s.heap.objs.size+1) (.ins C s.heap.objs.size []))
  { s with heap:=(s.heap.push PySem.W.emptyDict).push (PySem.W.instObj C s.heap.objs.size) }:=by
 have B:(s.heap.push PySem.W.emptyDict).get? s.heap.objs.size=some PySem.W.emptyDict:=ar s.heap BA
 have J:((s.heap.push PySem.W.emptyDict).push (PySem.W.instObj C s.heap.objs.size)).get? (s.heap.objs.size+1)=some (PySem.W.instObj C s.heap.objs.size):=by
  have:=ar (s.heap.push PySem.W.emptyDict) (o:=PySem.W.instObj C s.heap.objs.size) BA;right
 have O:(s.heap.push PySem.W.emptyDict).Ns s.heap.objs.size (λ_=>none):=#[PySem.W.emptyDict,#v[],_,B,BA,(λe U=>absurd U (by simp)),λ_=>rfl];have I1:=I.laid (a:=s.heap.objs.size) (o:=.own (s.heap.objs.size+1)) (h':=s.heap.push PySem.W.emptyDict) (t':=s.toks) (λb u q=>ae _ q) (ai _) #[_,B];show I1.laid (a:=s.heap.objs.size+1) (o:=.ins C s.heap.objs.size []) (t':=s.toks) (λb u q=>ae _ q) (Nat.le_of_eq (bS _ _)) ?_;have F:s.heap.objs.size≠s.heap.objs.size+1:=aQ (cW _);show#[by rw[zf F,zh],aL _,F,J,λ_=>none,(Heap.Ns1.of_empty O).at λo q=>ae _ q,λ_=>True.intro,λy Y=>absurd BA Y]
def zon(B:attributeBase e f env (eval e env)=eval e env)(h:Ag prog w A (eval e env) (λo q=>Ag prog w A (getAttr o f true) Q E q) E s):Ag prog w A (eval (.Attribute e f pos) env) Q E s:=
 Attribute_any_ h (by rw[arm_eval_Attribute,B])
end
def zqO (K:AH)(ta:TE)(f:Str):TE:=λG H Q=>ta G H λx H1=>∃a C dx fs v,x = .ref a/\H1 a=some (.ins C dx fs)/\Cls K C/\zar K C f/\fs.lookup f=some v/\Q v H1
def ztj (K:AH)(ta tv:TE)(f:Str):TS:=λBG G H=>tv G H λy H1=>ta G H1 λx H2=>∃a C dx fs,x = .ref a/\H2 a=some (.ins C dx fs)/\Cls K C/\zar K C f/\fs.length<1000/\
 BG.nx G (upd H2 a (.ins C dx (zbE f y fs)))
section
variable {X:Cx}{o e value:Expr}{f:Str}{pos pos' tpos:Pos}{ta tv:TE}
def zct (B:PE X e ta)(F:attributeBase e f X.env (eval e X.env)=eval e X.env):PE X (.Attribute e f pos) (zqO X.K ta f):=by intro BB s G H Q I h;show zon F (thn (B BB s G H _ I h)  ?_);rintro u Y ⟨x,H1,I1,J,a,C,dx,fs,v,ex,O,c,n,l,q⟩;subst ex;obtain rfl:u=Value.ref a:=J;show zh4 I1 O c n l λZ s2 I2 U=>#[v,H1,I2,U,q]
def zhB (B:PE X o ta)(F:PE X value tv)(hs:swapsWith value (some (.Attribute o f pos')) pos.line X.env=pure false):PS X (.Assign [.Attribute o f pos'] value pos) (ztj X.K ta tv f):=by intro BB s G H BG I h;show plainObj_wpAny_Assign_Attribute (thn (F BB s G H _ I h) λu J ⟨y,H1,I1,O,q⟩=>thn (B BB J G H1 _ I1 q) λU s2 ⟨x,H2,I2,Y,a,C,dx,fs,ex,Z,c,n,l,q2⟩=>?_) hs;subst ex;obtain rfl:U=Value.ref a:=Y;show ziu I2 Z c n l O λs3 I3=>#[G,_,I3,q2]
variable {BB:AB}{G:St}{H:Hp}{s:AZ}{A:Ae}{E:AA}{Q:AA}{c:Value}{b:Bool}
inductive TyOf (K:AH) (H:Hp):V->Value->Prop where
 | non:TyOf K H .non (.type "NoneType")
 | bl (x:Bool):TyOf K H (.bl x) (.type "bool")
 | int (i:Int):TyOf K H (.int i) (.type "int")
 | str (x:Str):TyOf K H (.str x) (.type "str")
 | flt (x:UInt64):TyOf K H (.flt x) (.type "float")
 | lst {a:Addr} {xs:AT} (e:H a=some (.lst xs)):TyOf K H (.ref a) (.type "list")
 | frz {a:Addr} {o:Obj} {xs:AT} (e:H a=some (.frz o (.lst xs))):TyOf K H (.ref a) (.type "list")
 | tup {a:Addr} {xs:AT} (e:H a=some (.tup xs)):TyOf K H (.ref a) (.type "tuple")
 | dK {a:Addr} {BC:List (Key×V)} (e:H a=some (.dK BC)):TyOf K H (.ref a) (.type "dict")
 | dT {a:Addr} {BC:List (List Key×V)} (e:H a=some (.dT BC)):TyOf K H (.ref a) (.type "dict")
 | ins {a C dx:Addr} {fs:List (Str×V)} (e:H a=some (.ins C dx fs)) (cl:Cls K C) (ha:PySem.W.findIn K (.ref C) "__class__" = some (some (.builtin "object.__class__")))
   (hn:PySem.W.specialIn K (.builtin "object.__class__") "__get__" = some (some (.builtin "getset_descriptor.__get__"))) (htk:PySem.W.takesIn K (.builtin "object.__class__")=some true)
   (hm:PySem.W.mroIn K C (.type "object")=some true):TyOf K H (.ref a) (.ref C)
def zjF(I:Inv X BB G H s)(B:yo x u)(ty:TyOf X.K H x t)(e:PySem.W.kitOne X.K t c=some b)(h:∀tk,Q (.bool b) { s with toks:=tk }) :
  wpAny (model X.prog X.w) A (call (.builtin "isinstance") [u,c]) Q E s:=by
 cases ty with
 | non=>cases (show u=Value.none from B);show b5 PySem.W.kitx_none I.kIn True.intro e (λz=>nomatch z) h
 | bl y=>cases (show u=Value.bool y from B);show b5 PySem.W.kitx_bool I.kIn True.intro e (λz=>nomatch z) h
 | int i=>obtain⟨t,q⟩:=(show ∃t,u=Value.int i t from B);cases q;show b5 PySem.W.kitx_int I.kIn True.intro e (λz=>nomatch z) h
 | str y=>obtain⟨t,q⟩:=(show ∃t,u=Value.str y t from B);cases q;show b5 PySem.W.kitx_str I.kIn True.intro e (λz=>nomatch z) h
 | flt y=>obtain⟨t,q⟩:=(show ∃t,u=Value.float y t from B);cases q;show b5 PySem.W.kitx_float I.kIn True.intro e (λz=>nomatch z) h
 | @lst a xs F=>
  cases (show u=Value.ref a from B);obtain⟨_,_,n,_,h1⟩:=(show yd X.prog X.w H s.heap a (.lst xs) from I.hok a _ F);show b5 PySem.W.kitx_list I.kIn #[_,h1,BA] e (λz=>nomatch z) h
 | @frz a ob xs F=>
  cases (show u=Value.ref a from B);obtain⟨_,_,_,n,_,h1⟩:=(show yd X.prog X.w H s.heap a (.frz ob (.lst xs)) from I.hok a _ F);show b5 PySem.W.kitx_list I.kIn #[_,h1,BA] e (λz=>nomatch z) h
 | @tup a xs F=>
  cases (show u=Value.ref a from B);obtain⟨_,_,_,p⟩:=(show yd X.prog X.w H s.heap a (.tup xs) from I.hok a _ F);obtain⟨o,h1,h2,_⟩:=p;show b5 PySem.W.kitx_tuple I.kIn #[o,h1,h2] e (λz=>nomatch z) h
 | @dK a BC F=>
  cases (show u=Value.ref a from B);obtain⟨_,_,vs,_,p⟩:=(show yd X.prog X.w H s.heap a (.dK BC) from I.hok a _ F);obtain⟨o,es,Z,h1,h2,_⟩:=p;show b5 PySem.W.kitx_dict I.kIn #[o,h1,h2.1] e (λz=>nomatch z) h
 | @dT a BC F=>
  cases (show u=Value.ref a from B);obtain⟨_,_,xs,_,o,es,Z,h1,h2,_⟩:=(show yd X.prog X.w H s.heap a (.dT BC) from I.hok a _ F);show b5 PySem.W.kitx_dict I.kIn #[o,h1,h2.1] e (λz=>nomatch z) h
 | @ins a C dx fs F Y ha hn U hm=>
  cases (show u=Value.ref a from B);obtain⟨mA,O,_⟩:=zdI I.hok F;obtain⟨od,J,_⟩:=O.look;show b5 (PySem.W.kitx_own (Y.get _) Y.hd ha hn U hm) I.kIn J e (λz=>nomatch z) h
end
structure Room (k:Nat)(A:Ae):Prop where
 hd:A.handled=none
 dp:A.depth+3 * k+5<recursionLimit
 un:A.units+16 * k+200<cLine
def Room.mono {j k:Nat}{A:Ae}(r:Room k A)(h:j<=k):Room j A:=#[r.hd,by have:=r.dp;lia,by have:=r.un;lia]
def Room.deeper(r:Room (k+1) A)(env:Env):Room k (A.deeper env):=
 #[r.hd,by have:=r.dp;change A.depth+1+3 * k+5<_;lia,by have:=r.un;change A.units+3+16 * k+200<_;lia]
def zia{A:Ae}:(A.under (.builtin "type.__call__" #[.ref C::us,q])).depth=A.depth+1:=by first | rfl | simp[Around.under,Code.weight,Code.isCreation,Code.isGuard,Code.isCaller,Code.frames,Code.isFrame,guardIds]
def zib{A:Ae}:(A.under (.builtin "type.__call__" #[.ref C::us,q])).units=A.units+1:=by first | rfl | simp[Around.under,Code.cUnits,Code.frames,Code.isFrame]
def Room.make(r:Room (k+1) A)(C:Addr)(us:AN)(q:List (Str×Value)):Room k (A.under (.builtin "type.__call__" #[.ref C::us,q])):=
 #[r.hd,by have:=r.dp;rw[zia];lia,by have:=r.un;rw[zib];lia]
def Room.depth(r:Room k A):A.depth<recursionLimit:=by have:=r.dp;lia
def Room.units(r:Room k A):A.units+64<cLine:=by have:=r.un;lia
def zqQ:TA:=λ_ H Q=>Q [] H
def zbG (ta:TE)(q:TA):TA:=λG H Q=>ta G H λx H1=>q G H1 λxs H2=>Q (x::xs) H2
section
variable {X:Cx}{e:Expr}{es:AO}{te:TE}{t:TA}{pos:Pos}
def znQ:PA X [] zqQ:=λ_ _ _ _ H Q I h=>Calls.spliced_nil #[[],H,I,.nil,h]
def zbg (q:PE X e te)(B:PA X es t)(hs:starEach (e::es) X.env=(false,eval e X.env)::starEach es X.env:=by rfl):PA X (e::es) (zbG te t):=by intro pos BB s G H Q I h;rw[hs];change wpAny _ _ (spliced ((false,eval e X.env)::backTo pos (starEach es X.env))) _ _ s;show Calls.spliced_cons (thn (q BB s G H _ I h)  ?_);rintro u F ⟨x,H1,I1,J,O⟩;show thn (B pos BB F G H1 _ I1 O) <| by rintro us Z ⟨xs,H2,I2,U,Y⟩;show#[x::xs,H2,I2,.cons J U,Y]
end
abbrev Sp:=AT->Hp->VK->XK->Prop
abbrev CXT:=List Env->Hp->AZ->XK->AA
structure Env0 (P:Aa)(w:Ab)(K:AH)(mg:AI)(base:Heap)(A:Ae)(outer:List Env)(s:AZ)(H:Hp):Prop where
 frames:A.frames=some outer
 mod:Mod K mg base
 bs:∀b o,base.get? b=some o->s.heap.get? b=some o/\H b=none
 bsz:base.objs.size<=s.heap.objs.size
 funs:s.heap.FunFrames base outer
 frf:∀b∈frs outer,H b=none
 hok:HOk P w H s.heap
 bare:AllBare s.gens
def CE (q:List Env)(P:Aa)(w:Ab)(H:Hp)(s:AZ)(Q:VK)(u:Value)(s':AZ):Prop:=
 ∃v H',s'.os=s.os/\AllBare s'.gens/\Un (frs q) [] H H' s.heap s'.heap/\HOk P w H' s'.heap/\yo v u/\Q v H'
def CR (CX:CXT)(q:List Env)(P:Aa)(w:Ab)(H:Hp)(s:AZ)(Q:VK)(E:XK)(r:Result)(s':AZ):Prop:=
 match r with
 | .ok (.ret u)=>CE q P w H s Q u s'
 | .ok _=>False
 | .error e=>CX q H s E e s'
structure FnOk (P:Aa)(w:Ab)(K:AH)(mg:AI)(base:Heap)(CX:CXT)(k:Nat)(f:Addr)(fd:Ac)(ps:AM)(sp:Sp):Prop where
 len:∀vs H Q E,sp vs H Q E->vs.length=ps.length
 run:∀ (A:Ae) (outer:List Env) (s:AZ) (H:Hp) (args:Args) (us:AN) (vs:AT) (Q:VK) (E:XK),Room k A->Env0 P w K mg base A outer s H->BindsTo s fd args (ps.zip us)->yb vs us->sp vs H Q E->
  codeAny (model P w) A (.call (.ref f) args) (CR CX outer P w H s Q E) s
def FnOk.mono{P:Aa}{w:Ab}{K:AH}{mg:AI}{base:Heap}{CX:CXT}{f:Addr}{fd:Ac}{ps:AM}(F:FnOk P w K mg base CX j f fd ps sp)(h:j<=k) :
  FnOk P w K mg base CX k f fd ps sp:=#[F.len,λA q s H args us vs Q E B=>F.run A q s H args us vs Q E (B.mono h)]
def FnOk.imp{P:Aa}{w:Ab}{K:AH}{mg:AI}{base:Heap}{CX:CXT}{f:Addr}{fd:Ac}{ps:AM}{sp I:Sp}(F:FnOk P w K mg base CX k f fd ps sp)(h:∀vs H Q E,I vs H Q E->sp vs H Q E):FnOk P w K mg base CX k f fd ps I:=
 #[λvs H Q E q=>F.len vs H Q E (h _ _ _ _ q),λA B s H args us vs Q E J O U Y hs=>F.run A B s H args us vs Q E J O U Y (h _ _ _ _ hs)]
def Env0.make{P:Aa}{w:Ab}{K:AH}{mg:AI}{base:Heap}{A:Ae}{q:List Env}{s:AZ}(e:Env0 P w K mg base A q s H)(C:Addr)(us:AN)(B:List (Str×Value)) :
  Env0 P w K mg base (A.under (.builtin "type.__call__" #[.ref C::us,B])) q s H:=#[by first | show e.frames | (simpa [Around.under,Code.envs,Code.isFrame,pushEnvs] using e.frames),e.mod,e.bs,e.bsz,e.funs,e.frf,e.hok,e.bare]
section
variable {X:Cx}{BB:AB}{G:St}{H:Hp}{s s':AZ}
def Inv.env0 (I:Inv X BB G H s):Env0 X.prog X.w X.K X.mg X.base X.A X.stack s H:=
 #[I.ok.frames,I.ok.mod,I.bs,aH I.ok.bsz I.sz,I.stack,I.stkFree,I.hok,I.bare]
def Inv.after(I:Inv X BB G H s)(h:CE X.stack X.prog X.w H s Q u s'):EP X BB G Q u s':=by obtain⟨v,H',O,B,U,F,r,q⟩:=h;obtain⟨Y,g,d,t,J⟩:=s';obtain rfl:J=s.os:=O;show#[v,H',I.call (h':=Y) (g':=g) (d':=d) (t':=t) (ch:=[]) U F B (λb z=>absurd z (by simp)),r,q]
end
def zey (sp:Sp)(dvs:AT)(E:XK)(t:TA):TE:=λG H Q=>t G H λvs H1=>sp (vs++dvs) H1 Q E
def ztw (C:Addr)(m:Str)(sp:Sp)(dvs:AT)(E:XK)(ta:TE)(t:TA):TE:=λG H Q=>ta G H λx H1=>∃a dx fs,x = .ref a/\H1 a=some (.ins C dx fs)/\fs.lookup m=none/\
 t G H1 λvs H2=>sp (x::(vs++dvs)) H2 Q E
def ztv (C:Addr)(sp:Sp)(dvs:AT)(E:XK)(t:TA):TE:=λG H Q=>t G H λvs H1=>∀x dx,H1 x=none->H1 dx=none->dx≠x->
 sp (.ref x::(vs++dvs)) (upd (upd H1 dx (.own x)) x (.ins C dx [])) (λv H2=>v = .non/\Q (.ref x) H2) E
def zal (K:AH)(fd:Ac)(ps:AM)(ds:AN):Prop:=
 ∀ (s:AZ) (us:AN),K.In s.heap->(us++ds).length=ps.length->BindsTo s fd #[us,[]] (ps.zip (us++ds))
def zal.all {K:AH}{fd:Ac}{ps:AM}(h:∀us:AN,us.length=ps.length->bindArgs fd #[us,[]]=pure (ps.zip us)):zal K fd ps []:=λs us _ q=>by rw[cB] at q ⊢;show .of_eq (h us q)
def zc1 (CX:CXT)(X:Cx)(E:XK):Prop:=∀ (BB:AB) (G:St) (H:Hp) (s:AZ) (e:Value) (s':AZ),Inv X BB G H s->CX X.stack H s E e s'->X.xe e s'
section
variable {X:Cx}{CX:CXT}{k:Nat}{f C:Addr}{fd:Ac}{ps:AM}{sp:Sp}{dvs:AT}{ds:AN}{E:XK}{x m:Str}{p pos apos:Pos}{e o:Expr}{es:AO}{ta:TE}{t:TA}
def zn6{BB:AB}{G:St}{H:Hp}{s:AZ}{Q:VK}{vs:AT}(F:FnOk X.prog X.w X.K X.mg X.base CX k f fd ps sp)(J:Room k X.A)(O:zal X.K fd ps ds)(U:yb dvs ds)(Y:zc1 CX X E)(I:Inv X BB G H s)(r:yb vs us)(h:sp (vs++dvs) H Q E):Af X (call (.ref f) us) (EP X BB G Q) X.xe s:=by
 have B:yb (vs++dvs) (us++ds):=r.append U;have Z:(us++ds).length=ps.length:=by rw[<- B.length];show F.len _ _ _ _ h
 show wpAny_call (eS (F.run X.A X.stack s H #[us,[]] (us++ds) (vs++dvs) Q E J I.env0 (O s us I.kIn Z) B h) λr s' q=>?_)
 cases r with
 | error e=>show Y BB G H s e s' I q
 | ok fl=>
  cases fl with
  | ret u=>show I.after q
  | next=>show False.elim q
  | brk=>show False.elim q
  | cont=>show False.elim q
def zko (F:FnOk X.prog X.w X.K X.mg X.base CX k f fd ps sp)(O:Room k X.A)(U:Gl X x)(Y:X.mg x=some (.ref f))(Z:PySem.W.keepIn X.K (.ref f)=true)(hb:zal X.K fd ps ds)(hd:yb dvs ds)(hx:zc1 CX X E)
  (ha:PA X (e::es) t) (B:Ah x:=by ext) (he:starEach (e::es) X.env=(false,eval e X.env)::starEach es X.env:=by rfl) (J:(backTo pos (starEach es X.env)).any (·.1)=false:=by rfl) :
  PE X (.Call (.Name x p) (e::es) [] pos) (zey sp dvs E t):=by
 intro BB s G H Q I h;show ee (zjQ I U Y ?_ B);show fR (h₀:=X.base) I.ok.mod.kin Z (thn (ha pos BB s G H _ I h) λus s1 ⟨vs,H1,I1,r,q⟩=>#[I1.kIn,?_]) he J;show zn6 F O hb hd hx I1 r q
def zpN {pl:Sem Bool}(he:PE X o ta)(c:Cls X.K C)(hm:Meth X.K C m f)(F:FnOk X.prog X.w X.K X.mg X.base CX k f fd ps sp)(hr:Room k X.A)(hb:zal X.K fd ps ds)(hd:yb dvs ds)(hx:zc1 CX X E)(ha:PA X (e::es) t)
  (hst:starEach (e::es) X.env=(false,eval e X.env)::starEach es X.env:=by rfl) (hpl:(backTo pos (starEach es X.env)).any (·.1)=false:=by rfl)
  (ht:eval (.Call (.Attribute o m apos) (e::es) [] pos) X.env=(do
   let ov <- eval o X.env
   standAt apos.atName
   let (f,first) <- holding [ov] (getMethod ov m pl)
   callWith pos f first (backTo pos (starEach (e::es) X.env)) (backToKw pos (keywordEach [] X.env))):=by rfl) :
  PE X (.Call (.Attribute o m apos) (e::es) [] pos) (ztw C m sp dvs E ta t):=by
 intro BB s G H Q I h;show PySem.W.methodCall_KW (pl:=pl) (thn (he BB s G H _ I h) λu s1 ⟨x,H1,I1,rx,a,dx,fs,ex,ea,l,q⟩=>?_) ht;subst ex;obtain rfl:u=Value.ref a:=rx;show zh5 I1 ea c hm l ?_;show fR (first:=[.ref a]) (h₀:=X.base) I.ok.mod.kin hm.kp (thn (ha pos BB s1 G H1 _ I1 q) λus s2 ⟨vs,H2,I2,r,q2⟩=>#[I2.kIn,?_]) hst hpl;show zn6 (us:=.ref a::us) (vs:=.ref a::vs) F hr hb hd hx I2 (.cons BA r) q2
structure Mk (K:AH)(C f:Addr):Prop where
 makes:PySem.W.makesIn K C=true
 init:PySem.W.findIn K (.ref C) "__init__" = some (some (.ref f))
 fn:PySem.W.isFn K (.ref f)=true
 kp:PySem.W.keepIn K (.ref C)=true
def zmX{BB:AB}{G:St}{H:Hp}{s:AZ}{Q:VK}{vs:AT}(M:Mk X.K C f)(F:FnOk X.prog X.w X.K X.mg X.base CX k f fd ps sp)(O:Room (k+1) X.A)(U:zal X.K fd ps ds)(Y:yb dvs ds)(Z:zc1 CX X E)(I:Inv X BB G H s)(r:yb vs us)(h:∀x dx,H x=none->H dx=none->dx≠x->sp (.ref x::(vs++dvs)) (upd (upd H dx (.own x)) x (.ins C dx [])) (λv H2=>v = .non/\Q (.ref x) H2) E) :
  Af X (call (.ref C) us) (EP X BB G Q) X.xe s:=by
 have B:=h (s.heap.objs.size+1) s.heap.objs.size (I.hok.fresh (eJ _)) (I.hok.fresh (ai _)) (aQ (cW _));have I2:=Inv.made (C:=C) I;have J:yb (V.ref (s.heap.objs.size+1)::(vs++dvs)) (Value.ref (s.heap.objs.size+1)::(us++ds)):=.cons BA (r.append Y);have hl:(Value.ref (s.heap.objs.size+1)::us++ds).length=ps.length:=by have e:=J.length;rw[F.len _ _ _ _ B] at e;show e.symm
 show wpAny_call (zmh (f:=f) I.kIn M.makes M.init (beq_iff_eq.mp M.fn) (eS (F.run _ X.stack _ _ #[Value.ref (s.heap.objs.size+1)::us,[]] (Value.ref (s.heap.objs.size+1)::(us++ds)) _ _ E (O.make C us [])
  (I2.env0.make C us []) (U _ (Value.ref (s.heap.objs.size+1)::us) I2.kIn hl) J B) λr s' q=>?_))
 cases r with
 | error e=>show Z BB G _ _ e s' I2 q
 | ok fl=>
  cases fl with
  | ret u=>
   obtain⟨v,H',I3,rv,ev,q3⟩:=I2.after q;subst ev;show#[rv,#[V.ref (s.heap.objs.size+1),H',I3,BA,q3]]
  | next=>show False.elim q
  | brk=>show False.elim q
  | cont=>show False.elim q
def zpM (M:Mk X.K C f)(F:FnOk X.prog X.w X.K X.mg X.base CX k f fd ps sp)(O:Room (k+1) X.A)(U:Gl X x)(Y:X.mg x=some (.ref C))(Z:zal X.K fd ps ds)(hd:yb dvs ds)(hx:zc1 CX X E)
  (ha:PA X (e::es) t) (B:Ah x:=by ext) (he:starEach (e::es) X.env=(false,eval e X.env)::starEach es X.env:=by rfl) (J:(backTo pos (starEach es X.env)).any (·.1)=false:=by rfl) :
  PE X (.Call (.Name x p) (e::es) [] pos) (ztv C sp dvs E t):=by
 intro BB s G H Q I h;show ee (zjQ I U Y ?_ B);show fR (h₀:=X.base) I.ok.mod.kin M.kp (thn (ha pos BB s G H _ I h) λus s1 ⟨vs,H1,I1,r,q⟩=>#[I1.kIn,?_]) he J;show zmX M F O Z hd hx I1 r q
variable {ks:AM}{kpos:Pos}{kws:List Keyword}{te:TE}{tk:TA}{nm:Option Str}
variable {g:AN->AN->AN}{gV:AT->AT->AT}
end
structure FnScope (N P:AM)(sc:Scope):Prop where
 kind:sc.kind = .function
 co:sc.isCoroutine=false
 gen:sc.isGenerator=false
 nd:N.Nodup
 pre:N.take P.length=P
 par:∀x∈P,sc.names.lookup x=some .local\/sc.names.lookup x=some .cell
 nofree:∀y∈sc.names,y.2≠.free
theorem zeM {B:Str->Option NameKind}{x:Str}:∀ {q:List (Str×Value)} {m:AI},(∀v,(x,v)∉q)->bindL B q m x=m x
 | [],_,_=>rfl
 | (n,v)::r,m,h=>by
  unfold bindL;rw[zeM λw F=>h w (av _ F)];split
  all_goals grind
theorem zeK {B:Str->Option NameKind}{x:Str}:∀ {q:List (Str×Value)} {m:AI},(∀v,(x,v)∉q)->bindC B q m x=m x
 | [],_,_=>rfl
 | (n,v)::r,m,h=>by
  unfold bindC;rw[zeK λw F=>h w (av _ F)];split
  all_goals grind
theorem zeL {q:Str->Option NameKind}{x:Str}{v:Value}:∀ {P:AM} {vs:AN} {i:Nat} {m:AI},P.Nodup->P[i]?=some x->vs[i]?=some v->q x=some .local->
  bindL q (P.zip vs) m x=some v
 | [],_,_,_,_,h,_,_=>by simp at h
 | _::_,[],_,_,_,_,h,_=>by simp at h
 | p::P,w::vs,0,m,B,h1,h2,F=>by simp at h1 h2;subst h1;subst h2;change bindL q ((p,w)::P.zip vs) m p=_;unfold bindL;rw[zeM λv I=>(cC.mp B).1 (fH I).1,if_pos F];simp
 | p::P,w::vs,i+1,m,B,h1,h2,F=>by change bindL q ((p,w)::P.zip vs) m x=_;unfold bindL;show zeL (i:=i) (cC.mp B).2 (by simpa using h1) (by simpa using h2) F
theorem zeJ {q:Str->Option NameKind}{x:Str}{v:Value}:∀ {P:AM} {vs:AN} {i:Nat} {m:AI},P.Nodup->P[i]?=some x->vs[i]?=some v->q x≠some .local->
  bindC q (P.zip vs) m x=some v
 | [],_,_,_,_,h,_,_=>by simp at h
 | _::_,[],_,_,_,_,h,_=>by simp at h
 | p::P,w::vs,0,m,B,h1,h2,F=>by simp at h1 h2;subst h1;subst h2;change bindC q ((p,w)::P.zip vs) m p=_;unfold bindC;rw[zeK λv I=>(cC.mp B).1 (fH I).1,if_neg F];simp
 | p::P,w::vs,i+1,m,B,h1,h2,F=>by change bindC q ((p,w)::P.zip vs) m x=_;unfold bindC;show zeJ (i:=i) (cC.mp B).2 (by simpa using h1) (by simpa using h2) F
def xB (N:AM)(vs:AT):St:=vs.map some++List.replicate (N.length - vs.length) none
def zeG (CX:CXT)(P:Aa)(w:Ab)(K:AH)(mg:AI)(base:Heap)(N:AM)(qual:Str)(scope:Scope)(f:Addr)(cd:Value)(A:Ae)(outer:List Env)(s:AZ)(H:Hp)(E:XK):Cx where
 prog:=P
 w:=w
 K:=K
 mg:=mg
 base:=base
 A:=A.deeper (envOfC qual scope s.heap.objs.size f cd)
 N:=N
 s₀:=s
 H₀:=H
 env:=envOfC qual scope s.heap.objs.size f cd
 outer:=outer
 stack:=envOfC qual scope s.heap.objs.size f cd::outer
 ex:=[]
 calm:=true
 fn:=λ_=>true
 pn:=[]
 xe:=λe s'=>wpAny (model P w) (A.deeper (envOfC qual scope s.heap.objs.size f cd)) (leaving (envOfC qual scope s.heap.objs.size f cd) e) (λ_ s''=>CX outer H s E e s'') (λe' s''=>CX outer H s E e' s'') s'
def zgZ{B:Scope}(h:B.names.lookup x=some .cell):∃c,(cellsFrom n B.names []).lookup x=some c:=by have q:=PySem.W.cellsFrom_some B.names n [] (.inl h);show Option.isSome_iff_exists.mp q
def zjA{CX:CXT}{P:Aa}{w:Ab}{K:AH}{mg:AI}{base:Heap}{N ps:AM}{F:Str}{scope:Scope}{f:Addr}{Z:Value}{A:Ae}{B:List Env}{s s1:AZ}{H:Hp}{E:XK}{vs:AT}(S:FnScope N ps scope)(hd:A.handled=none)(I:Env0 P w K mg base A B s H)(hl:vs.length=ps.length)(r:yb vs us)(x:InCallC s s.heap.objs.size (bindL (envOfC F scope s.heap.objs.size f Z).kindOf (ps.zip us) λ_=>none) (cellsFrom (s.heap.objs.size+1) scope.names []) (bindC (envOfC F scope s.heap.objs.size f Z).kindOf (ps.zip us) λ_=>none) s1) :
  Inv (zeG CX P w K mg base N F scope f Z A B s H E) [] (xB N vs) H s1:=by
 have ac:ps.length<=N.length:=by have:=congrArg List.length S.pre;rw[bq] at this;lia
 obtain⟨h1,tk,rfl,hk⟩:=x.done;have J:∀b:Addr,b∉(zeG CX P w K mg base N F scope f Z A B s H E).ex:=λb z=>absurd (show b∈([]:AY) from z) (by simp)
 show#[#[I.mod,S.kind,BA,BA,ai _,λy z c h1 h2=>?_,λy O=>?_,λy c _ h=>?_,λ_=>hd,Around.frames_deeper I.frames,.inr #[BA,BA],λb z=>absurd z (J b),I.bs,I.bsz,λb _ _=>J b,λb z=>absurd z (J b),I.funs,I.frf],
  rfl,I.bare,Un.kept hk,#[_,x.toInCall.ns,λi y v h1 h2 h3=>?_],λy c h=>#[_,x.cell y c h],I.hok.fresh (ai _),λy c h=>?_,λp U=>absurd (show p∈([]:AB) from U) (by simp),I.hok.kept hk,?_]
 show name_of_addr x.apart (dn h1) (dn h2);have O:scope.names.lookup y=some .cell\/scope.names.lookup y=some .free:=O;rcases O with O | O;show zgZ O;show absurd BA (S.nofree _ (dn O));show c7 (x.above y c (dn h))
 have hi:i<vs.length:=by
  unfold xB at h2;by_cases hi:i<vs.length;show hi;rw[aW (by simpa using hi)] at h2;rw[List.getElem?_replicate] at h2;right
 have ha:vs[i]?=some v:=by
  unfold xB at h2;rw[aC (by simpa using hi),aD] at h2;right
 obtain⟨u,hu,rv⟩:=r.get ha;have U:ps[i]?=some y:=by rw[<- S.pre,b8 (by lia)];show h1
 have Y:ps.Nodup:=by rw[<- S.pre];show S.nd.sublist (cw _ _)
 show#[u,rv,?_];rcases S.par y (az U) with k | k;show .inl #[k,zeL Y U hu k];obtain⟨c,e⟩:=zgZ (n:=s.heap.objs.size+1) k;show .inr #[.inl k,c,e,?_];have q:=x.cell y c e;rw[zeJ Y U hu (by change scope.names.lookup y≠_;rw[k];decide)] at q;show q;show I.hok.fresh (c7 (x.above y c (dn h)));unfold xB;change _=N.length;grind
def zrK{CX:CXT}{P:Aa}{w:Ab}{K:AH}{mg:AI}{base:Heap}{f:Addr}{name F:Str}{U:Arguments}{body:List Stmt}{scope:Scope}{dV kV ad pm O ct oc:Value}{an od:Option Addr}{N ps:AM}{sp:Sp}(lk:K.lookup f=some #[oc,od,.func (PySem.W.fnOf name F U body scope dV kV ad pm an O ct),ap])(as:PySem.W.codeIn K O F=true)(S:FnScope N ps scope)(ag:∀vs H Q E,sp vs H Q E->vs.length=ps.length)(Z:∀ (A:Ae) (B:List Env) (s:AZ) (H:Hp) (vs:AT) (Q:VK) (E:XK),Room k (A.deeper (envOfC F scope s.heap.objs.size f O))->sp vs H Q E->
   ∃t,PSs (zeG CX P w K mg base N F scope f O A B s H E) body t/\t { nx:=λ_ H'=>Q .non H',rt:=Q } (xB N vs) H) :
  FnOk P w K mg base CX (k+1) f (PySem.W.fnOf name F U body scope dV kV ad pm an O ct) ps sp:=by
 show#[ag,λA B s H args us vs Q E hr e0 hb r al=>?_];have hl:=ag _ _ _ _ al;have KX:K.In s.heap:=e0.mod.kin.keeps λb o e=>(e0.bs b o e).1;have lim:s.heap.NoLimit:=e0.mod.nolimit.keeps λb o e=>(e0.bs b o e).1
 have ac:∀y∈ps.zip us,scope.names.lookup y.1=some .local\/(scope.names.lookup y.1=some .cell/\((cellsFrom (s.heap.objs.size+1) scope.names []).lookup y.1).isSome=true):=by
  rintro⟨n,v⟩ hy;rcases S.par n (fH hy).1 with q | q;show .inl q;show .inr #[q,PySem.W.cellsFrom_some _ _ _ (.inl q)]
 show codeAny_call_function hr.depth (KX _ _ lk) BA S.co S.gen BA (PySem.W.codeRec_of KX as) (hb _ _ _ _ ?_);show wpAny_newFunctionEnv_cells S.kind ac λenv he s1 x=>?_;subst he;show#[lim.keeps x.toInCall.keep,codeAny_func ?_];obtain⟨t,ht,hq⟩:=Z A B s H vs Q E (hr.deeper _) al;have I:Inv (zeG CX P w K mg base N F scope f O A B s H E) [] (xB N vs) H s1:=zjA S hr.hd e0 hl r x;show bM (ht [] s1 (xB N vs) H _ I hq) (λfl s' hs=>?_) λe s' hs=>hs
 have fin:∀ {Y:St} {H':Hp} {v:V} {u:Value},Inv (zeG CX P w K mg base N F scope f O A B s H E) [] Y H' s'->yo v u->Q v H'->CE B P w H s Q u s':=
  λ{Y H' v u} J rv q=>#[v,H',J.os,J.bare,J.base,J.hok,rv,q]
 cases fl with
 | ret u=>
  obtain⟨v,Y,H',J,rv,q⟩:=hs;show fin J rv q
 | next=>
  obtain⟨Y,H',J,q⟩:=hs;show fin (v:=V.non) (u:=Value.none) J BA q
 | brk=>
  obtain⟨_,_,_,q⟩:=hs;show False.elim q
 | cont=>
  obtain⟨_,_,_,q⟩:=hs;show False.elim q
section
variable {X:Cx}{x:Str}{p pos:Pos}{e:Expr}{es:AO}{t:TA}{id T:String}{r:AT->Hp->VK->Prop}
def tCB (r:AT->Hp->VK->Prop)(t:TA):TE:=λG H Q=>t G H λvs H1=>r vs H1 Q
def zmw (F:zdu X (.builtin id) r)(J:Gl X x)(O:X.mg x=none)(U:bootBuiltins x=some (.builtin id))(Y:PA X (e::es) t)(hn:x ≠ "__name__" := by ext)(q:Ah x:=by ext)
  (Z:starEach (e::es) X.env=(false,eval e X.env)::starEach es X.env:=by rfl) (B:(backTo pos (starEach es X.env)).any (·.1)=false:=by rfl):PE X (.Call (.Name x p) (e::es) [] pos) (tCB r t):=by
 intro BB s G H Q I h;show ee (zca I J O U ?_ hn q);show PyProof.Rows.callWith_builtin1 (thn (Y pos BB s G H _ I h) <| by rintro us s1 ⟨vs,H1,I1,r1,q1⟩;show F BB s1 G H1 vs us Q I1 r1 q1) Z B
def zkp (F:zdu X (.type T) r)(J:Gl X x)(O:X.mg x=none)(U:bootBuiltins x=some (.type T))(Y:PA X (e::es) t)(hn:x ≠ "__name__" := by ext)(q:Ah x:=by ext)
  (Z:starEach (e::es) X.env=(false,eval e X.env)::starEach es X.env:=by rfl) (B:(backTo pos (starEach es X.env)).any (·.1)=false:=by rfl):PE X (.Call (.Name x p) (e::es) [] pos) (tCB r t):=by
 intro BB s G H Q I h;show ee (zca I J O U ?_ hn q);show cg (thn (Y pos BB s G H _ I h) <| by rintro us s1 ⟨vs,H1,I1,r1,q1⟩;show F BB s1 G H1 vs us Q I1 r1 q1) Z B
end
section
variable {κ:Type}[DecidableEq κ]
def xK (BC:List (κ×V))(k:κ):Option V:=(BC.find? λkv=>decide (kv.1=k)).map (·.2)
def uZ (BC:List (κ×V))(k:κ)(v:V):List (κ×V):=
 if (BC.any λkv=>decide (kv.1=k))=true then BC.map (λkv=>if kv.1=k then (kv.1,v) else kv) else BC++[(k,v)]
def z8{p:κ×V}(e:p.1=k):xK (p::r) k=some p.2:=by simp[xK,cD,e]
def z7{p:κ×V}{r:List (κ×V)}(e:¬ p.1=k):xK (p::r) k=xK r k:=by simp[xK,cD,e]
theorem za7 (k:κ):∀BC:List (κ×V),(BC.any λkv=>decide (kv.1=k))=(xK BC k).isSome
 | []=>rfl
 | p::r=>by
  rw[dq];by_cases e:p.1=k;simp only[z8 e,a8 e,Bool.true_or,Option.isSome_some];rw[z7 e,bE e,Bool.false_or];show za7 k r
theorem zhQ (k j:κ)(y:V):∀BC:List (κ×V),xK (BC.map λkv=>if kv.1=k then (kv.1,y) else kv) j=(xK BC j).map λx=>if j=k then y else x
 | []=>rfl
 | p::r=>by
  have q:=zhQ k j y r;rw[aB];by_cases h:p.1=k;rw[if_pos h];by_cases e:p.1=j;rw[z8 (p:=(p.1,y)) e,z8 e,Option.map_some,if_pos (e.symm.trans h)];rw[z7 (p:=(p.1,y)) e,z7 e,q];rw[if_neg h];by_cases e:p.1=j;rw[z8 (p:=p) e,z8 e,Option.map_some,if_neg (λz=>h (e.trans z))];rw[z7 (p:=p) e,z7 e,q]
theorem zfQ (k j:κ)(y:V):∀BC:List (κ×V),xK BC k=none->xK (BC++[(k,y)]) j=if j=k then some y else xK BC j
 | [],_=>by
  by_cases e:k=j;rw[if_pos e.symm];show z8 (p:=(k,y)) e;rw[if_neg (λz=>e z.symm)];show z7 (p:=(k,y)) e
 | p::r,hn=>by
  rw[List.cons_append];have q:¬ p.1=k:=λz=>by rw[z8 z] at hn;cases hn
  rw[z7 q] at hn;have B:=zfQ k j y r hn;by_cases e:p.1=j;rw[z8 e,z8 e,if_neg (λz=>q (e.trans z))];rw[z7 e,z7 e,B]
def zng (BC:List (κ×V))(k j:κ)(y:V):xK (uZ BC k y) j=if j=k then some y else xK BC j:=by
 unfold uZ;by_cases a:(BC.any λkv=>decide (kv.1=k))=true;rw[if_pos a,zhQ];rw[za7] at a;by_cases e:j=k;obtain⟨x,q⟩:=Option.isSome_iff_exists.mp a;grind;right;rw[if_neg a];show zfQ k j y BC ?_;rw[za7] at a;right
def xp (BC:List (κ×V))(k:κ)(v:V):(uZ BC k v).length<=BC.length+1:=by
 unfold uZ;split
 all_goals right
def zmF {BC:List (κ×V)}{k:κ}(v:V)(h:xK BC k=none):uZ BC k v=BC++[(k,v)]:=by
 unfold uZ;rw[za7,h];right
def zfV.isSome_eq(r:zfV o u):o.isSome=u.isSome:=by
 cases o with
 | none=>cases u with
  | none=>rfl
  | some _=>show (show False from r).elim
 | some _=>cases u with
  | none=>show (show False from r).elim
  | some _=>rfl
def KV.val(r:KV BC vs)(k:κ):zfV (xK BC k) (valueAt vs k):=by
 unfold KV at r
 induction r with
 | nil=>show True.intro
 | @cons p q ps B h t I=>
  obtain⟨h1,h2⟩:=h;by_cases e:p.1=k;have F:q.1=k:=h1.symm.trans e;have b:valueAt (q::B) k=some q.2:=by simp[valueAt,cD,F]
  rw[z8 e,b];show h2;have F:¬ q.1=k:=λz=>e (h1.trans z);have b:valueAt (q::B) k=valueAt B k:=by simp[valueAt,cD,F]
  rw[z7 e,b];show I
def KV.any(r:KV BC vs)(k:κ):(BC.any λkv=>decide (kv.1=k))=vs.any λkv=>decide (kv.1=k):=by
 unfold KV at r
 induction r with
 | nil=>rfl
 | cons h t q=>rw[dq,dq,q,h.1]
def KV.repl {BC:List (κ×V)}{vs:List (κ×Value)}(r:KV BC vs)(k:κ){y:V}{u:Value}(F:yo y u) :
  KV (BC.map λkv=>if kv.1=k then (kv.1,y) else kv) (vs.map λkv=>if kv.1=k then (kv.1,u) else kv):=by
 unfold KV at r ⊢
 induction r with
 | nil=>show .nil
 | @cons p q ps I h t B=>
  rw[aB,aB];show .cons ?_ B;grind
def KV.put(r:KV BC vs)(k:κ)(q:yo y u):KV (uZ BC k y) (stored vs k u):=by
 unfold uZ stored;rw[r.any k];by_cases e:(vs.any λkv=>decide (kv.1=k))=true;rw[if_pos e,if_pos e];show r.repl k q;rw[if_neg e,if_neg e];show Paired.snoc r #[BA,q]
def KV.length {BC:List (κ×V)}{vs:List (κ×Value)}(r:KV BC vs):BC.length=vs.length:=gm r
end
def zh7(r:yo (kV k) u):(zT P w).is k u=true:=by
 cases k with
 | inl i=>obtain⟨t,e⟩:=(show ∃t,u=Value.int i t from r);subst e;show zgs P w i t
 | inr x=>obtain⟨t,e⟩:=(show ∃t,u=Value.str x t from r);subst e;show zgt P w x t
theorem ze8:∀ {ks:List Key} {us:AN},yb (ks.map kV) us->ItemsAre (zT P w) ks us
 | [],_,r=>by rw[eU] at r;cases r;show .nil
 | k::ks,_,r=>by
  rw[aB] at r
  cases r with
  | cons h t=>show .cons (zh7 h) (ze8 t)
abbrev KT (H:Hp):List (List Key×V)->List (List Key×Addr×Value)->Prop:=Paired λp q=>p.1=q.1/\H q.2.1=some (.tup (p.1.map kV))/\yo p.2 q.2.2
def KT.val(r:KT H BC xs)(k:List Key):zfV (xK BC k) ((atKey xs k).map (·.2)):=by
 induction r with
 | nil=>show True.intro
 | @cons p q ps B h t I=>
  obtain⟨h1,_,h2⟩:=h;by_cases e:p.1=k;have F:q.1=k:=h1.symm.trans e;have b:atKey (q::B) k=some q.2:=by simp[atKey,cD,F]
  rw[z8 e,b];show h2;have F:¬ q.1=k:=λz=>e (h1.trans z);have b:atKey (q::B) k=atKey B k:=by simp[atKey,cD,F]
  rw[z7 e,b];show I
def KT.repl(r:KT H BC xs)(k:List Key)(F:yo y u) :
  KT H (BC.map λkv=>if kv.1=k then (kv.1,y) else kv) (xs.map (putAt k u)):=by
 induction r with
 | nil=>show .nil
 | @cons p q ps I h t B=>
  rw[aB,aB];show .cons ?_ B;obtain⟨h1,h2,J⟩:=h;unfold putAt;by_cases e:p.1=k
  all_goals right
def KT.put(r:KT H BC xs)(k:List Key)(F:H b=some (.tup (k.map kV)))(B:yo y u) :
  KT H (uZ BC k y) (storedH xs k b u):=by
 have e:(BC.any λkv=>decide (kv.1=k))=(atKey xs k).isSome:=by rw[za7,(r.val k).isSome_eq,gb]
 unfold uZ storedH;rw[e];by_cases q:(atKey xs k).isSome=true;rw[if_pos q,if_pos q];show r.repl k B;rw[if_neg q,if_neg q];show Paired.snoc r #[BA,F,B]
def KT.keeps(r:KT H BC xs)(q:∀b ys,H b=some (.tup ys)->H' b=some (.tup ys)):KT H' BC xs:=
 Paired.mapP r λ_ _ z=>#[z.1,q _ _ z.2.1,z.2.2]
section
variable {P:Aa}{w:Ab}{H:Hp}{h:Heap}{a:Addr}
def zqr(q:HOk P w H h)(e:Rd H a u):yd P w H h a u:=e.ok q
def zlF(q:HOk P w H h)(e:Rd H a (.dK BC)):BC.length<=sizeLine/\(a==sysModules)=false/\∃vs,KV BC vs/\h.DictOf (zT P w) a vs:=
 show yd P w H h a (.dK BC) from zqr q e
def zov(q:HOk P w H h)(e:H a=some (.dK BC)):BC.length<=sizeLine/\(a==sysModules)=false/\∃vs,KV BC vs/\h.DictOf (zT P w) a vs:=zlF q (.inl e)
def zfg(B:HOk P w H h)(e:H a=some (.tup (ks.map kV))):(tupleKind (zT P w)).is h ks a:=by obtain⟨_,q,r,o,h1,h2,⟨n,F⟩,_⟩:=(show yd P w H h a (.tup (ks.map kV)) from B a _ e);show#[o,q.toArray,n,h1,h2,F,by simpa using ze8 r]
def zlI(F:HOk P w H h)(e:Rd H a (.dT BC)):BC.length<=sizeLine/\(a==sysModules)=false/\
  ∃xs,KT H BC xs/\h.DictOfH (tupleKind (zT P w)) a xs:=by
 obtain⟨z,y,xs,r,o,es,I,h1,h2,J,O,U⟩:=(show yd P w H h a (.dT BC) from zqr F e);show#[z,y,xs,r,o,es,I,h1,h2,J,O,λx B=>?_,U]
 have all:∀ {l:List (List Key×V)} {m:List (List Key×Addr×Value)},KT H l m->∀x∈m,(tupleKind (zT P w)).is h x.1 x.2.1:=by
  intro l m q
  induction q with
  | nil=>intro x B;show nomatch B
  | @cons p q ps Z hq t Y=>
   intro x B;rcases aA.mp B with e | B;subst e;show zfg F (by right);show Y x B
 show all r x B
def zrE(q:HOk P w H h)(e:H a=some (.dT BC)):BC.length<=sizeLine/\(a==sysModules)=false/\
  ∃xs,KT H BC xs/\h.DictOfH (tupleKind (zT P w)) a xs:=zlI q (.inl e)
end
def zbv (H:Hp)(a:Addr)(y:V)(r:Option V):Prop:=
 (∃BC k,Rd H a (.dK BC)/\y=kV k/\r=xK BC k)\/∃BC k b,Rd H a (.dT BC)/\y = .ref b/\H b=some (.tup (k.map kV))/\r=xK BC k
def zeE (H:Hp)(a:Addr)(y v:V)(H':Hp):Prop:=
 (∃BC k,H a=some (.dK BC)/\y=kV k/\BC.length<sizeLine/\H'=upd H a (.dK (uZ BC k v)))\/
 ∃BC k b,H a=some (.dT BC)/\y = .ref b/\H b=some (.tup (k.map kV))/\BC.length<sizeLine/\H'=upd H a (.dT (uZ BC k v))
def zbv.k {H:Hp}{a:Addr}{BC:List (Key×V)}{k:Key}(e:H a=some (.dK BC)):zbv H a (kV k) (xK BC k):=.inl #[BC,k,.inl e,BA,BA]
def zbv.t {H:Hp}{a b:Addr}{BC:List (List Key×V)}{k:List Key}(e:H a=some (.dT BC))(q:H b=some (.tup (k.map kV))):zbv H a (.ref b) (xK BC k):=.inr #[BC,k,b,.inl e,BA,q,BA]
def zeE.k {H:Hp}{a:Addr}{BC:List (Key×V)}{k:Key}{v:V}(e:H a=some (.dK BC))(q:BC.length<sizeLine):zeE H a (kV k) v (upd H a (.dK (uZ BC k v))):=.inl #[BC,k,e,BA,q,BA]
def zeE.t {H:Hp}{a b:Addr}{BC:List (List Key×V)}{k:List Key}{v:V}(e:H a=some (.dT BC))(q:H b=some (.tup (k.map kV)))(B:BC.length<sizeLine) :
  zeE H a (.ref b) v (upd H a (.dT (uZ BC k v))):=.inr #[BC,k,b,e,BA,q,B,BA]
section
variable {X:Cx}{BB:AB}{G:St}{H:Hp}{s:AZ}{a:Addr}{y v:V}{u r:Value}{o:Option V}{A:Ae}{E:AA}
def Inv.big (I:Inv X BB G H s):sysModules<s.heap.objs.size:=by have h:mainGlobals<s.heap.objs.size:=(I.mod.glob.keeps I.bk).lt;show Nat.lt_trans (by ext) h
def zi9(Y:A.units+1<cLine)(I:Inv X BB G H s)(g:zbv H a y (some v))(U:yo y u)(h:∀w' s',Inv X BB G H s'->yo v w'->Q w' s') :
  wpAny (model X.prog X.w) A (getItem (.ref a) u) Q E s:=by
 rcases g with ⟨BC,k,e,ey,l⟩ | ⟨BC,k,b,e,ey,eb,l⟩;subst ey;obtain⟨z,Z,vs,q,F⟩:=zlF I.hok e;obtain⟨w',J,B⟩:=zfV.some_of (v:=v) (o:=valueAt vs k) (by rw[l];show q.val k);show wpAny_getItem_of (zh7 U) F.mapOf J (h w' _ (I.tok _) B);subst ey;cases (show u=Value.ref b from U);obtain⟨z,Z,xs,q,F⟩:=zlI I.hok e;obtain⟨w',J,B⟩:=zfV.some_of (v:=v) (o:=(atKey xs k).map (·.2)) (by rw[l];show q.val k);obtain⟨p,hp,O⟩:=aJ.mp J;show wpAny_getItem_heap (fS Y) (zfg I.hok eb) F hp ?_;rw[O];show h w' _ (I.tok _) B
def zou(U:A.units+1<cLine)(I:Inv X BB G H s)(g:zbv H a y o)(O:yo y u)(h:∀s',Inv X BB G H s'->Q (.bool (!o.isSome)) s') :
  wpAny (model X.prog X.w) A (compareOp .NotIn u (.ref a)) Q E s:=by
 rcases g with ⟨BC,k,e,ey,l⟩ | ⟨BC,k,b,e,ey,eb,l⟩;subst ey;obtain⟨z,F,vs,B,J⟩:=zlF I.hok e;show wpAny_notIn_of (zh7 O) F J.mapOf ?_;rw[<- (B.val k).isSome_eq,<- l];show h _ (I.tok _);subst ey;cases (show u=Value.ref b from O);obtain⟨z,F,xs,B,J⟩:=zlI I.hok e;show wpAny_notIn_heap (fS U) (zfg I.hok eb) F J ?_;have q:=(B.val k).isSome_eq;rw[gb] at q;rw[<- q,<- l];show h _ (I.tok _)
def zb0(I:Inv X BB G H s)(F:Mut (H a))(hs:Heap.SameBut a s.heap h')(J:∃q,h'.get? a=some q)(B:yd X.prog X.w (upd H a ob) h' a ob) :
  Inv X BB G (upd H a ob) { s with heap:=h',toks:=t' }:=
 I.write (x:=a) (e:=a) F (.inl BA) (λb q O z=>(hs.2 b O).trans z) J B
def zjf(z:BC.length<=sizeLine)(B:(a==sysModules)=false)(q:KV BC vs)(F:h'.DictOf (zT P w) a vs) :
  yd P w H' h' a (.dK BC):=#[z,B,vs,q,F]
def zja(hu:A.units+1<cLine)(I:Inv X BB G H s)(g:zeE H a y v H')(ry:yo y u)(rv:yo v r)(h:∀s',Inv X BB G H' s'->Q () s') :
  wpAny (model X.prog X.w) A (setItem (.ref a) u r) Q E s:=by
 rcases g with ⟨BC,k,e,ey,l,eH⟩ | ⟨BC,k,b,e,ey,eb,l,eH⟩;subst ey eH;obtain⟨z,O,vs,B,U⟩:=zov I.hok e;have Y:vs.length<=sizeLine:=by rw[<- B.length];show z
 have Z:(uZ BC k v).length<=sizeLine:=by have:=xp BC k v;lia
 show wpAny_setItem_pairs (hsz:=Y) (zh7 ry) U λh' F hs=>h _ ?_;have he:∃q,h'.get? a=some q:=let ⟨q,_,_,J,_⟩:=F;#[q,J];show zb0 I (by rw[e];show True.intro) hs he (zjf Z O (B.put k rv) F);subst ey eH;cases (show u=Value.ref b from ry);obtain⟨z,O,xs,B,U⟩:=zrE I.hok e;have Y:xs.length<=sizeLine:=by rw[<- gm B];show z
 have Z:(uZ BC k v).length<=sizeLine:=by have:=xp BC k v;lia
 show wpAny_setItem_heap (hsz:=Y) (fS hu) (zfg I.hok eb) U λh' F hs=>h _ ?_;obtain⟨q,es,ep,J,h2,h3,h4,_,h5⟩:=F;show zb0 I (by rw[e];show True.intro) hs #[q,J] #[Z,O,_,(B.put k eb rv).keeps λc ys ec=>?_,q,es,ep,J,h2,h3,h4,h5];rw[zf (by grind)];show ec
variable {BC:List (Key×V)}{k:Key}
end
def zt4 (i:Expr):Prop:=∀q B,subscripted i false q B=operate [q,B] (getItem q B)
def zqL {prog:Aa}{w:Ab}{A:Ae}{E:AA}{s:AZ}{env:Env}{value q:Expr}{pos:Pos}{T id:String}{Q:AA}
  (Z:typeLookup (.type T) "__getitem__" = pure (some (.builtin id))) (hs:zt4 q)
  (h:Ag prog w A (eval value env) (λo I=>Ag prog w A (eval q env) (λi B=>B.TypeIs o T/\Ag prog w A (getItem o i) Q E B) E I) E s) :
  Ag prog w A (eval (.Subscript value q pos) env) Q E s:=by
 show Subscript_ (bM h (λo I O=>bM O (λi B F=>?_) λ_ _ x=>x) λ_ _ x=>x);obtain⟨Y,F⟩:=F;unfold subscriptTail;show aa ?_;rw[getitemInPython_of_ne Y.not_modules];show aa (ef Y Z ?_);have fin:Ag prog w A (subscripted q false o i) (λr J=>Ag prog w A (letTemporaryGo value o r >>= λ_=>pure r) Q E J) E B:=by rw[hs o i];show wpAny_operating (bM F (λr J U=>aa (wpAny_letTemporaryGo (af U))) λ_ _ x=>x)
 first
  | show af (aa fin)
  | show aa (by grind)
  | show aa fin
def zf9{X:Cx}{BB:AB}{G:St}{H:Hp}{s:AZ}{a:Addr}{y:V}(I:Inv X BB G H s)(g:zbv H a y o):s.TypeIs (.ref a) "dict" := by
 rcases g with ⟨BC,k,e,_,_⟩ | ⟨BC,k,b,e,_,_,_⟩;obtain⟨_,_,vs,_,q⟩:=zlF I.hok e;show q.typeIs;obtain⟨_,_,xs,_,q⟩:=zlI I.hok e;show q.typeIs
def zqM (td ty:TE):TE:=λG H Q=>td G H λx H1=>ty G H1 λy H2=>∃a v,x = .ref a/\zbv H2 a y (some v)/\Q v H2
def zgO (ty td:TE):TE:=λG H Q=>ty G H λy H1=>td G H1 λx H2=>∃a o,x = .ref a/\zbv H2 a y o/\Q (.bl (!o.isSome)) H2
def zqB (td ty tv:TE):TS:=λBG G H=>tv G H λv H1=>td G H1 λx H2=>ty G H2 λy H3=>∃a H4,x = .ref a/\zeE H3 a y v H4/\BG.nx G H4
section
variable {X:Cx}{o i e value:Expr}{pos pos' tpos:Pos}{td ty tv:TE}
def zkq (B:X.A.units+1<cLine)(J:PE X o td)(hi:PE X i ty)(hs:zt4 i):PE X (.Subscript o i pos) (zqM td ty):=by intro BB s G H Q I h;show zqL PySem.F.slot_dict_getitem.lookup hs (thn (J BB s G H _ I h) λu O ⟨x,H1,I1,U,Y⟩=>thn (hi BB O G H1 _ I1 Y)  ?_);rintro iv s2 ⟨y,H2,I2,Z,a,v,ex,g,q2⟩;subst ex;obtain rfl:u=Value.ref a:=U;show#[zf9 I2 g,zi9 B I2 g Z λw' s3 I3 q=>#[v,H2,I3,q,q2]]
def zfv (q:X.A.units+1<cLine)(hi:PE X i ty)(B:PE X o td):PC X .NotIn i o (zgO ty td):=by intro BB s G H Q I h;show thn (hi BB s G H _ I h) λiv F ⟨y,H1,I1,J,O⟩=>thn (B BB F G H1 _ I1 O)  ?_;rintro u s2 ⟨x,H2,I2,U,a,Y,ex,g,Z⟩;subst ex;obtain rfl:u=Value.ref a:=U;show zou q I2 g J λs3 I3=>#[.bl (!Y.isSome),H2,I3,BA,Z]
def zky (q:X.A.units+1<cLine)(B:PE X o td)(hi:PE X i ty)(F:PE X value tv)(hs:swapsWith value (some (.Subscript o i pos')) pos.line X.env=pure false) :
  PS X (.Assign [.Subscript o i pos'] value pos) (zqB td ty tv):=by
 intro BB s G H BG I h;show wpAny_Assign_Subscript (thn (F BB s G H _ I h) λr J ⟨v,H1,I1,O,U⟩=>thn (B BB J G H1 _ I1 U) λu Y ⟨x,H2,I2,Z,q2⟩=>thn (hi BB Y G H2 _ I2 q2) λiv s3 ⟨y,H3,I3,ry,a,H4,ex,g,q3⟩=>?_) hs;subst ex;obtain rfl:u=Value.ref a:=Z;show zja q I3 g ry O λs4 I4=>#[G,H4,I4,q3]
end
def zlE(h:Heap)(q:sysModules<h.objs.size):yd P w H (h.push { cls:=.type "dict",data:=.dict #v[] }) h.objs.size (.dK []):=
 #[aL _,beq_eq_false_iff_ne.mpr (Ne.symm (aQ q)),[],.nil,Heap.DictOf.new h]
def zg6(h:Heap)(q:sysModules<h.objs.size):yd P w H (h.push { cls:=.type "dict",data:=.dict #v[] }) h.objs.size (.dT []):=
 #[aL _,beq_eq_false_iff_ne.mpr (Ne.symm (aQ q)),[],.nil,_,#v[],0,ar _ BA,#[BA,BA,BA],BA,BA,fX]
def zoc:TE:=λ_ H Q=>∀p,H p=none->Q (.ref p) (upd H p (.dT []))
section
variable {X:Cx}{pos:Pos}
def zmy:PE X (.Dict [] [] pos) zoc:=λBB s G H Q I h=>
 wpAny_Dict_empty #[.ref s.heap.objs.size,_,I.laid (a:=s.heap.objs.size) (o:=.dT []) (t':=s.toks) (λ_ _ q=>ae _ q) (ai _) (zg6 s.heap I.big),BA,h _ (I.hok.fresh (ai _))]
end
def zhN:List (TE×TE)->St->Hp->(List (V×V)->Hp->Prop)->Prop
 | [],_,H,Q=>Q [] H
 | (tk,tv)::r,G,H,Q=>tk G H λx H1=>tv G H1 λy H2=>zhN r G H2 λps H3=>Q ((x,y)::ps) H3
abbrev VV:List (V×V)->List (Value×Value)->Prop:=Paired λp q=>yo p.1 q.1/\yo p.2 q.2
def PPs (X:Cx)(pos:Pos)(B:List (Option Expr))(q:AO)(F:List (TE×TE)):Prop:=
 ∀ (BB:AB) (s:AZ) (G:St) (H:Hp) (Q:List (V×V)->Hp->Prop),Inv X BB G H s->zhN F G H Q->
  Af X (evalPairs (pairTrees B q X.env pos)) (λvs s'=>∃ps H',Inv X BB G H' s'/\VV ps vs/\Q ps H') X.xe s
def zkv:PPs X pos [] [] []:=λBB s G H Q I h=>pairTrees_nil_walk #[[],H,I,.nil,h]
def zhz(F:PE X k tk)(J:PE X v tv)(O:PPs X pos ks vs q) :
  PPs X pos (some k::ks) (v::vs) ((tk,tv)::q):=λBB s G H Q I h=>
 pairTrees_cons_walk (thn (F BB s G H _ I h) λu U ⟨x,H1,I1,Y,Z⟩=>thn (J BB U G H1 _ I1 Z) λw2 s2 ⟨y,H2,I2,ry,q2⟩=>
  thn (O BB s2 G H2 _ I2 q2) <| by rintro ws s3 ⟨ps,H3,I3,B,q3⟩;show#[(x,y)::ps,H3,I3,.cons #[Y,ry] B,q3])
def zch (BC more:List (Key×V)):List (Key×V):=more.foldl (λacc kv=>uZ acc kv.1 kv.2) BC
def KV.merge:∀ {more:List (Key×V)} {B:List (Key×Value)} {BC:List (Key×V)} {vs:List (Key×Value)},KV more B->KV BC vs->KV (zch BC more) (merged vs B):=by
 intro more B BC vs r;unfold KV at r
 induction r generalizing BC vs with
 | nil=>intro q;show q
 | @cons p q ps J h t F=>
  intro I
  have e:KV (uZ BC p.1 p.2) (stored vs q.1 q.2):=by
   have:=I.put p.1 h.2;right
  show F e
theorem zaL:∀ (more BC:List (Key×V)),(zch BC more).length<=BC.length+more.length
 | [],BC=>by change BC.length<=BC.length+0;lia
 | p::r,BC=>by
  have h1:=zaL r (uZ BC p.1 p.2);have h2:=xp BC p.1 p.2;change (zch (uZ BC p.1 p.2) r).length<=_;grind
theorem zc4:∀ {BC:List (Key×V)} {F:List (Value×Value)},VV (BC.map λkv=>(kV kv.1,kv.2)) F->∃B,Carries (zT P w) F B/\KV BC B
 | [],_,r=>by rw[eU] at r;cases r;show#[[],True.intro,.nil]
 | p::BC,_,r=>by
  rw[aB] at r
  cases r with
  | @cons a b as J h t=>
   obtain⟨B,c,q⟩:=zc4 (P:=P) (w:=w) t;obtain⟨O,I⟩:=b;show#[(p.1,I)::B,#[zh7 h.1,BA,c],.cons #[BA,h.2] q]
def ztp (q:List (TE×TE)):TE:=λG H Q=>∀p,H p=none->zhN q G (upd H p (.dK [])) λps H2=>H2 p=some (.dK [])/\∃BC:List (Key×V),ps=BC.map (λkv=>(kV kv.1,kv.2))/\BC.length<=15/\Q (.ref p) (upd H2 p (.dK (zch [] BC)))
def zpI(h:PPs X pos B F J)(O:B.all (·.isSome)=true)(hl:B.length=F.length)(h0:B≠[])(Y:B.length<=15):PE X (.Dict B F pos) (ztp J):=by
 intro BB s G H Q I q;have hn:=I.hok.fresh (ai s.heap.objs.size);have I1:=I.laid (a:=s.heap.objs.size) (o:=.dK []) (h':=s.heap.push { cls:=.type "dict",data:=.dict #v[] }) (t':=s.toks) (λ_ _ q=>ae _ q) (ai _) (zlE s.heap I.big);show wpAny_Dict_walk (knd:=zT X.prog X.w) O hl h0 Y (thn (h BB _ G _ _ I1 (q _ hn))  ?_);rintro ws s2 ⟨ps,H2,I2,Z,e,BC,ep,lk,q2⟩;subst ep;obtain⟨rs,c,rk⟩:=zc4 (P:=X.prog) (w:=X.w) Z;obtain⟨z,hd,ac,r0,dd⟩:=zov I2.hok e;cases r0;show#[rs,c,dd,λh' U hs=>#[.ref s.heap.objs.size,_,?_,BA,q2]];have hz:(zch [] BC).length<=sizeLine:=by have h1:=zaL BC [];rw[List.length_nil] at h1;rw[cH];lia
 have he:∃q,h'.get? s.heap.objs.size=some q:=let ⟨q,_,_,hq,_⟩:=U;#[q,hq];show zb0 I2 (by rw[e];show True.intro) hs he (zjf hz hd (rk.merge .nil) U)
section
variable {X:Cx}{BB:AB}{G:St}{H:Hp}{s:AZ}{a:Addr}{y d:V}{u r:Value}{o:Option V}{A:Ae}{E:AA}
variable {o e f:Expr}{apos cpos:Pos}{td ty tx:TE}
variable {BC:List (Key×V)}
end
end L2
namespace HT
open PyProof.Rows
def lexLt:AG->AG->Bool
 | [],[]=>false
 | [],_::_=>true
 | _::_,[]=>false
 | x::xs,y::ys=>if x=y then lexLt xs ys else decide (x<y)
section
open PySem.SeqAt
open PySem.AutoSeq1 (wpAny_loadPart')
open PySem.MeetsSeq PySem.MeetsSeq2 PySem.MeetsSeq3
variable {prog:Aa}{w:Ab}{A:Ae}{E:AA}{s:AZ}
def cat_tup(ht:IsTup s.heap t vs.toArray)(hb:IsTup s.heap b q.toArray)(hv:vs≠[])(h1:q=[]->Q (.ref t) s)(h2:q≠[]->Q (.ref s.heap.objs.size) { s with heap:=s.heap.push { cls:=.type "tuple",data:=.seq (vs++q).toArray } })(hsz:vs.length+q.length<=sizeLine):Ag prog w A (binaryOp .Add (.ref t) (.ref b)) Q E s:=by
 obtain⟨⟨cls,dd,data,sl⟩,Y,hc,n,hd⟩:=id ht;obtain⟨⟨ad,I,ac,J⟩,B,O,n2,U⟩:=id hb;simp only at hc hd O U;subst hc hd O U;have e:vs.toArray++q.toArray=(vs++q).toArray:=by simp
 by_cases Z:q=[]
 ·show concat_meets #[_,Y,BA] #[_,B,BA] noFill_tuple_add seq_tuple_add PySem.F.slot_tuple_add PySem.F.entry_tuple_add (PySem.F.args_tuple_add_2 _ _)
   (tuple_addW1 t b vs.toArray q.toArray n n2 dd I sl J (by simpa using hv) (by simp[Z])) #[Y,B,h1 Z]
 ·show concat_meets #[_,Y,BA] #[_,B,BA] noFill_tuple_add seq_tuple_add PySem.F.slot_tuple_add PySem.F.entry_tuple_add (PySem.F.args_tuple_add_2 _ _)
   (tuple_addW2 t b vs.toArray q.toArray n n2 dd I sl J (by simpa using hv) (by simpa using Z) (by right)) #[Y,B,?_]
  rw[e];show h2 Z
def sIx (n d:Nat):AQ->Nat
 | none=>d
 | some v=>if v<0 then (v+(n:Int)).toNat else min v.toNat n
def sIx_none (n d:Nat):sIx n d none=d:=rfl
def sIx_nat (n d k:Nat):sIx n d (some (k:Int))=min k n:=by change (if (k:Int)<0 then ((k:Int)+(n:Int)).toNat else min (k:Int).toNat n)=min k n;rw[if_neg (by lia),Int.toNat_natCast]
def ztk (n d:Nat)(B:d<=n)(o:AQ):sIx n d o<=n:=by
 cases o with
 | none=>show B
 | some v=>
  change (if v<0 then (v+(n:Int)).toNat else min v.toNat n)<=n;by_cases q:v<0;rw[if_pos q];lia;rw[if_neg q];show Nat.min_le_right _ _
def ziY (v:Int)(n d:Nat):(if v<0 then max (v+(n:Int)) 0 else min v (n:Int))=((sIx n d (some v):Nat):Int):=by
 change (if v<0 then max (v+(n:Int)) 0 else min v (n:Int))=(((if v<0 then (v+(n:Int)).toNat else min v.toNat n):Nat):Int);grind
def zhW (lo hi:AQ)(n:Nat):Builtin.Slice.sliceAdjust lo hi 1 (n:Int)=(((sIx n 0 lo:Nat):Int),((sIx n n hi:Nat):Int)):=by
 have h1:¬ ((1:Int)<0):=by lia
 unfold Builtin.Slice.sliceAdjust;simp only[h1,if_false];show Prod.ext ?_ ?_
 cases lo with
 | none=>rfl
 | some v=>show ziY v n 0
 cases hi with
 | none=>rfl
 | some v=>show ziY v n n
def zim (i j:Nat):Builtin.Slice.slicePlaces (i:Int) (j:Int) 1=j - i:=by
 unfold Builtin.Slice.slicePlaces;have h1:(1:Int) > 0:=by lia
 simp only[h1,if_true,Int.ediv_one];split <;> lia
def zdo{o:AQ}{Q:AQ->AZ->Prop}(p:IsPart v o)(h:Q o s):Ag prog w A (Builtin.Slice.slicePartIndex v) Q E s:=by
 cases p with
 | none=>show slicePart_none h
 | int i t=>show slicePart_int h
def uH{lo hi:AQ}{Q:Int×Int×Nat->AZ->Prop}(hs:s.heap.IsSliceOf J F I .none)(pl:IsPart F lo)(O:IsPart I hi)(h:Q (((sIx n 0 lo:Nat):Int),1,sIx n n hi - sIx n 0 lo) s):Ag prog w A (Builtin.Slice.sliceApplied (.ref J) (pure (n:Int))) Q E s:=by
 obtain⟨Y,q,U,B⟩:=id hs;unfold Builtin.Slice.sliceApplied Builtin.Slice.sliceFields;show wpAny_bind (wpAny_bind (wpAny_field q B (x:=F) BA (wpAny_bind (wpAny_field q B (x:=I) BA (wpAny_bind (wpAny_field q B (x:=.none) BA (wpAny_pure ?_)))))));show wpAny_bind (slicePart_none ?_);change wpAny _ _ (if ((1:Int)==0)=true then _ else _) _ _ s;rw[if_neg (by ext)];show wpAny_bind (zdo pl (wpAny_bind (zdo O (wpAny_bind (wpAny_pure ?_)))));change wpAny _ _ (match Builtin.Slice.sliceAdjust lo hi 1 (n:Int) with | (lo,hi)=>pure (lo,(1:Int),Builtin.Slice.slicePlaces lo hi 1)) _ _ s;rw[zhW lo hi n];change wpAny _ _ (pure (((sIx n 0 lo:Nat):Int),(1:Int),Builtin.Slice.slicePlaces ((sIx n 0 lo:Nat):Int) ((sIx n n hi:Nat):Int) 1)) _ _ s;rw[zim];show wpAny_pure h
def zmC (xs:AK)(i k:Nat):((List.range k).filterMap λ(m:Nat)=>xs[((i:Int)+(m:Int) * 1).toNat]?).toArray=((xs.toList.drop i).take k).toArray:=by
 have e:(λ(m:Nat)=>xs[((i:Int)+(m:Int) * 1).toNat]?)=λm=>xs[i+m]?:=by
  funext m;have:((i:Int)+(m:Int) * 1).toNat=i+m:=by lia
  rw[this]
 rw[e];have:=pick_run xs i k;rw[List.filterMap_map] at this;have q:((λx=>xs[x]?) ∘ λx=>i+x)=λm=>xs[i+m]?:=rfl;right
def getItem_tuple_cut{lo hi:AQ}(B:IsTup s.heap t items)(hs:s.heap.IsSliceOf F Y Z .none)(pl:IsPart Y lo)(pu:IsPart Z hi)(hw:¬ (sIx items.size 0 lo=0/\sIx items.size items.size hi=items.size))(h:Q (.ref s.heap.objs.size) { s with heap:=s.heap.push { cls:=.type "tuple",data:=.seq ((items.toList.drop (sIx items.size 0 lo)).take (sIx items.size items.size hi - sIx items.size 0 lo)).toArray } })(hsz:items.size<=sizeLine):Ag prog w A (getItem (.ref t) (.ref F)) Q E s:=by
 have q:sizeOk (.seq ((items.toList.drop (sIx items.size 0 lo)).take (sIx items.size items.size hi - sIx items.size 0 lo)).toArray):=by change ((items.toList.drop (sIx items.size 0 lo)).take (sIx items.size items.size hi - sIx items.size 0 lo)).toArray.size<=sizeLine;rw[List.size_toArray,List.length_take,List.length_drop,Array.length_toList];lia
 have hj:sIx items.size items.size hi<=items.size:=ztk _ _ (Nat.le_refl _) hi;obtain⟨os,I,J,ac⟩:=id hs;have O:s.TypeIs (.ref F) "slice" := #[os,I,J];unfold getItem;try with_reducible show wpAny_holding ?_
 first | show wpAny_bind (wpAny_pure ?_) | skip
 show wpAny_bind (wpAny_sequenceKey B.typeIs (by ext) ?_)
 show wpAny_bind (wpAny_callSpecial?_slot (name:=Str.ofString "__getitem__") B.typeIs PyProof.Rows.slot_tuple_getitem
  (wpAny_call_entry PyProof.Rows.slot_tuple_getitem B.typeIs entry_tuple_getitem ?_ (args_tuple_getitem _ _)))
 change wpAny _ _ (Builtin.Tuple.tupleItemsOf (.ref t) >>= _) _ _ s;show wpAny_bind (tupleItemsOf_ B ?_);show wpAny_bind (wpAny_typeOf O ?_);rw[if_pos (by ext)];show wpAny_bind (uH hs pl pu ?_);have U:¬ ((((sIx items.size 0 lo:Nat):Int)==0&&(1:Int)==1&&(sIx items.size items.size hi - sIx items.size 0 lo)==items.size)=true):=by grind
 change wpAny _ _ (if (((sIx items.size 0 lo:Nat):Int)==0&&(1:Int)==1&&(sIx items.size items.size hi - sIx items.size 0 lo)==items.size)=true then _ else _) _ _ s;rw[if_neg U,zmC]
 first
  | show wpAny_bind (m:=Builtin.Tuple.tupleExact _) (wpAny_newObj_type (wpAny_pure #[_,BA,wpAny_pure h]) q)
  | show wpAny_bind (by grind) (by grind)
  | show wpAny_bind (by grind)
  | show wpAny_bind (by grind)
end
end HT
namespace L2
open PyProof.Rows
abbrev TO:=St->Hp->(AQ->Hp->Prop)->Prop
def PO (X:Cx)(e:Option Expr)(t:TO):Prop:=
 ∀ (BB:AB) (s:AZ) (G:St) (H:Hp) (Q:AQ->Hp->Prop),Inv X BB G H s->t G H Q->
  Af X (evalPart e X.env) (λu s'=>∃o H',Inv X BB G H' s'/\IsPart u o/\Q o H') X.xe s
def zk1:TO:=λ_ H Q=>Q none H
def zty (t:TE):TO:=λG H Q=>t G H λx H1=>∃i,x = .int i/\Q (some i) H1
section
variable {X:Cx}{e:Expr}{te:TE}{lo hi:Option Expr}{tl th:TO}{pos p2:Pos}
def zpY:PO X none zk1:=by intro BB s G H Q I h;rw[evalPart_none];show af #[none,H,I,.none,h]
def zpZ (h:PE X e te):PO X (some e) (zty te):=by intro BB s G H Q I B;rw[evalPart_some];show thn (h BB s G H _ I B)  ?_;rintro u O ⟨x,H1,I1,F,J⟩;obtain⟨i,rfl,q⟩:=J;obtain⟨t,rfl⟩:=F;show#[some i,H1,I1,.int i t,q]
def SlR (X:Cx)(r:V->AQ->AQ->Hp->VK->Prop):Prop:=
 ∀ (BB:AB) (s:AZ) (G:St) (H:Hp) (x:V) (v q B:Value) (lo hi:AQ) (F:Addr) (Q:VK),Inv X BB G H s->yo x v->s.heap.IsSliceOf F q B .none->IsPart q lo->IsPart B hi->r x lo hi H Q->
  ∃T id,typeLookup (.type T) "__getitem__" = pure (some (.builtin id))/\s.TypeIs v T/\Af X (getItem v (.ref F)) (EP X BB G Q) X.xe s
def tSl (r:V->AQ->AQ->Hp->VK->Prop)(te:TE)(tl th:TO):TE:=λG H Q=>te G H λx H1=>tl G H1 λl H2=>th G H2 λu H3=>r x l u H3 Q
def zmA {r:V->AQ->AQ->Hp->VK->Prop}(O:SlR X r)(U:PE X e te)(Y:PO X lo tl)(Z:PO X hi th):PE X (.Subscript e (.Slice lo hi none p2) pos) (tSl r te tl th):=by intro BB s G H Q I h;show Subscript_ (thn (U BB s G H _ I h)  ?_);rintro v s1 ⟨x,H1,I1,r1,q1⟩;show wpAny_Slice (thn (Y BB s1 G H1 _ I1 q1) λF s2 ⟨l,H2,I2,pl,q2⟩=>thn (Z BB s2 G H2 _ I2 q2)  ?_);rintro J B ⟨u,H3,I3,pu,q3⟩;rw[evalPart_none];show af ?_;have I4:Inv X BB G H3 { B with heap:=B.heap.push { cls:=.type "slice",data:=.fields #v[F,J,.none] } }:=I3.kept (t':=B.toks) λb ob q=>ae _ q;obtain⟨T,id,hT,ht,hg⟩:=O BB { B with heap:=B.heap.push { cls:=.type "slice",data:=.fields #v[F,J,.none] } } G H3 x v F J l u B.heap.objs.size Q I4 r1 (Heap.IsSliceOf.new ..) pl pu q3;change Af X (subscriptTail e (.Slice lo hi none p2) v (.ref B.heap.objs.size)) (EP X BB G Q) X.xe { B with heap:=B.heap.push { cls:=.type "slice",data:=.fields #v[F,J,.none] } };show tail_any (ops:=[.ref B.heap.objs.size,v]) ht hT hg (by with_unfolding_all rfl)
def zeF (xs:AT)(lo hi:AQ):AT:=(xs.drop (HT.sIx xs.length 0 lo)).take (HT.sIx xs.length xs.length hi - HT.sIx xs.length 0 lo)
def zaz (xs:AT)(lo hi:AQ):(zeF xs lo hi).length<=xs.length:=by unfold zeF;rw[bq,dw];lia
def rSlT (K:AH):V->AQ->AQ->Hp->VK->Prop:=λx lo hi H Q=>∃a xs,x = .ref a/\SqT K H a xs/\
 ¬ (HT.sIx xs.length 0 lo=0/\HT.sIx xs.length xs.length hi=xs.length)/\∀p,H p=none->Q (.ref p) (upd H p (.tup (zeF xs lo hi)))
def ztm:SlR X (rSlT X.K):=by
 intro BB s G H x v vl vu lo hi sl Q I U hs pl Y h;obtain⟨a,xs,rfl,Z,hw,q⟩:=h;cases U;obtain⟨F,r,J,O⟩:=I.tuple Z;have B:F.toArray.size=xs.length:=by rw[aY];show r.length.symm
 show#["tuple",_,PyProof.Rows.slot_tuple_getitem.lookup,J.typeIs,?_];show HT.getItem_tuple_cut J hs pl Y (by rw[B];show hw) ?_ (by rw[B];show O);rw[B];show#[.ref s.heap.objs.size,_,I.laid (t':=s.toks) (o:=.tup (zeF xs lo hi)) (λb ob q=>ae _ q) (ai _) ?_,BA,q _ (I.hok.fresh (ai _))];show#[aH (zaz xs lo hi) O,_,(r.drop (HT.sIx xs.length 0 lo)).take (HT.sIx xs.length xs.length hi - HT.sIx xs.length 0 lo),zaq.new _ _]
def zvW (K:AH):R2:=λx y H Q=>∃a b xs ys,x = .ref a/\y = .ref b/\SqT K H a xs/\SqT K H b ys/\xs≠[]/\xs.length+ys.length<=sizeLine/\
 (ys=[]->Q (.ref a) H)/\(ys≠[]->∀p,H p=none->Q (.ref p) (upd H p (.tup (xs++ys))))
def yb.nil_iff(r:yb xs us):us=[]↔xs=[]:=by
 cases r with
 | nil=>simp
 | cons _ _=>simp
def zpB:OpR X (binaryOp .Add) (zvW X.K):=by intro BB s G H x y v u Q I O U h;obtain⟨a,b,xs,ys,rfl,rfl,Y,Z,hx,hz,q1,q2⟩:=h;cases O;cases U;obtain⟨ac,F,p1,_⟩:=I.tuple Y;obtain⟨J,B,p2,_⟩:=I.tuple Z;show HT.cat_tup p1 p2 (λz=>hx (F.nil_iff.mp z)) (λz=>#[.ref a,H,I,BA,q1 (B.nil_iff.mp z)]) (λz=>?_) (by rw[<- F.length,<- B.length];show hz);show#[.ref s.heap.objs.size,_,I.laid (t':=s.toks) (o:=.tup (xs++ys)) (λb ob q=>ae _ q) (ai _) ?_,BA,q2 (λw=>z (B.nil_iff.mpr w)) _ (I.hok.fresh (ai _))];show#[by right,_,F.append B,zaq.new _ _]
end
def ixN (n:Nat)(i:Int):Option Nat:=if 0<=i then (if i<n then some i.toNat else none) else if -(n:Int)<=i then some (i+n).toNat else none
def atI {α:Type}(xs:List α)(i:Int):Option α:=(ixN xs.length i).bind λj=>xs[j]?
def zjI {n:Nat}{i:Int}{j:Nat}(h:ixN n i=some j):seqIndex? i n=some j/\j<n/\-(n:Int)<=i/\i<n:=by
 unfold ixN at h;by_cases q:0<=i;rw[if_pos q] at h;by_cases h1:i<n;rw[if_pos h1] at h;have e:i.toNat=j:=ce h;show#[by rw[seqIndex_of q h1,e],by lia,by lia,h1];right;rw[if_neg q] at h;by_cases h1:-(n:Int)<=i;rw[if_pos h1] at h;have e:(i+n).toNat=j:=ce h;show#[by rw[seqIndex_neg (by lia) h1,e],by lia,h1,by lia];right
def ziQ {α:Type}{xs:List α}{i:Int}{v:α}(h:atI xs i=some v):∃j,seqIndex? i xs.length=some j/\xs[j]?=some v/\j<xs.length/\-(xs.length:Int)<=i/\i<xs.length:=by
 unfold atI at h
 cases e:ixN xs.length i with
 | none=>rw[e] at h;cases h
 | some j=>
  rw[e] at h;obtain⟨h1,h2,q,B⟩:=zjI e;show#[j,h1,h,h2,q,B]
def ziR {α:Type}{xs:List α}{j:Nat}{v:α}(h:xs[j]?=some v):atI xs (j:Int)=some v:=by
 have q:j<xs.length:=(ah.mp h).1
 have e:ixN xs.length (j:Int)=some j:=by
  unfold ixN;right
 unfold atI;rw[e];show h
def zfX (b:Expr):Prop:=∀o i,subscripted b false o i=operate [o,i] (getItem o i)
def IxR (X:Cx)(r:R2):Prop:=
 ∀ (value q:Expr) (BB:AB) (s:AZ) (G:St) (H:Hp) (x y:V) (v u:Value) (Q:VK),Inv X BB G H s->yo x v->yo y u->r x y H Q->
  subscripted q false v u=operate [v,u] (getItem v u)->Af X (subscriptTail value q v u) (EP X BB G Q) X.xe s
def MtR (X:Cx)(id:String)(r:V->AT->Hp->VK->Prop):Prop:=
 ∀ (BB:AB) (s:AZ) (G:St) (H:Hp) (x:V) (xs:AT) (v:Value) (us:AN) (Q:VK),Inv X BB G H s->yo x v->yb xs us->r x xs H Q->
  Af X (call (.builtin id) (v::us)) (EP X BB G Q) X.xe s
section
variable {X:Cx}{a b:Expr}{ta tb:TE}{pos:Pos}
def zvO(B:IxR X r)(F:PE X a ta)(J:PE X b tb)(hs:zfX b):PE X (.Subscript a b pos) (tOp r ta tb):=by intro BB s G H Q I h;show Subscript_ (zuB F J I h λv u O x y H2 I2 U Y q=>B a b BB O G H2 x y v u Q I2 U Y q (hs _ _))
def zum (K:AH):R2:=λx y H Q=>∃p xs i v,x = .ref p/\y = .int i/\SqL K H p xs/\atI xs i=some v/\Q v H
def zrf (K:AH):R2:=λx y H Q=>∃p xs i v,x = .ref p/\y = .int i/\SqT K H p xs/\atI xs i=some v/\Q v H
def zoX:IxR X (zum X.K):=by
 intro value B BB s G H x y v u Q I Z ry h hs;obtain⟨p,xs,i,z,rfl,rfl,hq,he,q⟩:=h;cases Z;obtain⟨t,rfl⟩:=ry;obtain⟨F,r,pl,hz⟩:=I.list hq;obtain⟨j,h1,h2,h3,h4,h5⟩:=ziQ he;obtain⟨w,U,J⟩:=r.get h2;have hl:=r.length;have hn:=zhm;have fin:EP X BB G Q w s:=#[z,H,I,J,q];by_cases Y:0<=i
 have O:i.toNat=j:=by
  rw[seqIndex_of Y h5] at h1;right
 show item_listR pl.isList Y (by lia) (by rw[O];simpa using U) fin hs
 have O:(i+(F.toArray.size:Int)).toNat=j:=by
  rw[seqIndex_neg (by lia) h4] at h1;right
 show subscriptTail_builtinR (x:=w) pl.isList.typeIs slot_list_getitem.lookup
  (wpAny_getItem_list_neg (Q:=λr s'=>r=w/\EP X BB G Q r s') pl.isList (by lia) (by right) (by lia) (by rw[O];simpa using U) #[BA,fin]) hs
def zrU:IxR X (zrf X.K):=by
 intro value B BB s G H x y v u Q I J O h hs;obtain⟨p,xs,i,z,rfl,rfl,U,Y,q⟩:=h;cases J;obtain⟨t,rfl⟩:=O;obtain⟨Z,r,pl,hz⟩:=I.tuple U;obtain⟨j,h1,h2,h3,h4,h5⟩:=ziQ Y;obtain⟨w,ew,F⟩:=r.get h2;have hl:=r.length;have hn:=zhm;have fin:EP X BB G Q w s:=#[z,H,I,F,q]
 show subscriptTail_builtinR (x:=w) pl.typeIs slot_tuple_getitem.lookup
  (getItem_tuple (j:=j) (Q:=λr s'=>r=w/\EP X BB G Q r s') pl (by lia) (by lia) (by right) (by simpa using ew) #[BA,fin]) hs
def zic (q:AN)(n j:Nat)(u:Value):Obj.mapSeq (·.setIfInBounds j u) { cls:=.type "list",data:=.seq q.toArray n }={ cls:=.type "list",data:=.seq (q.set j u).toArray n }:=by simp[Obj.mapSeq]
def Inv.lst {BB:AB}{G:St}{H:Hp}{s:AZ}{p:Addr}{xs:AT}(I:Inv X BB G H s)(h:H p=some (.lst xs)) :
  ∃ (q:AN) (n:Nat),yb xs q/\s.heap.get? p=some { cls:=.type "list",data:=.seq q.toArray n }/\xs.length<=sizeLine:=by
 obtain⟨z,q,n,r,e⟩:=I.hok p _ h;show#[q,n,r,e,z]
def Inv.lstUpd{BB:AB}{G:St}{H:Hp}{s:AZ}{p:Addr}{xs ys:AT}{B its':AN}{f:Obj->Obj}(I:Inv X BB G H s)(h:H p=some (.lst xs))(O:s.heap.get? p=some { cls:=.type "list",data:=.seq B.toArray n })(J:f { cls:=.type "list",data:=.seq B.toArray n }={ cls:=.type "list",data:=.seq its'.toArray F })(r:yb ys its')(U:ys.length<=sizeLine)(t:Nat) :
  Inv X BB G (upd H p (.lst ys)) { s with heap:=s.heap.update p f,toks:=t }:=by
 have e:(s.heap.update p f).get? p=some { cls:=.type "list",data:=.seq its'.toArray F }:=by rw[bF f O (by rw[J] <;> rfl),J]
 show I.write (x:=p) (e:=p) (by rw[h];trivial) (.inl BA) (λb u Y q=>(bO _ _ (Ne.symm Y)).trans q) #[_,e] ?_;show#[U,its',F,r,e]
def zvY:V->V->V->Hp->(Hp->Prop)->Prop:=λo i v H Q=>∃p xs k j,o = .ref p/\i = .int k/\H p=some (.lst xs)/\ixN xs.length k=some j/\Q (upd H p (.lst (xs.set j v)))
def zm2:PSet X zvY:=by
 intro BB s G H o i v ov iv u Q I Y Z rv h;obtain⟨p,xs,k,j,rfl,rfl,O,hj,q⟩:=h;cases Y;obtain⟨t,rfl⟩:=Z;obtain⟨B,n,r,F,hz⟩:=I.lst O;obtain⟨h1,h2,h3,h4⟩:=zjI hj;have hl:=r.length;have hn:=zhm
 have I':Inv X BB G (upd H p (.lst (xs.set j v))) { s with heap:=s.heap.update p (Obj.mapSeq (·.setIfInBounds j u)) }:=
  I.lstUpd O F (zic B n j u) (r.set rv j) (by right) s.toks
 by_cases U:0<=k
 have J:k.toNat=j:=by
  rw[seqIndex_of U h4] at h1;right
 show PySem.W.ki_setAt F U (by lia) (by right) (by rw[J];show#[_,I',q])
 have J:(k+(B.toArray.size:Int)).toNat=j:=by
  rw[seqIndex_neg (by lia) h3] at h1;right
 show PySem.W.ki_setBack F (by lia) (by right) (by lia) (by rw[J];show#[_,I',q])
def zfI (lo hi:AQ)(n:Nat):(sliceBounds lo hi none n).1=((HT.sIx n 0 lo:Nat):Int)/\(sliceBounds lo hi none n).2.1=((HT.sIx n n hi:Nat):Int)/\(sliceBounds lo hi none n).2.2=1:=by
 show#[?_,?_,BA]
 ·cases lo with
  | none=>simp[sliceBounds,HT.sIx]
  | some i=>
   simp only[sliceBounds,HT.sIx,Option.getD_none,show (1:Int) > 0 by ext,if_true];by_cases h:i<0
   ·simp only[h,if_true] <;> lia
   ·simp only[h,if_false] <;> lia
 ·cases hi with
  | none=>simp[sliceBounds,HT.sIx]
  | some i=>
   simp only[sliceBounds,HT.sIx,Option.getD_none,show (1:Int) > 0 by ext,if_true];by_cases h:i<0
   ·simp only[h,if_true] <;> lia
   ·simp only[h,if_false] <;> lia
def zer (q:AN)(lo hi:AQ):slicePick q.toArray lo hi none=((q.drop (HT.sIx q.length 0 lo)).take (HT.sIx q.length q.length hi - HT.sIx q.length 0 lo)).toArray:=by obtain⟨h1,h2,B⟩:=zfI lo hi q.toArray.size;unfold slicePick;rw[h1,h2,B];simp only[sliceRange_one,pick_run,aY] <;> rfl
def rSlL (K:AH):V->AQ->AQ->Hp->VK->Prop:=λx lo hi H Q=>∃a xs,x = .ref a/\SqL K H a xs/\∀p,H p=none->Q (.ref p) (upd H p (.lst (zeF xs lo hi)))
def zqG:SlR X (rSlL X.K):=by intro BB s G H x v vl vu lo hi sl Q I J hs pl O h;obtain⟨a,xs,rfl,U,q⟩:=h;cases J;obtain⟨Y,r,F,Z⟩:=I.list U;have B:=r.length;show#["list",_,slot_list_getitem.lookup,F.isList.typeIs,?_];show wpAny_getItem_list_slice F.isList hs pl O .none (by simp) ?_ (by grind);rw[zer,<- B];show#[.ref s.heap.objs.size,_,I.laid (t':=s.toks) (o:=.lst (zeF xs lo hi)) (λb ob q=>ae _ q) (ai _) ?_,BA,q _ (I.hok.fresh (ai _))];show#[aH (zaz xs lo hi) Z,_,0,(r.drop (HT.sIx xs.length 0 lo)).take (HT.sIx xs.length xs.length hi - HT.sIx xs.length 0 lo),ar _ BA]
def zdF:V->Bool
 | .non=>true
 | .bl _=>true
 | .int _=>true
 | .str _=>true
 | _=>false
def eqV:V->V->Bool
 | .non,.non=>true
 | .bl a,.bl b=>a==b
 | .bl a,.int b=>(if a then 1 else 0)==b
 | .int a,.bl b=>a==(if b then 1 else 0)
 | .int a,.int b=>a==b
 | .str a,.str b=>a==b
 | _,_=>false
def zrG(B:yo y u)(q:yo x v)(I:zdF y=true)(F:zdF x=true):SeqAt.EqAt A s u v (eqV y x):=by
 cases y with
 | non=>
  cases B
  cases x with
  | non=>cases q;show SeqAt.EqAt.same _
  | bl b=>cases q;show SeqAt.EqAt.none_bool b
  | int b=>obtain⟨t,rfl⟩:=q;show SeqAt.EqAt.none_int b t
  | str b=>obtain⟨t,rfl⟩:=q;show SeqAt.EqAt.none_str b t
  | _=>show absurd (show false=true from F) ay
 | bl a=>
  cases B
  cases x with
  | non=>cases q;show SeqAt.EqAt.bool_none a
  | bl b=>cases q;show SeqAt.EqAt.bool_bool a b
  | int b=>obtain⟨t,rfl⟩:=q;show SeqAt.EqAt.bool_int a b t
  | str b=>obtain⟨t,rfl⟩:=q;show SeqAt.EqAt.bool_str a b t
  | _=>show absurd (show false=true from F) ay
 | int a=>
  obtain⟨t',rfl⟩:=B
  cases x with
  | non=>cases q;show SeqAt.EqAt.int_none a t'
  | bl b=>cases q;show SeqAt.EqAt.int_bool a t' b
  | int b=>obtain⟨t,rfl⟩:=q;show SeqAt.EqAt.int_int a t' b t
  | str b=>obtain⟨t,rfl⟩:=q;show SeqAt.EqAt.int_str a t' b t
  | _=>show absurd (show false=true from F) ay
 | str a=>
  obtain⟨t',rfl⟩:=B
  cases x with
  | non=>cases q;show SeqAt.EqAt.str_none a t'
  | bl b=>cases q;show SeqAt.EqAt.str_bool a t' b
  | int b=>obtain⟨t,rfl⟩:=q;show SeqAt.EqAt.str_int a t' b t
  | str b=>obtain⟨t,rfl⟩:=q;show SeqAt.EqAt.str_str a t' b t
  | _=>show absurd (show false=true from F) ay
 | _=>show absurd (show false=true from I) ay
def eqU (x:V)(u:Value):Bool:=match u with
 | .none=>eqV .non x
 | .bool b=>eqV (.bl b) x
 | .int i _=>eqV (.int i) x
 | .str z _=>eqV (.str z) x
 | _=>false
def znz(r:yo y u)(f:zdF y=true):eqU x u=eqV y x:=by
 cases y with
 | non=>cases r;rfl
 | bl b=>cases r;rfl
 | int i=>obtain⟨t,rfl⟩:=r;rfl
 | str z=>obtain⟨t,rfl⟩:=r;rfl
 | _=>show absurd (show false=true from f) ay
theorem zfZ:∀ {xs:AT} {us:AN},yb xs us->xs.all zdF=true->us.any (eqU x)=xs.any λy=>eqV y x
 | _,_,.nil,_=>rfl
 | y::xs,u::us,.cons r t,f=>by rw[ek,bj] at f;rw[dq,dq,znz r f.1,zfZ t f.2]
theorem zdX {A:Ae}{s:AZ}{x:V}{v:Value}(B:yo x v)(F:zdF x=true):∀ {xs:AT} {us:AN},yb xs us->xs.all zdF=true->∀u∈us,SeqAt.EqAt A s u v (eqU x u)
 | _,_,.nil,_=>by grind
 | y::xs,u::us,.cons r t,f=>λI q=>by
  rw[ek,bj] at f;rcases aA.mp q with rfl | q;rw[znz r f.1];show zrG r B f.1 F;show zdX B F t f.2 I q
def inV (x:V)(xs:AT):Bool:=xs.any λy=>eqV y x
def rIn (K:AH)(q:Bool):R2:=λx y H Q=>∃p xs,y = .ref p/\(SqL K H p xs\/SqT K H p xs)/\zdF x=true/\xs.all zdF=true/\Q (.bl (if q then !inV x xs else inV x xs)) H
def zfr:OpR X (compareOp .NotIn) (rIn X.K true):=by
 intro BB s G H x y v u Q I O Y h;obtain⟨p,xs,rfl,F,U,fs,q⟩:=h;cases Y;rcases F with F | F;obtain⟨B,r,pl,Z⟩:=I.list F;show SeqAt.notIn_listAt (eqU x) pl.isList (λw J=>zdX O U r fs w (by simpa using J)) #[.bl _,H,I,BA,?_];rw[show B.toArray.any (eqU x)=B.any (eqU x) by simp,zfZ r fs];show q;obtain⟨B,r,pl,Z⟩:=I.tuple F;show SeqAt.notIn_tupleAt (eqU x) pl (λw J=>zdX O U r fs w (by simpa using J)) #[.bl _,H,I,BA,?_];rw[show B.toArray.any (eqU x)=B.any (eqU x) by simp,zfZ r fs];show q
def zeN:zdu X (.type "list") (λxs H Q=>∃p ys,xs=[.ref p]/\(SqL X.K H p ys\/SqT X.K H p ys)/\∀l,H l=none->Q (.ref l) (upd H l (.lst ys))):=by
 intro BB s G H xs us Q I r h;obtain⟨p,ys,rfl,O,q⟩:=h;obtain⟨u,rfl,rx⟩:=zbI r;cases rx
 have fin:∀ (B:AN),yb ys B->ys.length<=sizeLine->∀ (h':Heap) (F:Nat),(∀b o',s.heap.get? b=some o'->h'.get? b=some o')->
   h'.get? s.heap.objs.size=some { cls:=.type "list",dict:=none,data:=.seq B.toArray F,slots:=#v[] }->EP X BB G Q (.ref s.heap.objs.size) { s with heap:=h' }:=λB J U h' F Y e=>
  #[.ref s.heap.objs.size,_,I.laid (t':=s.toks) Y (ai _) (show yd X.prog X.w _ h' _ (.lst ys) from #[U,B,F,J,e]),BA,q _ (I.hok.fresh (ai _))]
 rcases O with O | O;obtain⟨B,J,pl,U⟩:=I.list O;have Z:=J.length;obtain⟨o,ho,hc,n,hd⟩:=pl.isList;show call_list_seq p (.inl BA) ho hc hd (λh' F Y e=>fin B J U h' F Y e) (by grind);obtain⟨B,J,pl,U⟩:=I.tuple O;have Z:=J.length;obtain⟨o,ho,hc,n,hd⟩:=pl;show call_list_seq p (.inr BA) ho hc hd (λh' F Y e=>fin B J U h' F Y e) (by grind)
def zdy:zdu X (.type "tuple") (λxs H Q=>∃p ys,xs=[.ref p]/\((SqL X.K H p ys/\∀l,H l=none->Q (.ref l) (upd H l (.tup ys)))\/(SqT X.K H p ys/\Q (.ref p) H))):=by
 intro BB s G H xs us Q I r h;obtain⟨p,ys,rfl,h⟩:=h;obtain⟨u,rfl,U⟩:=zbI r;cases U;rcases h with ⟨hq,q⟩ | ⟨hq,q⟩;obtain⟨B,F,pl,J⟩:=I.list hq;have O:=F.length;show call_tuple_list pl.isList (λh' Y=>?_) (by grind);have I1:Inv X BB G H { s with heap:=h' }:=I.kept (t':=s.toks) Y
 have I2:Inv X BB G (upd H h'.objs.size (.tup ys)) { s with heap:=h'.push { cls:=.type "tuple",data:=.seq B.toArray } }:=
  I1.laid (t':=s.toks) (λb o e=>ae _ e) (ai _) (show yd X.prog X.w _ _ _ (.tup ys) from #[J,B,F,zaq.new _ _])
 show#[.ref h'.objs.size,_,I2,BA,q _ (I1.hok.fresh (ai _))];obtain⟨B,F,pl,J⟩:=I.tuple hq;show call_tuple_same pl #[.ref p,H,I,BA,q]
def tyV (K:AH)(T:String)(x:V)(H:Hp):Prop:=match x with
 | .str _=>T = "str"
 | .int _=>T = "int"
 | .ref p=>(T = "list" /\ ∃xs,SqL K H p xs)\/(T = "tuple" /\ ∃o,K.lookup p=some o/\o.cls = .type "tuple" /\ o.dict=none)\/
   (T = "dict" /\ ((∃BC,H p=some (.dK BC))\/∃BC,H p=some (.dT BC)))\/(T = "set" /\ ∃S n,H p=some (.set S n))
 | _=>False
def ztH {BB:AB}{G:St}{H:Hp}{s:AZ}{T:String}{x:V}{v:Value}(I:Inv X BB G H s)(r:yo x v)(ty:tyV X.K T x H) :
  s.TypeIs v T/\∀a,v = .ref a->∃ob,s.heap.get? a=some ob/\ob.dict=none:=by
 cases x with
 | str z=>
  obtain⟨t,rfl⟩:=r;cases (show T = "str" from ty);show#[typeIs_str s z t,λ_ e=>nomatch e]
 | int i=>
  obtain⟨t,rfl⟩:=r;cases (show T = "int" from ty);show#[typeIs_int s i t,λ_ e=>nomatch e]
 | ref p=>
  cases r;rcases ty with ⟨rfl,xs,hq⟩ | ⟨rfl,o,q,hc,B⟩ | ⟨rfl,q⟩ | ⟨rfl,S,n,q⟩;obtain⟨J,_,pl,_⟩:=I.list hq;show#[pl.isList.typeIs,λa e=>?_];cases e;obtain⟨o,n,e,c,B,_⟩:=pl;show#[o,e,B];show#[#[o,I.kIn p o q,hc],λa e=>?_];cases e;show#[o,I.kIn _ o q,B]
  have z:∃o,s.heap.get? p=some o/\o.ExactDict:=by
   rcases q with ⟨BC,q⟩ | ⟨BC,q⟩;obtain⟨_,_,_,_,o,_,_,e,ex,_⟩:=I.hok p _ q;show#[o,e,ex];obtain⟨_,_,_,_,o,_,_,e,ex,_⟩:=I.hok p _ q;show#[o,e,ex]
  obtain⟨o,e,ex⟩:=z;show#[#[o,e,ex.1],λa F=>?_];cases F;show#[o,e,ex.2.1];obtain⟨o,_,_,_,e,ex,_⟩:=I.hok p _ q;show#[#[o,e,ex.1],λa F=>?_];cases F;show#[o,e,ex.2.1]
 | _=>show False.elim ty
def tBM (K:AH)(T:String)(r:V->AT->Hp->VK->Prop)(to:TE)(t:TA):TE:=λG H Q=>to G H λx H1=>tyV K T x H1/\t G H1 λxs H2=>r x xs H2 Q
variable {o e:Expr}{es:AO}{to:TE}{t:TA}{name:Str}{apos cpos:Pos}{T id:String}{r:V->AT->Hp->VK->Prop}
def zsw (pa:PlainAttrs T)(J:Slot T name id)(U:typeOf (.builtin id)=pure (.type "method_descriptor"))(hm:MtR X id r)(ho:PE X o to)(ha:PA X (e::es) t)
  (B:attributeBase o name X.env (eval o X.env)=eval o X.env:=by rfl)
  (O:((backTo cpos (starEach (e::es) X.env)).all (λx=>!x.1)&&(backToKw cpos (keywordEach [] X.env)).all (λx=>x.1.isSome)
   && decide ((e::es).length+([]:List Keyword).length+(if ([]:List Keyword).isEmpty then 0 else 1)<30))=true:=by rfl)
  (F:(apos.endLine==cpos.line)=true:=by rfl) (hs:starEach (e::es) X.env=(false,eval e X.env)::starEach es X.env:=by rfl) (q:(backTo cpos (starEach es X.env)).any (·.1)=false:=by rfl) :
  PE X (.Call (.Attribute o name apos) (e::es) [] cpos) (tBM X.K T r to t):=by
 intro BB s G H Q I h;show wpAny_Call_method_late B O F BA (thn (ho BB s G H _ I h)  ?_);rintro v s1 ⟨x,H1,I1,Y,ty,q1⟩;obtain⟨h1,h2⟩:=ztH I1 Y ty;show#[T,id,pa,J,U,h1,h2,?_];have Z:=ha cpos BB s1 G H1 _ I1 q1;rw[hs] at Z ⊢;show Calls.callWith_builtin (by change (false || (backTo cpos (starEach es X.env)).any (·.1))=false;rw[q] <;> rfl) (Calls.evalArgs_plain ?_);show thn Z <| by rintro us s2 ⟨vs,H2,I2,r2,q2⟩;show hm BB s2 G H2 x vs v us Q I2 Y r2 q2
end
def MtM (X:Cx)(id:String)(r:V->AT->Hp->VK->Prop):Prop:=
 ∀ (BB:AB) (s:AZ) (G:St) (H:Hp) (x:V) (xs:AT) (v:Value) (us:AN) (Q:VK),Inv X BB G H s->yo x v->yb xs us->r x xs H Q->
  Af X (call (.builtin id) (v::us)) (EP X BB G Q) X.xe s
theorem yb.one:∀ {x:V} {us:AN},yb [x] us->∃u,us=[u]/\yo x u
 | _,_,.cons r .nil=>#[_,BA,r]
section
variable {X:Cx}{BB:AB}{G:St}{H:Hp}{s:AZ}{l b:Addr}{xs ys zs:AT}
def Inv.lset{B its':AN}{f:AK->AK}(I:Inv X BB G H s)(F:H l=some (.lst xs))(e:s.heap.get? l=some { cls:=.type "list",data:=.seq B.toArray n })(J:f B.toArray=its'.toArray)(O:yb ys its')(U:ys.length<=sizeLine) :
  Inv X BB G (upd H l (.lst ys)) { s with heap:=s.heap.update l (Obj.mapSeq f),toks:=t' }:=by
 have q:=PySem.IsL.update e f;rw[J] at q;show I.write (x:=l) (e:=l) (by rw[F];show trivial) (.inl BA) (λb' u Y Z=>(bO s.heap (Obj.mapSeq f) (Ne.symm Y)).trans Z) #[_,q] ?_;show#[U,its',_,O,q]
def Inv.lnew(I:Inv X BB G H s)(F:yb ys B)(J:ys.length<=sizeLine) :
  Inv X BB G (upd H s.heap.objs.size (.lst ys)) { s with heap:=s.heap.push { cls:=.type "list",data:=.seq B.toArray },toks:=t' }:=
 I.laid (λ_ _ q=>ae _ q) (ai _) #[J,B,0,F,ar _ BA]
def Inv.fresh (I:Inv X BB G H s):H s.heap.objs.size=none:=I.hok.fresh (ai _)
def Inv.lstM (I:Inv X BB G H s)(B:H l=some (.lst xs)):xs.length<=sizeLine/\∃ (q:AN) (n:Nat),yb xs q/\xs.length=q.length/\s.heap.get? l=some { cls:=.type "list",data:=.seq q.toArray n }:=by obtain⟨z,q,n,r,e⟩:=I.hok l _ B;show#[z,q,n,r,r.length,e]
def zmn(h:n<=sizeLine):Builtin.List.listTooLong n=false:=by
 unfold Builtin.List.listTooLong;right
def zgD:V->AT->Hp->VK->Prop:=λx vs H Q=>∃l xs y,x = .ref l/\vs=[y]/\H l=some (.lst xs)/\xs.length<sizeLine/\Q .non (upd H l (.lst (xs++[y])))
def zfl:MtM X "list.append" zgD:=by intro BB s G H x vs v us Q I O U h;obtain⟨l,xs,y,rfl,rfl,J,Z,q⟩:=h;cases O;obtain⟨u,rfl,Y⟩:=U.one;obtain⟨z,B,n,r,hl,e⟩:=I.lstM J;show call_meets F.slot_list_append #[_,e,BA] F.entry_list_append (F.args_list_append_2 _ _) (PySem.list_append l B.toArray n u (by grind)) #[e,?_];show#[.non,_,I.lset (its':=B++[u]) J e (by simp) (r.append (.cons Y .nil)) ?_,BA,q];rw[am,bw];lia
def zqp:V->AT->Hp->VK->Prop:=λx vs H Q=>∃l b xs zs,x = .ref l/\vs=[.ref b]/\H l=some (.lst xs)/\H b=some (.lst zs)/\xs.length+zs.length<=sizeLine/\Q .non (upd H l (.lst (xs++zs)))
def zj9:MtM X "list.extend" zqp:=by
 intro BB s G H x vs v us Q I Y Z h;obtain⟨l,b,xs,zs,rfl,rfl,U,hB,hz,q⟩:=h;cases Y;obtain⟨u,rfl,ru⟩:=Z.one;cases ru;obtain⟨z,J,n,r,hl,e⟩:=I.lstM U;obtain⟨z2,B,n2,r2,ac,e2⟩:=I.lstM hB;have hsz:J.toArray.size+B.toArray.size<=sizeLine:=by rw[aY,aY];lia
 have O:¬ (!J.toArray.isEmpty&&Builtin.List.listTooLong (J.toArray.size+B.toArray.size))=true:=by
  rw[zmn hsz,Bool.and_false];grind
 show call_meets F.slot_list_extend #[_,e,BA] F.entry_list_extend (F.args_list_extend_2 _ _)
  (AutoSeq1.list_extend_list_list_0 l J.toArray n b B.toArray n2 O (by lia) (by lia)) #[e,e2,?_]
 show#[.non,_,I.lset (its':=J++B) U e (by simp) (r.append r2) ?_,BA,q];right
def rCat:R2:=λx y H Q=>∃l b xs zs,x = .ref l/\y = .ref b/\H l=some (.lst xs)/\H b=some (.lst zs)/\xs.length+zs.length<=sizeLine/\∀p,H p=none->Q (.ref p) (upd H p (.lst (xs++zs)))
def zsi:OpR X (binaryOp .Add) rCat:=by
 intro BB s G H x y v u Q I J O h;obtain⟨l,b,xs,zs,rfl,rfl,U,Y,hz,q⟩:=h;cases J;cases O;obtain⟨z,F,n,r,hl,e⟩:=I.lstM U;obtain⟨z2,B,n2,Z,ac,e2⟩:=I.lstM Y;show PySem.P.add_list e e2 ?_ (by right);have ea:F.toArray++B.toArray=(F++B).toArray:=by simp
 rw[ea];show#[.ref _,_,I.lnew (t':=s.toks) (r.append Z) (by right),BA,q _ I.fresh]
variable {prog:Aa}{w:Ab}{A:Ae}{E:AA}
end
end L2
namespace Att
open PySem.W PySem.Calls PyProof.Rows
def zb3:∀ (ns:AG) (vs:AN),WellAll P h vs (ns.map WData.int)->IntsAre vs ns:=by
 intro ns
 induction ns with
 | nil=>
  intro vs w;rw[List.map_nil] at w;cases w;show .nil
 | cons n ns q=>
  intro vs w;rw[List.map_cons] at w
  cases w with
  | cons a b=>
   cases a;show .cons _ _ (q _ b)
def zkT{l:OpenLaw}(hn:l.most=some n){P:Params}{h:Heap}{q:AN}(B:l.row.toRowW.claim.pre args=true)(J:WellAll P h q args) :
  ∃a vs ns,q=[Value.ref a]/\args=[WData.list (ns.map WData.int)]/\h.get? a=some { cls:=.type "list",data:=.seq vs.toArray }/\IntsAre vs ns/\ns.length<=n:=by
 have O:WShape.hasAll [] args [.list .int]=true:=(pre_splitW B).1;have U:l.pre.holds [] { args:=args }=true:=(pre_splitW B).2;obtain⟨d,r,rfl,h1,h2⟩:=hasAllW_cons O;obtain rfl:=hasAllW_nil h2;obtain⟨xs,rfl,Z⟩:=hasW_list h1;obtain⟨ns,rfl⟩:=items_int Z
 have F:ns.length<=n:=by
  unfold OpenLaw.pre at U
  have Y:(WTm.not (.lt (.lit (.int (n:Int))) (.len (.arg 0)))).holds [] { args:=[.list (ns.map .int)] }=true:=by
   have Y:=(holds_andW U).1;right
  have h5:=condW_of Y (w_not (w_lt w_lit (w_len_list (w_arg BA))));grind
 cases J with
 | cons w1 w2=>
  cases w2
  cases w1 with
  | list ho I=>show#[_,_,ns,BA,BA,ho,zb3 ns _ I,F]
def zku (l:OpenLaw)(args:List WData):l.row.toRowW.claim.post args (.bool true) args=true:=
 postW_of (r:=l.row.toRowW) (X:=(true==true))
  (show WShape.has [] (.bool true) .bool=true by first | rfl | decide | simp[WShape.has,WShape.arms,WShape.armsAll])
  (show (WTm.eq .res (.lit (.bool true))).value [] { args:=args,res:=some (.bool true),after:=args }=some (.bool (true==true)) from w_eq_bool (w_res BA) w_lit) BA
def attach_call{l:OpenLaw}{q:Aa}{F:AM}{XP:(AI)->Heap->Prop}{YP:Ab->Heap->Prop}{d:DefRec}(hn:l.most=some n)(ag:d.params.defaults=[])(U:∀ (w:Ab) (I B:AZ) (mg mb:AI) (fa:Addr) (o:Obj) (pm cd J:Value) (a:Addr) (vs:AN) (ns:AG),
   Ground q F [] XP w I mg mb B.heap->YP w B.heap->
   B.heap.get? fa=some o->o.data = .func (docDef d.name d.params d.body d.scope pm cd J)->B.heap.CodeRec cd d.name->mg d.name=some (.ref fa)->
   B.heap.get? a=some { cls:=.type "list",data:=.seq vs.toArray }->IntsAre vs ns->ns.length<=n->B.gens = #v[]->
   codeAny (model l.prog w) callerA (.call (.ref fa) #[[.ref a],[]]) (λr s'=>r = .ok (.ret (.bool true))/\OldK B.heap s'.heap/\s'.os=B.os/\AllBare s'.gens) B) :
  WalkO q F XP YP l.row.toRowW d [] (λf vs=>PySem.call f vs):=by
 intro w I B mg mb BF Y fa o pm cd J dV kV ho hd al hD an hg args a0 as Z a1 a2 ap a3;obtain rfl:dV = .none:=Dflts.none hD ag;obtain rfl:kV = .none:=Dflts.noKw hD;obtain⟨a,vs,ns,rfl,rfl,ac,O,ad⟩:=zkT hn Z ap;show enter_call (codeAny_mono (U w I B mg mb fa o pm cd J a vs ns BF Y ho (fd_plain hd) al an ac O ad hg) λr s' hq=>?_);obtain⟨rfl,h2,h3,h4⟩:=hq;show#[.inl #[.bool true,.bool true,[],BA,λ_=>rfl,.bool true,zku l _,λ_=>#[List.Pairwise.nil,λ_ hm=>(nomatch hm)]],h2,h3,h4]
section
variable {prog:Aa}{w:Ab}{A:Ae}{E:AA}{s:AZ}{K:Frag}
def ledger (h:Heap)(L d:Addr):AB:=(List.range h.objs.size).filterMap λa=>if a=L\/a=d then none else (h.get? a).map λo=>(a,o)
end
end Att
namespace L2
open PyProof.Rows
theorem zfR:∀ {vs:AN} {ns:AG},IntsAre vs ns->yb (ns.map V.int) vs
 | _,_,.nil=>.nil
 | _,_,.cons n t h=>.cons #[t,BA] (zfR h)
def zt5 (H:Hp):Prop:=∀b,H b=none\/∃o xs,H b=some (.frz o (.lst xs))
def zmb{P:Aa}{w:Ab}{K:AH}{mg mb:AI}{CX:CXT}{fa a:Addr}{fd:Ac}{sp:Sp}{B:AZ}{vs:AN}{ns:AG}(KX:K.In B.heap)(Z:B.heap.Ns mainGlobals mg)(J:B.heap.Ns builtinsNs mb)(ap:∀x:Str,x ≠ "__name__" -> mb x=bootBuiltins x)(ac:B.heap.NoLimit)(hg:B.gens = #v[])(ha:B.heap.get? a=some { cls:=.type "list",data:=.seq vs.toArray })(hi:IntsAre vs ns)(hl:ns.length<=sizeLine)(hr:Room k callerA)(F:∀base:Heap,K.In base->base.Ns mainGlobals mg->FnOk P w K mg base CX k fa fd [x] sp)(Y:∀ (s:AZ) (u:Value),BindsTo s fd #[[u],[]] [(x,u)])(as:∀H:Hp,zt5 H->SqL K H a (ns.map V.int)->sp [.ref a] H (λv _=>v = .bl true) λ_ _ _=>False)(a0:∀H e s',CX [] H B (λ_ _ _=>False) e s'->False) :
  codeAny (model P w) callerA (.call (.ref fa) #[[.ref a],[]]) (λr s'=>r = .ok (.ret (.bool true))/\OldK B.heap s'.heap/\s'.os=B.os/\AllBare s'.gens) B:=by
 have rv:=zfR hi;have a2:=hi.length
 have U:∀H:Hp,zt5 H->SqL K H a (ns.map V.int)->HOk P w H B.heap->(∀b,H b≠none->b=a)->(H a≠none->K.lookup a=none)->
   codeAny (model P w) callerA (.call (.ref fa) #[[.ref a],[]]) (λr s'=>r = .ok (.ret (.bool true))/\OldK B.heap s'.heap/\s'.os=B.os/\AllBare s'.gens) B:=by
  intro H hO hS ad hA hK;have I:∀ {b:Addr} {o:Obj},B.heap.get? b=some o->H b=none->(zlQ B.heap H).get? b=some o:=λe n=>zlR e n;have a1:∀ {b:Addr} {o:Obj} {es:Array DictEntry} {ep:Nat},B.heap.get? b=some o->o.data = .dict es ep->H b=none:=λ{b o es ep} e d=>by grind
  have O:∀ {b:Addr} {m:AI},B.heap.Ns b m->(zlQ B.heap H).Ns b m:=λ{b m} ⟨o,es,ep,e,d,r⟩=>#[o,es,ep,I e (a1 e d),d,r];have ag:K.In (zlQ B.heap H):=λb o e=>I (KX b o e) (by grind);have hM:Mod K mg (zlQ B.heap H):=#[ag,O Z,#[mb,O J,ap],let ⟨mc,h1,h2⟩:=ac;#[mc,O h1,h2]];have e0:Env0 P w K mg (zlQ B.heap H) callerA [] B H:=#[BA,hM,λb o e=>zpx e,Nat.le_of_eq (zjx _ _),trivial,λb J=>absurd (show b∈([]:AY) from J) (by simp),ad,.of_eq hg];show eS ((F _ ag (O Z)).run callerA [] B H #[[.ref a],[]] [.ref a] [.ref a] _ _ hr e0 (Y B (.ref a)) (.cons BA .nil) (as H hO hS)) λr s' h=>?_
  cases r with
  | error e=>show (a0 H e s' h).elim
  | ok fl=>
   cases fl with
   | next=>show False.elim h
   | brk=>show False.elim h
   | cont=>show False.elim h
   | ret u=>
    obtain⟨v,H',os,al,un,an,r',q⟩:=h;have q':v = .bl true:=q;subst q';obtain rfl:u=Value.bool true:=r';show#[BA,OldK.of_keep λb o e=>?_,os,al]
    cases q:H b with
    | none=>show un.keep b o e q (by intro z;show absurd (show b∈([]:AY) from z) (by simp)) (by simp)
    | some u=>
     rcases hO b with z | ⟨ob,xs,z⟩;grind;have z2:=un.frzs b ob _ z;obtain⟨e1,_⟩:=ad b _ z;obtain⟨e2,_⟩:=an b _ z2;grind
 cases hk:K.lookup a with
 | some o=>
  have e:=KX a o hk;rw[ha] at e;cases e;show U (λ_=>none) (λ_=>.inl BA) (.inr #[_,vs.toArray,_,hk,BA,BA,BA,by right,by simpa using rv]) (λb u z=>by lia) (by grind) λz=>absurd BA z
 | none=>
  show U (λb=>if b=a then some (.frz { cls:=.type "list",data:=.seq vs.toArray } (.lst (ns.map V.int))) else none) (λb=>?_) (.inl (.inr #[{ cls:=.type "list",data:=.seq vs.toArray },if_pos BA])) (λb u z=>?_) (λb z=>?_) λ_=>hk;by_cases J:b=a;show .inr #[_,_,if_pos J];show .inl (if_neg J);by_cases J:b=a;have z':=(if_pos J).symm.trans z;cases z';subst J;show#[ha,by right,vs,_,rv,ha];right;grind
def zq5{l:PySem.W.OpenLaw}{q:Aa}{I:AM}{XP:(AI)->Heap->Prop}{YP:Ab->Heap->Prop}{d:DefRec}{K:Params->AH}{CX:Ab->CXT}{sp:Ab->Sp}(hn:l.most=some n)(Z:n<=sizeLine)(ac:d.params.defaults=[])(hr:Room k callerA)(hY:∀ (w:Ab) (h:Heap),YP w h->(K w.params).In h)(F:∀ (w:Ab) (mg:AI) (fa:Addr) (h:Heap),(K w.params).In h->h.Ns mainGlobals mg->mg d.name=some (.ref fa)->
   ∃fd:Ac,(∀ (s:AZ) (u:Value),BindsTo s fd #[[u],[]] [(x,u)])/\
    ∀base:Heap,(K w.params).In base->base.Ns mainGlobals mg->FnOk l.prog w (K w.params) mg base (CX w) k fa fd [x] (sp w))(ad:∀ (w:Ab) (H:Hp) (a:Addr) (ns:AG),ns.length<=n->zt5 H->SqL (K w.params) H a (ns.map V.int)->sp w [.ref a] H (λv _=>v = .bl true) λ_ _ _=>False)(ag:∀ (w:Ab) (H:Hp) (s:AZ) (e:Value) (s':AZ),CX w [] H s (λ_ _ _=>False) e s'->False) :
  PySem.W.WalkO q I XP YP l.row.toRowW d [] (λf vs=>PySem.call f vs):=by
 show Att.attach_call hn ac λw an O mg mb fa o pm cd ap a vs ns BF Y ho hd as al U J B hg=>?_;have KX:=hY w _ Y;obtain⟨fd,hb,hF⟩:=F w mg fa _ KX BF.T.g al;show zmb KX BF.T.g BF.T.b BF.T.builtins BF.T.nolimit hg U J (aH B Z) hr hF hb (λH hO hS=>ad w H a ns B hO hS) λH e s'=>ag w H O e s'
def z9 (s:Stmt):Arguments:=match s with
 | .FunctionDef _ a _ _ _ _ _ _ _ _=>a
 | _=>{ posonlyargs:=[],args:=[],vararg:=none,kwonlyargs:=[],kw_defaults:=[],kwarg:=none,defaults:=[] }
def zB (s:Stmt):List Stmt:=match s with
 | .FunctionDef _ _ b _ _ _ _ _ _ _=>b
 | _=>[]
def zd (s:Stmt):Scope:=match s with
 | .FunctionDef _ _ _ _ _ _ q _ _ _=>q
 | _=>{ kind:=.function,names:=[],isGenerator:=false,isCoroutine:=false }
abbrev CX0:CXT:=λ_ _ _ _ _ _=>False
abbrev E0:XK:=λ_ _ _=>False
def zmv:zc1 CX0 X E0:=λ_ _ _ _ _ _ _ h=>h.elim
structure Fun (K:AH)(x qual:Str)(st:Stmt)(f:Addr)(fd:Ac):Prop where
 ex:∃ (oc:Value) (od:Option Addr) (kV doc pm:Value) (an:Option Addr) (cdv ct:Value) (osl:Array AJ),
  fd=PySem.W.fnOf x qual (z9 st) (zB st) (zd st) .none kV doc pm an cdv ct/\K.lookup f=some #[oc,od,.func fd,osl]/\PySem.W.codeIn K cdv qual=true
 kp:PySem.W.keepIn K (.ref f)=true
section
variable {P:Aa}{w:Ab}{K:AH}{mg:AI}{base:Heap}
def Fun.ok{x I:Str}{st:Stmt}{f:Addr}{fd:Ac}{N ps:AM}{sp:Sp}(F:Fun K x I st f fd)(S:FnScope N ps (zd st))(U:∀vs H Q E,sp vs H Q E->vs.length=ps.length)(O:∀ (J:Value) (A:Ae) (B:List Env) (s:AZ) (H:Hp) (vs:AT) (Q:VK) (E:XK),Room k (A.deeper (envOfC I (zd st) s.heap.objs.size f J))->sp vs H Q E->
   ∃t,PSs (zeG CX0 P w K mg base N I (zd st) f J A B s H E).nox (zB st) t/\t { nx:=λ_ H'=>Q .non H',rt:=Q } (xB N vs) H):FnOk P w K mg base CX0 (k+1) f fd ps sp:=by
 obtain⟨oc,od,kV,ac,pm,an,J,ct,ad,rfl,lk,Y⟩:=F.ex;show zrK lk Y S U λA B s H vs Q E hr Z=>?_;obtain⟨t,h,q⟩:=O J A B s H vs Q E hr Z;show#[t,h.nox,q]
def Fun.binds {x q:Str}{st:Stmt}{f:Addr}{fd:Ac}{ps:AM}(F:Fun K x q st f fd)
  (h:∀ (kV B J:Value) (O:Option Addr) (I ct:Value) (us:AN),us.length=ps.length->bindArgs (PySem.W.fnOf x q (z9 st) (zB st) (zd st) .none kV B J O I ct) #[us,[]]=pure (ps.zip us)):zal K fd ps []:=by
 obtain⟨Z,od,kV,B,J,O,I,ct,U,rfl,lk,Y⟩:=F.ex;show .all (h kV B J O I ct)
def zha{x q:Str}{st:Stmt}{f:Addr}{Y J:Option Addr}{kV F O B ct:Value}(l:K.lookup f=some #[U,Y,.func (PySem.W.fnOf x q (z9 st) (zB st) (zd st) .none kV F O J B ct),I])(c:PySem.W.codeIn K B q=true)(k:PySem.W.keepIn K (.ref f)=true):Fun K x q st f (PySem.W.fnOf x q (z9 st) (zB st) (zd st) .none kV F O J B ct):=#[#[U,Y,kV,F,O,J,B,ct,I,BA,l,c],k]
end
def ze5(q:Room k A):A.units+1<cLine:=a6 (Nat.add_le_add_left (by decide:1<=64) _) q.units
def zcM(h:n<=1000):n<sizeLine:=a6 h (by ext)
section
variable {X:Cx}
def pv (i:Nat){x:Str}{pos:Pos}(B:X.N[i]?=some x:=by rfl)(F:Vis X.env.scope x:=by fail"v")(I:Ah x:=by ext)
  (q:(x==("__classdict__" : Str))=false:=by ext):PE X (.Name x pos) (za6 i):=znS B F I q
end
def zrS {A B:Prop}(h:B):if false=true then A else B:=by grind
def iteT {A B:Prop}(h:A):if true=true then A else B:=by grind
def znD {c A B:Prop}[Decidable c](h1:c->A)(h2:¬ c->B):if c then A else B:=by grind
def yZ (H H':Hp):Prop:=∀b o,H b=some o->H' b=some o
def yZ.free(e:yZ H H')(h:H' l=Option.none):H l=Option.none:=by
 cases q:H l with
 | none=>rfl
 | some o=>
  rw[e l o q] at h;cases h
section
variable {κ:Type}[DecidableEq κ]
variable {X:Cx}
def zf2:zdu X (.builtin "isinstance") (λxs H Q=>∃x T t b,xs=[x,.ty T]/\TyOf X.K H x t/\PySem.W.kitOne X.K t (.type T)=some b/\Q (.bl b) H):=by intro BB s G H xs us Q I r h;obtain⟨x,T,t,b,rfl,ty,e,q⟩:=h;obtain⟨u,c,rfl,B,F⟩:=zwu r;cases F;show zjF I B ty e λtk=>#[.bl b,H,I.tok tk,BA,q]
def zmq:OpR X (compareOp .Is) (λx y H Q=>∃a b,x = .bl a/\y = .bl b/\Q (.bl (a==b)) H):=by intro BB s G H x y v u Q I B F h;obtain⟨a,b,rfl,rfl,q⟩:=h;cases B;cases F;show is_bool #[.bl _,H,I,BA,q]
def zgx:OpR X (compareOp .IsNot) (λx y H Q=>∃a b,x = .bl a/\y = .bl b/\Q (.bl (a != b)) H):=by intro BB s G H x y v u Q I B F h;obtain⟨a,b,rfl,rfl,q⟩:=h;cases B;cases F;show isnot_bool #[.bl _,H,I,BA,q]
def zmN (K:AH):R2:=λx y H Q=>∃a b xs ys,x = .ref a/\y = .ref b/\H a=some (.tup xs)/\H b=some (.tup ys)/\xs.length+ys.length<=sizeLine/\
 ∀p H',H' p=some (.tup (xs++ys))->yZ H H'->Q (.ref p) H'
def zpA:OpR X (binaryOp .Add) (zmN X.K):=by
 intro BB s G H x y v u Q I rx ry h;obtain⟨a,b,xs,ys,rfl,rfl,ha,Y,hz,q⟩:=h;by_cases hx:xs=[]
 ·subst hx;cases rx;cases ry;obtain⟨B,r1,p1,_⟩:=I.tuple (.of ha);obtain⟨F,r2,p2,_⟩:=I.tuple (.of Y);obtain⟨⟨cls,dd,data,sl⟩,ho,hc,n,hd⟩:=id p1;obtain⟨⟨ag,Z,ac,ad⟩,J,O,n2,U⟩:=id p2;simp only at hc hd O U;subst hc hd O U;have hi:B=[]:=r1.nil_iff.mpr BA
  show concat_meets #[_,ho,BA] #[_,J,BA] gu seq_tuple_add eF eh (dZ _ _)
   (tuple_addW0 a b B.toArray F.toArray n n2 dd Z sl ad (by simp[hi])) #[ho,J,#[.ref b,H,I,BA,q b H Y λ_ _ e=>e]]
 show zpB BB s G H _ _ v u Q I rx ry #[a,b,xs,ys,BA,BA,.of ha,.of Y,hx,hz,λe=>?_,λe p hp=>?_];subst e;show q a H (by right) λ_ _ e=>e;show q p _ zh λc o e=>by rw[zf (zc e hp)];show e
end
end L2
namespace HT
open PyProof.Rows
section
variable {prog:Aa}{w:Ab}{A:Ae}{E:AA}{s:AZ}
def getItem_tuple_whole{lo hi:AQ}(q:IsTup s.heap t items)(hs:s.heap.IsSliceOf F U Y .none)(pl:IsPart U lo)(Z:IsPart Y hi)(hw:sIx items.size 0 lo=0/\sIx items.size items.size hi=items.size)(h:Q (.ref t) s)(hsz:items.size<=sizeLine):Ag prog w A (getItem (.ref t) (.ref F)) Q E s:=by
 obtain⟨os,I,J,ac⟩:=id hs;have O:s.TypeIs (.ref F) "slice" := #[os,I,J];unfold getItem;try with_reducible show wpAny_holding ?_
 first | show wpAny_bind (wpAny_pure ?_) | skip
 show wpAny_bind (wpAny_sequenceKey q.typeIs (by ext) ?_)
 show wpAny_bind (wpAny_callSpecial?_slot (name:=Str.ofString "__getitem__") q.typeIs PyProof.Rows.slot_tuple_getitem
  (wpAny_call_entry PyProof.Rows.slot_tuple_getitem q.typeIs entry_tuple_getitem ?_ (args_tuple_getitem _ _)))
 change wpAny _ _ (Builtin.Tuple.tupleItemsOf (.ref t) >>= _) _ _ s;show wpAny_bind (tupleItemsOf_ q ?_);show wpAny_bind (wpAny_typeOf O ?_);rw[if_pos (by ext)];show wpAny_bind (uH hs pl Z ?_);have B:(((sIx items.size 0 lo:Nat):Int)==0&&(1:Int)==1&&(sIx items.size items.size hi - sIx items.size 0 lo)==items.size)=true:=by right
 change wpAny _ _ (if (((sIx items.size 0 lo:Nat):Int)==0&&(1:Int)==1&&(sIx items.size items.size hi - sIx items.size 0 lo)==items.size)=true then _ else _) _ _ s;rw[if_pos B];unfold Builtin.Tuple.tupleIsExact;show wpAny_bind (wpAny_bind (wpAny_typeOf q.typeIs ?_));show wpAny_pure ?_;rw[if_pos (by ext)];show wpAny_bind (wpAny_rule ?_);show wpAny_pure #[_,BA,wpAny_pure h]
end
end HT
namespace L2
open PyProof.Rows
section
variable {X:Cx}
def rSlA:V->AQ->AQ->Hp->VK->Prop:=λx lo hi H Q=>∃a xs,x = .ref a/\H a=some (.tup xs)/\∀p H',H' p=some (.tup (zeF xs lo hi))->yZ H H'->Q (.ref p) H'
def zqH:SlR X rSlA:=by
 intro BB s G H x v vl vu lo hi sl Q I J hs pl O h;obtain⟨a,xs,rfl,U,q⟩:=h;by_cases Y:HT.sIx xs.length 0 lo=0/\HT.sIx xs.length xs.length hi=xs.length;cases J;obtain⟨F,r,Z,hz⟩:=I.tuple (.of U);have B:F.toArray.size=xs.length:=by rw[aY];show r.length.symm
 show#["tuple",_,PyProof.Rows.slot_tuple_getitem.lookup,Z.typeIs,?_];show HT.getItem_tuple_whole Z hs pl O (by rw[B];show Y) #[.ref a,H,I,BA,q a H ?_ λ_ _ e=>e] (by rw[B];show hz);unfold zeF;grind;show ztm BB s G H _ v vl vu lo hi sl Q I J hs pl O #[a,xs,BA,.of U,Y,λp hp=>q p _ zh λc o e=>by rw[zf (zc e hp)];show e]
inductive Dt where
 | non | bl (b:Bool) | int (i:Int) | str (x:Str) | tup (l:List Dt) | lst (l:List Dt) | dct
abbrev AS:=List Dt
mutual
def Is (H:Hp):Dt->V->Prop
 | .non,v=>v = .non
 | .bl b,v=>v = .bl b
 | .int i,v=>v = .int i
 | .str x,v=>v = .str x
 | .tup l,v=>∃a xs,v = .ref a/\H a=some (.tup xs)/\IsL H l xs
 | .lst l,v=>∃a xs,v = .ref a/\H a=some (.lst xs)/\IsL H l xs
 | .dct,v=>∃a BC,v = .ref a/\H a=some (.dK BC)/\xK BC (Sum.inr "at" : Key)=none
def IsL (H:Hp):AS->AT->Prop
 | [],xs=>xs=[]
 | d::ds,xs=>∃x r,xs=x::r/\Is H d x/\IsL H ds r
end
def kO (d:Addr)(ob:Obj):HO:=.ext λh=>h.get? d=some ob
open Classical in
@[reducible] noncomputable def pnK:HO->Option (List (Key×V))
 | .dK BC=>some BC
 | .ext q=>if (∃d ob,(∃h:Heap,h.get? d=some ob)/\q=λh=>h.get? d=some ob) then some [(Sum.inr "at",.non)] else none
 | _=>none
def zA (H H':Hp):Prop:=∀b o,H b=some o->(∀BC,pnK o=some BC->xK BC (Sum.inr "at" : Key)=none)->H' b=some o
def zA.refl (H:Hp):zA H H:=λ_ _ e _=>e
def zA.trans(a:zA H H1)(b:zA H1 H2):zA H H2:=λc o e n=>b c o (a c o e n) n
def zA.same(a:yZ H H1):zA H H1:=λc o e _=>a c o e
def zA.upd(h:H p=none):zA H (upd H p o):=λc u e _=>by rw[zf (zc e h)];show e
def yZ.upd(h:H p=none):yZ H (upd H p o):=λc u e=>by rw[zf (zc e h)];show e
def zA.tup(a:zA H H1)(h:H p=some (.tup xs)):H1 p=some (.tup xs):=a _ _ h λ_ e=>by cases e
def zA.lst(a:zA H H1)(h:H p=some (.lst xs)):H1 p=some (.lst xs):=a _ _ h λ_ e=>by cases e
mutual
theorem Is.stay {H H1:Hp}(a:zA H H1):∀ {d:Dt} {v:V},Is H d v->Is H1 d v
 | .non,_,h=>h
 | .bl _,_,h=>h
 | .int _,_,h=>h
 | .str _,_,h=>h
 | .tup l,v,h=>by obtain⟨p,xs,e,hp,hl⟩:=h;show#[p,xs,e,a.tup hp,IsL.stay a hl]
 | .lst l,v,h=>by obtain⟨p,xs,e,hp,hl⟩:=h;show#[p,xs,e,a.lst hp,IsL.stay a hl]
 | .dct,v,h=>by obtain⟨p,BC,e,hp,hl⟩:=h;show#[p,BC,e,a _ _ hp λkvs' e=>by cases e;show hl,hl]
theorem IsL.stay {H H1:Hp}(a:zA H H1):∀ {ds:AS} {xs:AT},IsL H ds xs->IsL H1 ds xs
 | [],_,h=>h
 | d::ds,xs,h=>by obtain⟨x,r,e,h1,h2⟩:=h;show#[x,r,e,Is.stay a h1,IsL.stay a h2]
end
theorem IsL.length:∀ {ds:AS} {xs:AT},IsL H ds xs->xs.length=ds.length
 | [],_,h=>by cases h;rfl
 | d::ds,xs,h=>by obtain⟨x,r,rfl,_,h2⟩:=h;rw[aK,aK,IsL.length h2]
theorem IsL.get:∀ {ds:AS} {xs:AT} {i:Nat} {x:V},IsL H ds xs->xs[i]?=some x->∃d,ds[i]?=some d/\Is H d x
 | [],_,_,_,h,e=>by cases h;simp at e
 | d::ds,xs,i,x,h,e=>by
  obtain⟨y,r,rfl,h1,h2⟩:=h
  cases i with
  | zero=>simp at e;subst e;show#[d,BA,h1]
  | succ i=>
   obtain⟨d',q,B⟩:=IsL.get (i:=i) (x:=x) h2 (by simpa using e);right
theorem IsL.getD:∀ {ds:AS} {xs:AT} {i:Nat} {d:Dt},IsL H ds xs->ds[i]?=some d->∃x,xs[i]?=some x/\Is H d x
 | [],_,_,_,_,e=>by simp at e
 | d::ds,xs,i,x,h,e=>by
  obtain⟨y,r,rfl,h1,h2⟩:=h
  cases i with
  | zero=>simp at e;subst e;show#[y,BA,h1]
  | succ i=>
   obtain⟨d',q,B⟩:=IsL.getD (i:=i) (d:=x) h2 (by simpa using e);right
theorem IsL.append:∀ {ds es:AS} {xs ys:AT},IsL H ds xs->IsL H es ys->IsL H (ds++es) (xs++ys)
 | [],_,_,_,h,k=>by cases h;show k
 | d::ds,es,xs,ys,h,k=>by obtain⟨y,r,rfl,h1,h2⟩:=h;show#[y,r++ys,BA,h1,IsL.append h2 k]
theorem IsL.take:∀ {ds:AS} {xs:AT} (n:Nat),IsL H ds xs->IsL H (ds.take n) (xs.take n)
 | _,_,0,_=>by simp[IsL]
 | [],_,n+1,h=>by cases h;simp[IsL]
 | d::ds,xs,n+1,h=>by obtain⟨y,r,rfl,h1,h2⟩:=h;show#[y,r.take n,BA,h1,IsL.take n h2]
theorem IsL.drop:∀ {ds:AS} {xs:AT} (n:Nat),IsL H ds xs->IsL H (ds.drop n) (xs.drop n)
 | _,_,0,h=>h
 | [],_,n+1,h=>by cases h;simp[IsL]
 | d::ds,xs,n+1,h=>by obtain⟨y,r,rfl,h1,h2⟩:=h;show IsL.drop n h2
def IsL.one(h:Is H d x):IsL H [d] [x]:=#[x,[],BA,h,BA]
theorem IsL.ints:∀ {ns:AG},IsL H (ns.map .int) (ns.map .int)
 | []=>rfl
 | n::ns=>#[_,_,BA,BA,IsL.ints]
theorem IsL.of_ints:∀ {ns:AG} {xs:AT},IsL H (ns.map .int) xs->xs=ns.map .int
 | [],_,h=>h
 | n::ns,xs,h=>by obtain⟨y,r,rfl,h1,h2⟩:=h;cases h1;rw[IsL.of_ints h2];rfl
def Dt.ty:Dt->String
 | .non => "NoneType" | .bl _ => "bool" | .int _ => "int" | .str _ => "str" | .tup _ => "tuple" | .lst _ => "list" | .dct => "dict"
theorem Is.ty {K:AH}{H:Hp}:∀ {d:Dt} {v:V},Is H d v->TyOf K H v (.type d.ty)
 | .non,_,h=>by cases h;show .non
 | .bl _,_,h=>by cases h;show .bl _
 | .int _,_,h=>by cases h;show .int _
 | .str _,_,h=>by cases h;show .str _
 | .tup l,v,h=>by obtain⟨p,xs,rfl,q,B⟩:=h;show .tup q
 | .lst l,v,h=>by obtain⟨p,xs,rfl,q,B⟩:=h;show .lst q
 | .dct,v,h=>by obtain⟨p,xs,rfl,q,B⟩:=h;show .dK q
abbrev Dt.isTup:Dt->Bool
 | .tup _=>true | _=>false
abbrev Dt.isLst:Dt->Bool
 | .lst _=>true | _=>false
abbrev Dt.isInt:Dt->Bool
 | .int _=>true | .bl _=>true | _=>false
abbrev Dt.isBl:Dt->Bool
 | .bl _=>true | _=>false
def Dt.isWhole:Dt->Bool
 | .int _=>true | _=>false
def zpc (K:AH)(d:Dt):PySem.W.kitOne K (.type d.ty) (.type "tuple")=some d.isTup:=by cases d <;> rfl
def zpb (K:AH)(d:Dt):PySem.W.kitOne K (.type d.ty) (.type "list")=some d.isLst:=by cases d <;> rfl
def zpa (K:AH)(d:Dt):PySem.W.kitOne K (.type d.ty) (.type "int")=some d.isInt:=by cases d <;> rfl
def zr4 (K:AH)(d:Dt):PySem.W.kitOne K (.type d.ty) (.type "bool")=some d.isBl:=by cases d <;> rfl
end
def zhY (env:Env):List (Str×NameKind)->List (Str×Addr)->List (Str×Addr)
 | [],cs=>cs
 | x::r,cs=>zhY env r (if (x.2==NameKind.free)=true then (x.1,(env.cells.lookup x.1).getD 0)::cs else cs)
def zhZ(h:∀x∈scope.names,x.2 = .free->∃c,env.cells.lookup x.1=some c):closureFor scope env=pure (zhY env scope.names []):=by
 have gen:∀ (names:List (Str×NameKind)) (cs:List (Str×Addr)),(∀x∈names,x.2 = .free->∃c,env.cells.lookup x.1=some c)->
   (forIn names cs (λx r=>match x with
    | (name,kind)=>if (kind==NameKind.free)=true then do let a <- cellOf env name;pure (ForInStep.yield ((name,a)::r)) else pure (ForInStep.yield r)):Sem (List (Str×Addr)))=pure (zhY env names cs):=by
  intro names
  induction names with
  | nil=>intro cs _;rfl
  | cons x r ih=>
   intro cs hh;obtain⟨n,k⟩:=x;rw[en];by_cases hk:(k==NameKind.free)=true;obtain⟨c,hc⟩:=hh (n,k) ao (cm hk);have hc':env.cells.lookup n=some c:=hc;have e:cellOf env n=pure c:=by unfold cellOf;rw[hc']
   simp only[hk,if_true,e,pure_bind];rw[ih _ λy hy=>hh y (av _ hy)];change pure _=pure (zhY env r (if (k==NameKind.free)=true then (n,(env.cells.lookup n).getD 0)::cs else cs));right;simp only[hk,pure_bind];have e2:zhY env ((n,k)::r) cs=zhY env r cs:=by change zhY env r (if (k==NameKind.free)=true then _ else cs)=_;rw[if_neg hk]
   right
 unfold closureFor;have:=gen scope.names [] h;simpa using this
theorem zbX:∀ {names:List (Str×NameKind)} {cs:List (Str×Addr)} {x:Str} {c:Addr},(∀y∈names,y.2 = .free->∃c,env.cells.lookup y.1=some c)->(zhY env names cs).lookup x=some c->env.cells.lookup x=some c\/cs.lookup x=some c
 | [],_,_,_,_,h=>.inr h
 | (n,k)::r,cs,x,c,B,h=>by
  have q:=zbX (names:=r) (x:=x) (c:=c) (λy F=>B y (av _ F)) h;rcases q with q | q;show .inl q;by_cases I:(k==NameKind.free)=true;obtain⟨J,O⟩:=B (n,k) ao (cm I);grind;right
theorem zc3:∀ {names:List (Str×NameKind)} {cs:List (Str×Addr)} {x:Str},(∃c,cs.lookup x=some c)->∃c,(zhY env names cs).lookup x=some c
 | [],_,_,h=>h
 | (n,k)::r,cs,x,h=>by
  show zc3 (names:=r) ?_;grind
theorem zbL:∀ {names:List (Str×NameKind)} {cs:List (Str×Addr)} {x:Str},names.lookup x=some .free->∃c,(zhY env names cs).lookup x=some c
 | [],_,_,h=>by simp at h
 | (n,k)::r,cs,x,h=>by
  rw[List.lookup_cons] at h
  cases e:x==n with
  | true=>
   rw[e] at h;have h':some k=some NameKind.free:=h;cases h';show zc3 (names:=r) ?_;right
  | false=>
   rw[e] at h;show zbL (names:=r) h
theorem yG {env:Env}:∀ {names:List (Str×NameKind)} {x:Str} {k:NameKind},(∀y∈names,y.2≠.cell)->
  (names.map λ(n,k)=>if (k==NameKind.free&&env.scope.kind==.function&&env.kindOf n==some .cell) then (n,NameKind.cell) else (n,k)).lookup x=some k->(k = .cell\/k = .free)->names.lookup x=some .free
 | [],_,_,_,h,_=>by simp at h
 | (n,k)::r,x,q,B,h,I=>by
  have J:=@yG env r x q (λy F=>B y (av _ F));grind
theorem xt {env:Env}:∀ {names:List (Str×NameKind)} {x:Str},names.lookup x=some .free->
  (names.map λ(n,k)=>if (k==NameKind.free&&env.scope.kind==.function&&env.kindOf n==some .cell) then (n,NameKind.cell) else (n,k)).lookup x=some .cell\/
  (names.map λ(n,k)=>if (k==NameKind.free&&env.scope.kind==.function&&env.kindOf n==some .cell) then (n,NameKind.cell) else (n,k)).lookup x=some .free
 | [],_,h=>by simp at h
 | (n,k)::r,x,h=>by
  have q:=@xt env r x;grind
def zW (X:Cx)(scope:Scope)(N:AM)(C:Addr)(s:AZ)(H:Hp)(ex:AY):Cx where
 prog:=X.prog
 w:=X.w
 K:=X.K
 mg:=X.mg
 base:=X.base
 A:=X.A
 N:=N
 s₀:=s
 H₀:=H
 env:=compEnvC scope (zhY X.env scope.names []) C X.env
 outer:=X.stack
 stack:=X.stack
 ex:=ex
 fn:=λ_=>false
 calm:=X.calm
 pn:=[]
 xe:=λ_ _=>False
def caps (XN:AM)(Xnames names:List (Str×NameKind))(N:AM)(BD:List (Option Nat)):Bool:=
 N.length==BD.length&&(names.all λy=>y.2 != .cell)&&((N.zip BD).all λp=>match p.2 with
  | none=>true
  | some i=>XN[i]?==some p.1&&names.lookup p.1==some .free&&(Xnames.lookup p.1==some .cell || Xnames.lookup p.1==some .free)) &&
 (names.all λy=>y.2 != .free || (Xnames.lookup y.1==some .cell || Xnames.lookup y.1==some .free))
def zeO (G:St)(BD:List (Option Nat)):St:=BD.map λo=>match o with
 | none=>none
 | some i=>(G[i]?).join
structure CompOk (X:Cx)(scope:Scope)(N:AM)(BD:List (Option Nat)):Prop where
 kind:scope.kind = .function
 names:∀x∈scope.names,x.2 = .local->scope.names.lookup x.1=some .local
 caps:caps X.N X.env.scope.names scope.names N BD=true
section
variable {X:Cx}{BB:AB}{G:St}{H:Hp}{s:AZ}{scope:Scope}{N:AM}{BD:List (Option Nat)}
def CompOk.cell (c:CompOk X scope N BD):∀y∈scope.names,y.2≠.cell:=λy q e=>by
 have h:=c.caps;unfold L2.caps at h;rw[bj,bj,bj] at h;have:=ck.mp h.1.1.2 y q;right
def CompOk.len (c:CompOk X scope N BD):N.length=BD.length:=by
 have h:=c.caps;unfold L2.caps at h;right
def CompOk.cells (c:CompOk X scope N BD)(B:X.Ok):∀x∈scope.names,x.2 = .free->∃a,X.env.cells.lookup x.1=some a:=λx F e=>by
 have h:=c.caps;unfold L2.caps at h;rw[bj] at h;have q:=ck.mp h.2 x F;rw[e] at q;have I:(X.env.scope.names.lookup x.1==some NameKind.cell || X.env.scope.names.lookup x.1==some NameKind.free)=true:=by simpa using q
 rcases Bool.or_eq_true_iff.mp I with q | q;show B.has _ (.inl (cm q));show B.has _ (.inr (cm q))
def CompOk.cap (c:CompOk X scope N BD){j i:Nat}{x:Str}(h1:N[j]?=some x)(h2:BD[j]?=some (some i)):X.N[i]?=some x/\scope.names.lookup x=some .free/\(X.env.scope.names.lookup x=some .cell\/X.env.scope.names.lookup x=some .free):=by
 have h:=c.caps;unfold L2.caps at h;rw[bj,bj] at h;have B:(x,some i)∈N.zip BD:=by show az (i:=j) ?_;rw[List.getElem?_zip_eq_some];show#[h1,h2]
 have q:=ck.mp h.1.2 _ B;grind
def zlU {fp:AY}{h':Heap}{tk:Nat}{m:AI}(I:Inv X BB G H s)(c:CompOk X scope N BD)(Z:∀b∈fp,zfW X BB H b)(ac:∀b∈fp,b<s.heap.objs.size)
  (hn:h'.Ns s.heap.objs.size m) (hk:∀b o,s.heap.get? b=some o->h'.get? b=some o) :
  Inv (zW X scope N s.heap.objs.size s H fp) [] (zeO G BD) H { s with heap:=h',toks:=tk }:=by
 have ad:=c.cells I.ok
 have B:∀x a,(zhY X.env scope.names []).lookup x=some a->X.env.cells.lookup x=some a:=λx a e=>by
  rcases zbX ad e with z | z;show z;simp at z
 show#[#[I.mod,c.kind,I.ok.glob,I.ok.blt,ai _,λx y a e1 e2=>I.ok.inj x y a (B x a e1) (B y a e2),λx hx=>?_,λx a z _=>absurd (show (false:Bool)=true from z) (by ext),I.ok.hd,I.ok.frames,.inl BA,
  λb J=>#[aQ (ac b J),λx a e=>(Z b J).2.2.2.2.1 x a (B x a e)],I.bs,aH I.ok.bsz I.sz,λb o e J=>?_,λb J z=>?_,I.stack,I.stkFree],
  I.os ▸ BA,I.bare,Un.kept hk,#[m,hn,λj x v h1 h2 h3=>?_],λx a e=>?_,I.hok.fresh (ai _),λx a e=>I.freeC x a (B x a e),λp hp=>absurd (show p∈([]:AB) from hp) (by simp),I.hok.kept hk,?_]
 have ag:((relabel scope X.env).names.lookup x=some .cell\/(relabel scope X.env).names.lookup x=some .free):=hx;rcases ag with z | z;show zbL (yG c.cell z (.inl BA));show zbL (yG c.cell z (.inr BA));rcases (Z b J).2.2.2.1 with z | z;show I.ok.noex b o e z;show absurd (a9 (ax e) (aH I.ok.bsz z)) (cZ _);rcases aA.mp (I.stkSub b z) with e | e;show (Z b J).2.1 e;show (Z b J).2.2.1 e;have al:N[j]?=some x:=h1;unfold zeO at h2;rw[aD] at h2
 cases e:BD[j]? with
 | none=>rw[e] at h2;cases h2
 | some o=>
  rw[e] at h2
  cases o with
  | none=>cases h2
  | some i=>
   have F:(G[i]?).join=some v:=ce h2
   have U:G[i]?=some (some v):=by
    cases q:G[i]? with
    | none=>rw[q] at F;cases F
    | some z=>rw[q] at F;have:z=some v:=F;rw[this]
   obtain⟨q1,q2,q3⟩:=c.cap al e;obtain⟨m0,ap,an⟩:=I.loc;obtain⟨u,ru,hu⟩:=an i x v q1 U (q3.elim (λz=>.inr (.inl z)) λz=>.inr (.inr z));show#[u,ru,.inr #[xt q2,?_]];rcases hu with ⟨z,_⟩ | ⟨_,a,ha,hcell⟩;have z':X.env.scope.names.lookup x=some .local:=z;right;obtain⟨a',Y⟩:=zbL (env:=X.env) (cs:=[]) q2;have:a'=a:=by have:=(B x a' Y).symm.trans ha;show ce this
   subst this;obtain⟨oc,O,hd⟩:=hcell;show#[a',Y,oc,hk _ _ O,hd]
 obtain⟨v,oc,O,hd⟩:=I.cell x a (B x a e);show#[v,oc,hk _ _ O,hd];change (zeO G BD).length=N.length;unfold zeO;rw[ab,c.len]
def zge(x:HOk P w H h)(hn:H a=none)(hs:Heap.SameBut a h h'):HOk P w H h':=λb o e=>by
 show (x b o e).stay (λc u B q=>(hs.2 c ?_).trans q) (λ_ q=>q) λ_ _ q=>q;grind
def zh6{Y:St}{H':Hp}{s':AZ}(I:Inv X BB G H s)(O:∀b∈U,zfW X BB H b)(I':Inv (zW X scope N s.heap.objs.size s H U) [] Y H' s')(hs:Heap.SameBut s.heap.objs.size s'.heap F) :
  Inv X BB G H' { s' with heap:=F }:=by
 have Z:∀b o,s.heap.get? b=some o->b≠s.heap.objs.size:=λb o e=>aQ (ax e);have u:=I'.base;show Inv.call' (ch:=U) I I'.os #[λb o e n B J=>?_,λb o e n B J=>?_,u.free,λb o e J=>?_,u.tups,u.frzs,u.tbls] (zge I'.hok I'.free hs) I'.bare λb B=>#[(O b B).2.2.2.1,(O b B).2.1,(O b B).2.2.2.2.1,(O b B).2.2.2.2.2];show (hs.2 b (Z b o e)).trans (u.keep b o e n B J);obtain⟨sl,q⟩:=u.slot b o e n B J;show#[sl,(hs.2 b (Z b o e)).trans q];obtain⟨o',q⟩:=u.there b o e J;show#[o',(hs.2 b (Z b o e)).trans q]
variable {prog:Aa}{w:Ab}{A:Ae}{R:Result->AZ->Prop}
def zdA(I:Nat->AZ->Prop)(turn:∀n s,I n s->Ag prog w A (pyNext it) (λr s₁=>match r with
   | none=>R (.ok .next) s₁
   | some v=>Ag prog w A (letOwnedTupleGo target it v) (λ_ s₂=>Ag prog w A (assign target env v) (λ_ s₃=>
     Ag prog w A (forIn ifs true λc r=>if r=true then do let ok <- isTrue c env (eval c env);pure (ForInStep.yield ok) else pure (ForInStep.yield r)) (λok s₄=>
      if ok=true then Ag prog w A (eval elt env) (λx s₅=>
       Ag prog w A (call (.builtin "list.append") [acc,x]) (λ_ s₆=>∃m,m<n/\I m s₆) (λ_ _=>False) s₅) (λ_ _=>False) s₄
      else ∃m,m<n/\I m s₄) (λ_ _=>False) s₃) (λ_ _=>False) s₂) (λ_ _=>False) s₁) (λ_ _=>False) s)(n:Nat)(h:I n s) :
  codeAny (model prog w) A (.compLoop (.ListComp elt [#[target,iter,ifs,0]] scope pos) 0 it acc env) R s:=by
 show codeAny_loop BA I (λn s hI=>?_) n h;change wpAny _ A ((compTurn (.ListComp elt [#[target,iter,ifs,0]] scope pos) 0 it acc env).onRaise (λx=>do noteFrame x env;theTreesLotGoes x)) _ _ s;show wpAny_noted ?_;rw[compTurn_list];show aa (c8 (aa (bM (turn n s hI) (λr s₁ h₁=>?_) λ_ _ h'=>h'.elim)))
 cases r with
 | none=>show af h₁
 | some v=>
  show aa (bM h₁ (λ_ s₂ h₂=>?_) λ_ _ h'=>h'.elim);show aa (bM h₂ (λ_ s₃ h₃=>aa (bM h₃ (λok s₄ h₄=>?_) λ_ _ h'=>h'.elim)) λ_ _ h'=>h'.elim)
  cases ok with
  | false=>show af #[BA,h₄]
  | true=>
   show aa (aa (bM h₄ (λx s₅ h₅=>aa (bM h₅ (λ_ s₆ h₆=>af (af #[BA,h₆])) λ_ _ h'=>h'.elim)) λ_ _ h'=>h'.elim))
end
def PTs (X:Cx)(ifs:AO)(t:TT):Prop:=
 ∀ (BB:AB) (s:AZ) (G:St) (H:Hp) (Q:Bool->Hp->Prop),Inv X BB G H s->t G H Q->
  Af X (forIn ifs true λc r=>if r=true then do let ok <- isTrue c X.env (eval c X.env);pure (ForInStep.yield ok) else pure (ForInStep.yield r)) (TP X BB G Q) X.xe s
def zk2:TT:=λ_ H Q=>Q true H
def zp2:PTs X [] zk2:=λBB s G H Q I h=>wpAny_tests_nil #[H,I,h]
def zp3(h:PT X c t):PTs X [c] t:=λBB s G H Q I q=>wpAny_tests_one (h BB s G H Q I q)
def zv5 (wi:TI)(g:TG)(ti:TT)(te:TE)(BD:List (Option Nat)):TE:=λG H Q=>wi G H λJ H1=>∀acc,H1 acc=none->∃W:Nat->Nat->St->Hp->Prop,(∃m,W 0 m (zeO G BD) (upd H1 acc (.lst [])))/\
 ∀i m B H',W i m B H'->(J.stop i H'/\Q (.ref acc) H')\/(J.go i H'/\∃N:St->Hp->Prop,(∀ F H2,N F H2->∃I,I<m/\W (i+1) I F H2)/\
  ∀x H2,J.yld i H' x H2->g x B H2 λq H3=>ti q H3 λO H4=>if O=true then te q H4 λv H5=>∃xs,H5 acc=some (.lst xs)/\xs.length<sizeLine/\N q (upd H5 acc (.lst (xs++[v]))) else N q H4)
def zro (g:TG)(ti:TT)(te:TE)(acc:Addr)(N:St->Hp->Prop)(x:V)(G:St)(H:Hp):Prop:=
 g x G H λq H3=>ti q H3 λB H4=>if B=true then te q H4 λv H5=>∃xs,H5 acc=some (.lst xs)/\xs.length<sizeLine/\N q (upd H5 acc (.lst (xs++[v]))) else N q H4
def znn (M:Model)(A:Ae)(e:Expr)(k:Nat)(tg:Expr)(ifs:AO)(it acc:Value)(env:Env)(B:(AZ->Prop)->AZ->Prop):Prop:=
 ∀ (R:Result->AZ->Prop) (s:AZ) (I:Nat->AZ->Prop),(∀n s,I n s->wpAny M A (pyNext it) (λr s₁=>match r with
   | none=>R (.ok .next) s₁
   | some v=>wpAny M A (letOwnedTupleGo tg it v) (λ_ s₂=>wpAny M A (assign tg env v) (λ_ s₃=>
     wpAny M A (forIn ifs true λc r=>if r=true then do let ok <- isTrue c env (eval c env);pure (ForInStep.yield ok) else pure (ForInStep.yield r)) (λok s₄=>
      if ok=true then B (λs'=>∃m,m<n/\I m s') s₄ else ∃m,m<n/\I m s₄) (λ_ _=>False) s₃) (λ_ _=>False) s₂) (λ_ _=>False) s₁) (λ_ _=>False) s)->
  ∀n,I n s->codeAny M A (.compLoop e k it acc env) R s
def zjY{X:Cx}{ifs:AO}{it acc:Addr}{I:AY}{tn:Nat->Heap->Prop}{J:It}{g:TG}{ti:TT}{tb:(St->Hp->Prop)->St->Hp->Prop}{B:(AZ->Prop)->AZ->Prop}{pl:AB}{Fin:St->Hp->Prop}{R:Result->AZ->Prop}{W:Nat->Nat->St->Hp->Prop}{σ0:St}{H0:Hp}{s0:AZ}(L:znn (model X.prog X.w) X.A e k tg ifs (.ref it) (.ref acc) X.env B)(hc:X.calm=true)(xX:X.xe=λ_ _=>False)(T:Turn X.prog X.w X.K tg J I it tn)(f4:∀ {H':Hp},(∀b∈I,H' b=none)->∀b∈I,zfW X pl H' b)(hg:PG X tg g)(ht:PTs X ifs ti)(O:∀pl' s G H (Nx:St->Hp->Prop) (P:AZ->Prop),Inv X (pl++pl') G H s->tb Nx G H->(∀ q H' s',Inv X (pl++pl') q H' s'->Nx q H'->P s')->B P s)(Z:∀i n G H,W i n G H->(J.stop i H/\Fin G H)\/(J.go i H/\∃Nx:St->Hp->Prop,(∀ q H',Nx q H'->∃m,m<n/\W (i+1) m q H')/\∀x H',J.yld i H x H'->g x G H' λU H2=>ti U H2 λb H3=>if b=true then tb Nx U H3 else Nx U H3))(fin:∀ G H s,Inv X pl G H s->Fin G H->R (.ok .next) s)(I0:Inv X pl σ0 H0 s0)(an:tn 0 s0.heap)(ap:∀b∈I,H0 b=none)(w0:W 0 m0 σ0 H0) :
  codeAny (model X.prog X.w) X.A (.compLoop e k (.ref it) (.ref acc) X.env) R s0:=by
 show L R s0 (λn s'=>∃i q H',Inv X pl q H' s'/\tn i s'.heap/\(∀b∈I,H' b=none)/\W i n q H') ?_ m0 #[0,σ0,H0,I0,an,ap,w0];rintro n s5 ⟨i,F,H5,I5,ac,ad,w5⟩;rcases Z i n F H5 w5 with ⟨stop,qn⟩ | ⟨go,Nx,hN,step⟩
 ·show thn (T.done X BA BA BA hc i pl s5 F H5 (λ_ _=>False) I5 (f4 ad) ac stop) ?_;rintro r s6 ⟨hr,I6⟩;subst hr;show fin F H5 s6 I6 qn
 show thn (T.item X BA BA BA hc i pl s5 F H5 (λ_ _=>False) I5 (f4 ad) ac go) ?_;rintro r s6 ⟨u,hr,h6⟩;subst hr;show thn h6 ?_;rintro _ s7 ⟨x,H7,I7,r7,y7,Y,as⟩;have I7':=I7.pinned (f4 as) (T.obj _ _ Y);have a7:=hg _ s7 F H7 x u _ I7' r7 (step x H7 y7);rw[xX] at a7;show thn a7 ?_;rintro _ s8 ⟨al,H8,I8,q8⟩;have t8:=ht _ s8 al H8 _ I8 q8;rw[xX] at t8;show thn t8 ?_;rintro ok s9 ⟨H9,I9,q9⟩
 have ag:∀ q H' s',Inv X (pl++zfx I s7.heap) q H' s'->Nx q H'->∃m,m<n/\∃i q H',Inv X pl q H' s'/\tn i s'.heap/\(∀b∈I,H' b=none)/\W i m q H':=λq H' s' J' n'=>by
  obtain⟨m',hm,w'⟩:=hN q H' n'
  have pn:∀b∈I,∀o,s7.heap.get? b=some o->s'.heap.get? b=some o/\H' b=none:=λb O o e=>by
   have:=J'.pin (b,o) (aU _ (aU _ (zbd O e)));right
  show#[m',hm,i+1,q,H',J'.unpinned,T.keep _ _ _ Y λb O o e=>(pn b O o e).1,λb O=>?_,w'];obtain⟨o,e,_⟩:=T.obj _ _ Y b O;right
 cases ok with
 | false=>show ag _ _ _ I9 q9
 | true=>show O _ s9 al H9 _ _ I9 q9 ag
structure Inn (X X':Cx)(BB:AB)(G:St)(fp:AY)(C:Addr):Prop where
 pX:X'.prog=X.prog
 wX:X'.w=X.w
 KX:X'.K=X.K
 AX:X'.A=X.A
 cX:X'.calm=X.calm
 xX:X'.xe=λ_ _=>False
 lX:X'.env.locals=C
 f4:∀ {H':Hp},(∀b∈fp,H' b=none)->∀b∈fp,zfW X' [] H' b
 back:∀ {σ':St} {H':Hp} {s':AZ} {h'':Heap},Inv X' [] σ' H' s'->Heap.SameBut C s'.heap h''->Inv X BB G H' { s' with heap:=h'' }
structure Opn (X:Cx)(scope:Scope)(BD:List (Option Nat))(Fam:Cx->Prop):Prop where
 kind:scope.kind = .function
 names:∀x∈scope.names,x.2 = .local->scope.names.lookup x.1=some .local
 cells:X.Ok->∀x∈scope.names,x.2 = .free->∃a,X.env.cells.lookup x.1=some a
 run:∀ (BB:AB) (G:St) (H3:Hp) (s3:AZ) (fp:AY) (Q:Env->AZ->Prop),Inv X BB G H3 s3->(∀b∈fp,zfW X BB H3 b)->(∀b∈fp,b<s3.heap.objs.size)->
  (∀X' cenv s4,Fam X'->Inn X X' BB G fp s3.heap.objs.size->cenv.locals=s3.heap.objs.size->X'.env={ cenv with scope:=relabel scope X.env }->Inv X' [] (zeO G BD) H3 s4->(∀b o,s3.heap.get? b=some o->s4.heap.get? b=some o)->Q cenv s4)->
  Af X (newFunctionEnv scope X.env.globals (zhY X.env scope.names []) [] X.env.qual none .none (some X.env)) Q X.xe s3
def zeR{X:Cx}{Fam:Cx->Prop}{scope:Scope}{BD:List (Option Nat)}{use:Option (Value->Sem Unit)}{Qp:AA}{ifs:AO}{pos:Pos}{U:Sem Value}{o0:Addr->HO}{B:Cx->Addr->(AZ->Prop)->AZ->Prop}{tb:Addr->(St->Hp->Prop)->St->Hp->Prop}{Fin:Addr->Hp->Prop}{wi:TI}{g:TG}{ti:TT}{Kk:It->Hp->Prop}{BB:AB}{G:St}{H:Hp}{s:AZ}(O:Opn X scope BD Fam)(hc:X.calm=true)(a5:clausesOf e=#[tg,iter,ifs,0]::gs)(hs:∀x,foldedSetIterable iter X.env x=pure x)(a7:∀ (R:Result->AZ->Prop) (s:AZ) (it acc:Value) (env:Env),codeAny (model X.prog X.w) X.A (.compLoop e 0 it acc env) R s->Af X (pyIter it) (λba s'=>codeAny (model X.prog X.w) X.A (.compLoop e 0 ba acc env) R s') (notedBy (model X.prog X.w) X.A env λx s'=>R (.error x) s') s->codeAny (model X.prog X.w) X.A (.compStart e 0 it acc env) R s)(hL:∀X',Fam X'->∀it acc,znn (model X'.prog X'.w) X'.A e 0 tg ifs it (.ref acc) X'.env (B X' acc))(an:∀ (s:AZ) (Q:AA),Q (.ref s.heap.objs.size) { s with heap:=s.heap.push ob }->Af X U Q X.xe s)(bb:∀ {BB G H s},Inv X BB G H s->∀H',yd X.prog X.w H' (s.heap.push ob) s.heap.objs.size (o0 s.heap.objs.size))(hi:PI X tg iter wi)(hg:∀X',Fam X'->PG X' tg g)(ht:∀X',Fam X'->PTs X' ifs ti)(Y:∀X',Fam X'->X'.prog=X.prog->X'.w=X.w->X'.A=X.A->X'.calm=true->X'.xe=(λ_ _=>False)->∀acc pl s G H (Nx:St->Hp->Prop) (P:AZ->Prop),Inv X' pl G H s->tb acc Nx G H->(∀ Z H' s',Inv X' pl Z H' s'->Nx Z H'->P s')->B X' acc P s)(I:Inv X BB G H s)(h:wi G H Kk)(hK:∀J H1 acc,Kk J H1->H1 acc=none->∃W:Nat->Nat->St->Hp->Prop,(∃m,W 0 m (zeO G BD) (upd H1 acc (o0 acc)))/\∀i n G H,W i n G H->(J.stop i H/\Fin acc H)\/(J.go i H/\∃Nx:St->Hp->Prop,(∀ Z H',Nx Z H'->∃m,m<n/\W (i+1) m Z H')/\∀x H',J.yld i H x H'->g x G H' λad H2=>ti ad H2 λb H3=>if b=true then tb acc Nx ad H3 else Nx ad H3))(ap:∀acc C H5 s6,zfW X BB H5 C->(∃m,s6.heap.Ns C m)->(∀ag,Heap.SameBut C s6.heap ag->Inv X BB G H5 { s6 with heap:=ag })->Fin acc H5->compPost (model X.prog X.w) X.A X.xe use Qp (.ref acc) C (.ok .next) s6) :
  Af X (comprehension e scope X.env pos U false (eval iter X.env) use) Qp X.xe s:=by
 show wpAny_comprehension_free (use:=use) a5 hs (zhZ (O.cells I.ok)) O.kind O.names (thn (hi BB s G H _ I h) λxv s1 h1=>thn h1 λbe F h2=>?_);obtain⟨it,fp,tn,J,H2,e,I2,T,as,f2,q2⟩:=h2;subst e;show an F _ ?_;have al:=I2.hok.fresh (ai F.heap.objs.size);obtain⟨W,⟨m0,w0⟩,a0⟩:=hK J H2 F.heap.objs.size q2 al;have a1:∀b o,F.heap.get? b=some o->(F.heap.push ob).get? b=some o:=λb u e=>ae _ e;have I3:Inv X BB G (upd H2 F.heap.objs.size (o0 F.heap.objs.size)) { F with heap:=F.heap.push ob,toks:=F.toks }:=I2.laid (t':=F.toks) a1 (ai _) (bb I2 _);have a2:∀b∈fp,b<F.heap.objs.size:=λb Y=>by obtain⟨o,ho,_⟩:=T.obj _ _ as b Y;show ax ho
 have fn:∀b∈fp,upd H2 F.heap.objs.size (o0 F.heap.objs.size) b=none:=λb Y=>by rw[zf (aQ (a2 b Y))];show (f2 b Y).1
 show O.run BB G _ _ fp _ I3 (λb Y=>#[fn b Y,(f2 b Y).2]) (λb Y=>Nat.lt_trans (a2 b Y) (by simp)) λX' bd s4 hF N hl hE I4 kp=>?_;rw[<- hE,hl];have a3:tn 0 s4.heap:=T.keep _ _ _ as λb Y o e=>kp b o (a1 b o e);have cX:=N.cX.trans hc;have ac:=zjY (X:=X') (R:=compPost (model X.prog X.w) X.A X.xe use Qp (.ref F.heap.objs.size) (F.heap.push ob).objs.size) (Fin:=λ_ H=>Fin F.heap.objs.size H) (pl:=[]) (hL X' hF (.ref it) F.heap.objs.size) cX N.xX (by rw[N.pX,N.wX,N.KX];show T) N.f4 (hg X' hF) (ht X' hF) (Y X' hF N.pX N.wX N.AX cX N.xX F.heap.objs.size) a0 (λbk H5 s6 I6 q=>?_) I4 a3 fn w0;rw[N.pX,N.wX,N.AX] at ac;show a7 _ _ _ _ _ ac (T.self X.A 0 _ _ _ a3 ac);have bc:H5 (F.heap.push ob).objs.size=none:=by have:=I6.free;rwa[N.lX] at this
 obtain⟨m6,a4,_⟩:=I6.loc;rw[N.lX] at a4;show ap _ _ H5 s6 (I3.fpOk (ai _) bc) #[m6,a4] (λag hs=>N.back I6 hs) q
section
variable {X:Cx}{scope:Scope}{N:AM}{BD:List (Option Nat)}{z:Str}
def zcq (c:CompOk X scope N BD):Opn X scope BD (λX'=>∃C s H ex,X'=zW X scope N C s H ex) where
 kind:=c.kind
 names:=c.names
 cells:=c.cells
 run:=λBB G H3 U Z Q I3 B F k=>by
  show wpAny_newFunctionEnv c.cell (by simp) (λh4 J O=>?_) c.kind;have Y:∀b o,U.heap.get? b=some o->h4.get? b=some o:=λb o e=>O.extBut b o (aQ (ax e)) (ae _ e);show k (zW X scope N U.heap.objs.size U H3 Z) _ _ #[_,_,_,_,BA] #[BA,BA,BA,BA,BA,BA,BA,λ{H'} hn b q=>#[hn b q,aQ (F b q),λy=>?_,.inl q,λx a e=>?_,λp hp=>?_],λI' hs=>zh6 I3 B I' hs] BA BA (zlU I3 c B F J Y) Y;rcases aA.mp (I3.stkSub b y) with e | e;show (B b q).2.1 e;show (B b q).2.2.1 e;rcases zbX (c.cells I3.ok) e with y | y;show (B b q).2.2.2.2.1 x a y;simp at y;show absurd (show p∈([]:AB)++[] from hp) (by simp)
def zg8 {BB:AB}{G:St}{Q:VK}{acc C:Addr}{H5:Hp}{F:AZ}(J:∃m,F.heap.Ns C m)(O:∀B,Heap.SameBut C F.heap B->Inv X BB G H5 { F with heap:=B })(q:Q (.ref acc) H5):compPost (model X.prog X.w) X.A X.xe none (EP X BB G Q) (.ref acc) C (.ok .next) F:=
 let ⟨m,hn⟩:=J;#[m,hn,λU I=>#[.ref acc,H5,O U I,BA,q]]
def zlr{pos spos px:Pos}{nx:Str}{B first:Sem Value}{BG:Ends}{BB:AB}{G:St}{s:AZ}(Y:X.N.Nodup)(Z:X.N[ix]?=some nx)(J:X.env.scope.names.lookup nx=some .local)(ac:swapsWithSole [.Name nx px] e spos.line X.env=pure true)(ad:(assignEach [.Name nx px] X.env).map (·.2)=[assign (.Name nx px) X.env])(ag:∀U,evalThenUse e X.env U=comprehension e scope X.env pos B false first (some U) >>= λ_=>pure ())(h:∀ (U:Value->Sem Unit) (Qp:AA),(∀acc C H5 I,zfW X BB H5 C->(∃m,I.heap.Ns C m)->(∀O,Heap.SameBut C I.heap O->Inv X BB G H5 { I with heap:=O })->BG.nx (G.set ix (some (.ref acc))) H5->compPost (model X.prog X.w) X.A X.xe (some U) Qp (.ref acc) C (.ok .next) I)->Af X (comprehension e scope X.env pos B false first (some U)) Qp X.xe s) :
  Af X (exec (.Assign [.Name nx px] e spos) X.env) (SP X BB BG) X.xe s:=by
 rw[exec_Assign_arm];show aa (c8 ?_);rw[ac];show aa (af ?_);rw[if_pos rfl];show aa ?_;rw[ag];show aa ?_;show h _ _ λacc C H5 I F hm al q=>?_;have IX:=al _ #[BA,λ_ _=>rfl];change wpAny _ _ (assignAll _ ((assignEach [.Name nx px] X.env).map (·.2))) _ _ I;rw[ad];show wpAny_assign_Name (x:=nx) (pos:=px) ?_;show zfK IX Y Z (Or.inl J) (v:=.ref acc) BA (λs7 I7 ⟨a7,an,ap⟩=>?_) (.inr J)
 have as:C≠a7:=by
  intro z;rcases ap with e | e;show F.2.1 (z.trans e);show F.2.2.2.2.1 nx a7 e z.symm
 obtain⟨m6,oC,a0,a1,a2,rC⟩:=hm;show#[m6,#[oC,a0,a1,(an.2 _ as).trans a2,rC],λh8 a3=>af (af ?_)];show#[_,H5,I7.turned (t':=s7.toks) (λb o hb e=>(a3.2 b hb).trans e) F.1 F.2.1 F.2.2.2.1 F.2.2.2.2.1 F.2.2.2.2.2,q]
variable {Fam:Cx->Prop}{use:Option (Value->Sem Unit)}{Qp:AA}{elt tg iter:Expr}{ifs:AO}{pos ipos spos px:Pos}{wi:TI}{g:TG}{ti:TT}{te:TE}{BB:AB}{G:St}{H:Hp}{s:AZ}{Fin:Addr->Hp->Prop}
def zlp {P:AZ->Prop}{acc:Addr}{Nx:St->Hp->Prop}(he:PE X elt te)(xX:X.xe=λ_ _=>False)(I:Inv X BB G H s)(q:te G H λv H'=>∃xs,H' acc=some (.lst xs)/\xs.length<sizeLine/\Nx G (upd H' acc (.lst (xs++[v]))))(k:∀ B H' s',Inv X BB B H' s'->Nx B H'->P s') :
  Af X (eval elt X.env) (λx s5=>Af X (call (.builtin "list.append") [.ref acc,x]) (λ_ s6=>P s6) (λ_ _=>False) s5) (λ_ _=>False) s:=by
 have e9:=he BB s G H _ I q;rw[xX] at e9;show thn e9 ?_;rintro u2 J ⟨v,H10,I10,O,xs,U,Y,nx⟩;have F:=zfl (X:=X) _ J G H10 (.ref acc) [v] (.ref acc) [u2] (λ_ H'=>Nx G H') I10 BA (.cons O .nil) #[_,xs,v,BA,BA,U,Y,nx];rw[xX] at F;show thn F (by rintro _ ac ⟨_,H11,I11,_,Z⟩;show k _ _ _ I11 Z)
def zfk (O:Opn X scope BD Fam)(hc:X.calm=true)(hi:PI X tg iter wi)(hg:∀X',Fam X'->PG X' tg g)(ht:∀X',Fam X'->PTs X' ifs ti)(he:∀X',Fam X'->PE X' elt te)(hs:∀x,foldedSetIterable iter X.env x=pure x)(I:Inv X BB G H s)
  (h:wi G H λJ H1=>∀acc,H1 acc=none->∃W:Nat->Nat->St->Hp->Prop,(∃m,W 0 m (zeO G BD) (upd H1 acc (.lst [])))/\∀i n G H,W i n G H->(J.stop i H/\Fin acc H)\/(J.go i H/\∃Nx:St->Hp->Prop,(∀ U H',Nx U H'->∃m,m<n/\W (i+1) m U H')/\∀x H',J.yld i H x H'->zro g ti te acc Nx x G H'))
  (Y:∀acc C H5 F,zfW X BB H5 C->(∃m,F.heap.Ns C m)->(∀Z,Heap.SameBut C F.heap Z->Inv X BB G H5 { F with heap:=Z })->Fin acc H5->compPost (model X.prog X.w) X.A X.xe use Qp (.ref acc) C (.ok .next) F) :
  Af X (comprehension (.ListComp elt [#[tg,iter,ifs,0]] scope pos) scope X.env ipos (newList []) false (eval iter X.env) use) Qp X.xe s:=
 zeR (ob:={ cls:=.type "list",dict:=none,data:=.seq ([]:AN).toArray }) (o0:=λ_=>.lst []) (B:=λX' acc P s=>wpAny (model X'.prog X'.w) X'.A (eval elt X'.env) (λx s5=>wpAny (model X'.prog X'.w) X'.A (call (.builtin "list.append") [.ref acc,x]) (λ_ F=>P F) (λ_ _=>False) s5) (λ_ _=>False) s) (tb:=λacc Nx G H=>te G H λv H'=>∃xs,H' acc=some (.lst xs)/\xs.length<sizeLine/\Nx G (upd H' acc (.lst (xs++[v])))) O hc BA hs (λ_ _ _ _ _ h0 h1=>codeAny_compStart_list h0 h1) (λ_ _ _ _ _ _ I ac n h=>zdA I ac n h) (λs Q h=>bC h) (λ_ _=>#[aL _,[],0,.nil,ar _ BA]) hi hg ht (λX' hF _ _ _ _ xX _ _ _ _ _ _ _ I q k=>zlp (he X' hF) xX I q k) I h (λJ H1 acc q hn=>q acc hn) Y
end
section
variable {X:Cx}{scope:Scope}{N:AM}{z:Str}
def zlM {P:Cx->Prop}(h:∀C s H ex,P (zW X scope N C s H ex)):∀X',(∃C s H ex,X'=zW X scope N C s H ex)->P X':=by right
abbrev EndK (X:Cx)(BB:AB)(G:St)(use:Option (Value->Sem Unit))(Qp:AA)(Q:VK):Prop:=∀acc C H5 B,zfW X BB H5 C->(∃m,B.heap.Ns C m)->(∀q,Heap.SameBut C B.heap q->Inv X BB G H5 { B with heap:=q })->Q (.ref acc) H5->compPost (model X.prog X.w) X.A X.xe use Qp (.ref acc) C (.ok .next) B
end
structure Dfn (K:AH)(mg:AI)(x:Str)(st:Stmt)(ps:AM)(f:Addr)(fd:Ac):Prop where
 F:Fun K x x st f fd
 b:zal K fd ps []
 m:mg x=some (.ref f)
section
variable {X:Cx}
def zsx{x:Str}{st:Stmt}{ps:AM}{f:Addr}{fd:Ac}{sp:Sp}{es:AO}{p pos:Pos}(BG:Dfn X.K X.mg x st ps f fd)(BF:FnOk X.prog X.w X.K X.mg X.base CX0 j f fd ps sp)(J:Room k X.A)(O:PA X (e::es) t)(q:j<=k:=by ext)(U:Gl X x:=by rfl)(B:Ah x:=by ext)(Y:starEach (e::es) X.env=(false,eval e X.env)::starEach es X.env:=by rfl)(I:(backTo pos (starEach es X.env)).any (·.1)=false:=by rfl) :
  PE X (.Call (.Name x p) (e::es) [] pos) (zey sp [] E0 t):=
 zko BF (J.mono q) U BG.m BG.F.kp BG.b .nil zmv O B Y I
def zkK {q:List Bool}:((List.range q.length).all λi=>q.getD i true)=q.all id:=by
 rw[cA,ck,ck];constructor;intro h b F;obtain⟨i,hi,e⟩:=bt.mp F;right;intro h i hi;have B:=aM.mp hi;have:=h q[i] (bD B);right
def zlw (hc:X.calm=true):zdu X (.builtin "all") (λxs H Q=>∃ (p:Addr) (F:List Bool),xs=[.ref p]/\H p=some (.lst (F.map V.bl))/\Q (.bl (F.all id)) H):=by
 intro BB s G H xs us Q I r h;obtain⟨p,F,rfl,hp,q⟩:=h;obtain⟨u,rfl,ru⟩:=zbI r;cases ru;obtain⟨B,Z,pl,hz⟩:=I.list (.of hp);have J:=Z.length;rw[ab] at J;have W:Walks X.prog X.w X.A.in1 s.heap.objs.size [s.heap.objs.size,p] [s.heap.objs.size] B.toArray.size (λi v=>B.toArray[i]?=some v) (λi h=>h.IsListIter s.heap.objs.size p i/\h.IsList p B.toArray):=by show Walks.list (A:=X.A.in1) (I.ok.hd hc) s.heap.objs.size p ?_ B.toArray;obtain⟨o,_,ho,_⟩:=pl;show aQ (ax ho)
 show call_all_walk (dE pl.isList #[s.heap.objs.size,_,_,_,_,_,λi=>F.getD i true,BA,W,#[?_,?_],?_,?_]);show#[_,ar _ BA,BA,BA];show pl.isList.at λo e=>ae _ e;intro i v s' Q' E' hP U;have Y:B[i]?=some v:=by simpa using hP
 have hi:i<F.length:=by grind
 have hb:(F.map V.bl)[i]?=some (V.bl F[i]):=by simp[hi]
 obtain⟨u',O,rb⟩:=Z.get hb;rw[Y] at O;cases O;cases rb;have:F.getD i true=F[i]:=by simp[hi]
 dsimp only at U;rw[this] at U;show cr U;intro h' tk hk;have e:(List.range B.toArray.size).all (λi=>F.getD i true)=F.all id:=by rw[aY,<- J];show zkK
 rw[e];show#[.bl _,H,I.kept (t':=tk) λb o eb=>hk b o (by simp;show aQ (ax eb)) (ae _ eb),BA,q]
end
structure QE (X:Cx)(e:Expr)(t:TE):Prop where
 run:PE X e t
structure QT (X:Cx)(e:Expr)(t:TT):Prop where
 run:PT X e t
structure QW (X:Cx)(e:Expr)(t:TT):Prop where
 run:PW X e t
structure QC (X:Cx)(op:CmpOp)(a b:Expr)(t:TE):Prop where
 run:PC X op a b t
structure QA (X:Cx)(es:AO)(t:TA):Prop where
 run:PA X es t
structure QS (X:Cx)(s:Stmt)(t:TS):Prop where
 run:PS X s t
structure QSs (X:Cx)(s:List Stmt)(t:TS):Prop where
 run:PSs X s t
structure QG (X:Cx)(e:Expr)(t:TG):Prop where
 run:PG X e t
structure QGs (X:Cx)(es:AO)(t:TGs):Prop where
 run:PGs X es t
structure QI (X:Cx)(tg e:Expr)(t:TI):Prop where
 run:PI X tg e t
structure QO (X:Cx)(e:Option Expr)(t:TO):Prop where
 run:PO X e t
structure QP (X:Cx)(pos:Pos)(ks:List (Option Expr))(vs:AO)(t:List (TE×TE)):Prop where
 run:PPs X pos ks vs t
structure QTs (X:Cx)(es:AO)(t:TT):Prop where
 run:PTs X es t
structure OpQ (X:Cx)(f:Value->Value->Sem Value)(r:R2):Prop where
 run:OpR X f r
structure UnQ (X:Cx)(f:Value->Sem Value)(r:V->Hp->VK->Prop):Prop where
 run:UnR X f r
structure CallQ (X:Cx)(f:Value)(r:AT->Hp->VK->Prop):Prop where
 run:zdu X f r
structure IxQ (X:Cx)(r:R2):Prop where
 run:IxR X r
structure SlQ (X:Cx)(r:V->AQ->AQ->Hp->VK->Prop):Prop where
 run:SlR X r
section
variable {X:Cx}{e a b c:Expr}{es:AO}{te ta tb tc:TE}{t u:TT}{pos p:Pos}
def qv(i:Nat)(B:X.N[i]?=some x:=by rfl)(F:Vis X.env.scope x:=by fail"v")(I:Ah x:=by ext)(q:(x==("__classdict__" : Str))=false:=by ext):QE X (.Name x pos) (za6 i):=#[znS B F I q]
def yA{i:Int}:QE X (.Constant (.int i) j pos) (tC (.int i)):=#[znR]
def zp7:QE X (.Constant (.bool k) j pos) (tC (.bl k)):=#[zvN]
def zsX:QE X (.Constant .none j pos) (tC .non):=#[zsy]
def xx:QE X (.Constant (.str x) j pos) (tC (.str x)):=#[zsB]
def zp8(q:Gl X x)(B:X.mg x=none)(F:bootBuiltins x=some w)(r:yo v w)(hn:x ≠ "__name__" := by ext)(I:Ah x:=by ext):QE X (.Name x pos) (tC v):=#[zpG q B F r hn I]
def yL:OpQ X (binaryOp .Add) (rI0 λi j=>.int (i+j)):=#[zsh]
def zkn:OpQ X (binaryOp .Sub) (rI0 λi j=>.int (i - j)):=#[zso]
def uX:OpQ X (binaryOp .Mult) (rI znl λi j=>.int (i * j)):=#[zsl]
def zec:OpQ X (binaryOp .FloorDiv) (rI zra λi j=>.int (i / j)):=#[zpC]
def uE:OpQ X (binaryOp .Mod) (rI (λ_ j=>0<j) λi j=>.int (i % j)):=#[zsk]
def zsr:OpQ X (binaryOp .Pow) (rI CPow λi j=>.int (i ^ j.toNat)):=#[zsn]
def zaA:OpQ X (binaryOp .Add) (zmN X.K):=#[zpA]
def zsp:OpQ X (binaryOp .Add) rCat:=#[zsi]
def zkm:OpQ X (compareOp .Lt) (rI0 λi j=>.bl (decide (i<j))):=#[zvK]
def zmr:OpQ X (compareOp .LtE) (rI0 λi j=>.bl (decide (i<=j))):=#[zvJ]
def zil:OpQ X (compareOp .Gt) (rI0 λi j=>.bl (decide (j<i))):=#[zvI]
def zvM:OpQ X (compareOp .GtE) (rI0 λi j=>.bl (decide (j<=i))):=#[zvH]
def uJ:OpQ X (compareOp .Eq) rEq:=#[zvG]
def zcY:OpQ X (compareOp .NotEq) rNe:=#[zvL]
def zhv:OpQ X (compareOp .Is) (λx y H Q=>∃a b,x = .bl a/\y = .bl b/\Q (.bl (a==b)) H):=#[zmq]
def zcr:OpQ X (compareOp .IsNot) (λx y H Q=>∃a b,x = .bl a/\y = .bl b/\Q (.bl (a != b)) H):=#[zgx]
def zft:OpQ X (compareOp .NotIn) (rIn X.K true):=#[zfr]
def ztR:UnQ X (unaryOp .USub) (rU λi=>.int (-i)):=#[zof]
def yJ(B:OpQ X (binaryOp q) r)(F:QE X a ta)(I:QE X b tb):QE X (.BinOp a q b pos) (tOp r ta tb):=#[zvP B.run F.run I.run]
def zvT(B:UnQ X (unaryOp q) r)(F:QE X a ta):QE X (.UnaryOp q a pos) (tUn r ta):=#[zsC B.run F.run]
def zp9(B:OpQ X (compareOp q) r)(F:QE X a ta)(I:QE X b tb)(J:behindInMarks q b=false):QE X (.Compare a [q] [b] pos) (tOp r ta tb):=#[zpH B.run F.run I.run J]
def u7(B:OpQ X (compareOp q) r)(F:QE X a ta)(I:QE X b tb)(J:behindInMarks q b=false):QT X (.Compare a [q] [b] pos) (zqT (tOp r ta tb)):=#[zp1 B.run F.run I.run J]
def zmG(J:OpQ X (compareOp B) r)(F:OpQ X (compareOp q) I)(O:QE X a ta)(U:QE X b tb)(Y:QE X c tc)(Z:lastMarks [B,q] [b,c]=false:=by with_unfolding_all rfl) :
  QE X (.Compare a [B,q] [b,c] pos) (zkZ r I ta tb tc):=#[zmx J.run F.run O.run U.run Y.run Z]
def znW(q:QE X a ta):QC X .Is a (.Constant .none j pos') (zv8 ta):=#[zsu q.run]
def zp6(q:QE X a ta):QC X .IsNot a (.Constant .none j pos') (zqR ta):=#[zpF q.run]
def zkA (q:X.A.units+1<cLine)(B:QE X a ta)(F:QE X b tb):QC X .NotIn a b (zgO ta tb):=#[zfv q B.run F.run]
def zhD(h:QC X q a b te)(h1:behindInMarks q b=false:=by first | show zdY _ (by ext) (by ext) | rfl):QT X (.Compare a [q] [b] pos) (tB te):=#[znV h.run h1]
def zn0 (h:QE X e te)(he:∀whole,isTrue e X.env whole=(do let v <- whole;standAt e.pos;holding [v] (truthy v)):=by intro _;rfl):QT X e (tB te):=#[zsS h.run he]
def zs0 (h:QT X a t):QT X (.UnaryOp .Not a pos) (tNot t):=#[zsR h.run]
def zgC (h:QT X a t):QW X (.BoolOp .And [a] pos) t:=#[zp5 h.run]
def zs2 (h:QT X a t):QW X (.BoolOp .Or [a] pos) t:=#[zsU h.run]
def zhE {zz:AO}(h:QT X a t)(h':QW X (.BoolOp .And (b::zz) pos) u):QW X (.BoolOp .And (a::b::zz) pos) (zv4 t u):=#[zsT h.run h'.run]
def zvV {zz:AO}(h:QT X a t)(h':QW X (.BoolOp .Or (b::zz) pos) u):QW X (.BoolOp .Or (a::b::zz) pos) (tOr t u):=#[zvS h.run h'.run]
def QW.pt (h:QW X e t):QT X e t:=#[h.run.pt]
def zsZ(h:QE X a ta):QE X (.BoolOp q [a] pos) ta:=#[zsA h.run]
def zsV {zz:AO}(q:QE X a ta)(B:QE X (.BoolOp .And (b::zz) pos) tb):QE X (.BoolOp .And (a::b::zz) pos) (zto ta tb):=#[zsv q.run B.run]
def zsY (q:QE X a ta):QE X (.UnaryOp .Not a pos) (ztx ta):=#[zsz q.run]
def zmL (q:QT X c t)(B:QE X a ta)(F:QE X b tb):QE X (.IfExp c a b pos) (tIf t ta tb):=#[zmz q.run B.run F.run]
def yM:QA X [] zqQ:=#[znQ]
def zL(B:QE X e te)(F:QA X es q)(hs:starEach (e::es) X.env=(false,eval e X.env)::starEach es X.env:=by rfl):QA X (e::es) (zbG te q):=#[zbg B.run F.run hs]
def zql:QP X pos [] [] []:=#[zkv]
def zel(B:QE X k tk)(F:QE X v tv)(I:QP X pos ks vs q):QP X pos (some k::ks) (v::vs) ((tk,tv)::q):=#[zhz B.run F.run I.run]
def zqb(h:QP X pos q B F)(I:q.all (·.isSome)=true)(O:q.length=B.length)(U:q≠[])(J:q.length<=15):QE X (.Dict q B pos) (ztp F):=#[zpI h.run I O U J]
def zgz:QO X none zk1:=#[zpY]
def zgA (h:QE X e te):QO X (some e) (zty te):=#[zpZ h.run]
def zkY:SlQ X rSlA:=#[zqH]
def zqJ:SlQ X (rSlL X.K):=#[zqG]
def zei{r:V->AQ->AQ->Hp->VK->Prop}{lo hi:Option Expr}{tl th:TO}(q:SlQ X r)(B:QE X e te)(F:QO X lo tl)(I:QO X hi th):QE X (.Subscript e (.Slice lo hi none p2) pos) (tSl r te tl th):=#[zmA q.run B.run F.run I.run]
def yk:IxQ X (zum X.K):=#[zoX]
def zF:IxQ X (zrf X.K):=#[zrU]
def zmM(q:IxQ X r)(B:QE X a ta)(F:QE X b tb)(hs:zfX b):QE X (.Subscript a b pos) (tOp r ta tb):=#[zvO q.run B.run F.run hs]
def uw (q:X.A.units+1<cLine)(B:QE X a ta)(F:QE X b tb)(hs:zt4 b):QE X (.Subscript a b pos) (zqM ta tb):=#[zkq q B.run F.run hs]
def z6:CallQ X (.builtin "len") (λxs H Q=>∃x n,xs=[x]/\zt3 X.K x H n/\Q (.int n) H):=#[zlx]
def zi0:CallQ X (.builtin "abs") (λxs H Q=>∃i,xs=[.int i]/\Q (.int (if i<0 then -i else i)) H):=#[zlv]
def zi1:CallQ X (.builtin "isinstance") (λxs H Q=>∃x T t b,xs=[x,.ty T]/\TyOf X.K H x t/\PySem.W.kitOne X.K t (.type T)=some b/\Q (.bl b) H):=#[zf2]
def zrp (B:X.calm=true):CallQ X (.builtin "all") (λxs H Q=>∃ (p:Addr) (q:List Bool),xs=[.ref p]/\H p=some (.lst (q.map V.bl))/\Q (.bl (q.all id)) H):=#[zlw B]
def zh0:CallQ X (.type "list") (λxs H Q=>∃p ys,xs=[.ref p]/\(SqL X.K H p ys\/SqT X.K H p ys)/\∀l,H l=none->Q (.ref l) (upd H l (.lst ys))):=#[zeN]
def zf5:CallQ X (.type "tuple") (λxs H Q=>∃p ys,xs=[.ref p]/\((SqL X.K H p ys/\∀l,H l=none->Q (.ref l) (upd H l (.tup ys)))\/(SqT X.K H p ys/\Q (.ref p) H))):=#[zdy]
def xg {id:String}{r:AT->Hp->VK->Prop}{x:Str}{F:TA}(I:CallQ X (.builtin id) r)(J:Gl X x)(O:X.mg x=none)(U:bootBuiltins x=some (.builtin id))(Y:QA X (e::es) F)(hn:x ≠ "__name__" := by ext)(q:Ah x:=by ext)
  (Z:starEach (e::es) X.env=(false,eval e X.env)::starEach es X.env:=by rfl) (B:(backTo pos (starEach es X.env)).any (·.1)=false:=by rfl):QE X (.Call (.Name x p) (e::es) [] pos) (tCB r F):=#[zmw I.run J O U Y.run hn q Z B]
def zcv(I:CallQ X (.type T) r)(J:Gl X x)(O:X.mg x=none)(U:bootBuiltins x=some (.type T))(Y:QA X (e::es) F)(hn:x ≠ "__name__" := by ext)(q:Ah x:=by ext)(Z:starEach (e::es) X.env=(false,eval e X.env)::starEach es X.env:=by rfl)(B:(backTo pos (starEach es X.env)).any (·.1)=false:=by rfl):QE X (.Call (.Name x p) (e::es) [] pos) (tCB r F):=#[zkp I.run J O U Y.run hn q Z B]
def zmJ{x:Str}{st:Stmt}{ps:AM}{f:Addr}{fd:Ac}{sp:Sp}(BG:Dfn X.K X.mg x st ps f fd)(BF:FnOk X.prog X.w X.K X.mg X.base CX0 j f fd ps sp)(J:Room k X.A)(O:QA X (e::es) I)(q:j<=k:=by ext)(U:Gl X x:=by rfl)(B:Ah x:=by ext)(Y:starEach (e::es) X.env=(false,eval e X.env)::starEach es X.env:=by rfl)(F:(backTo pos (starEach es X.env)).any (·.1)=false:=by rfl) :
  QE X (.Call (.Name x p) (e::es) [] pos) (zey sp [] E0 I):=#[zsx BG BF J O.run q U B Y F]
def ux(q:X.N.Nodup)(hi:X.N[i]?=some x)(B:Loc X.env.scope x)(F:X.fn x=true\/X.env.scope.names.lookup x=some .local:=by fail"l"):QG X (.Name x pos) (zbA i):=#[zpS q hi B F]
def zek:QGs X [] gNil:=#[zpT]
def xh(h1:QG X e g)(h2:QGs X es gs)(hs:(assignEach (e::es) X.env).map (·.2)=assign e X.env::(assignEach es X.env).map (·.2):=by rfl):QGs X (e::es) (zrL g gs):=#[zmB h1.run h2.run hs]
def zkB {k:Nat}{gs:TGs}{n:Nat}(B:X.calm=true)(h:QGs X es gs)(hn:(assignEach es X.env).length=n:=by rfl)(q:(assignEach es X.env).findIdx? (·.1)=none:=by rfl):QG X (.Tuple es k pos) (zu7 X.K n gs):=#[zsJ B h.run hn q]
def zqh(q:QE X e te):QI X tg e (zoR X.K te):=#[zpV q.run]
def zkE(q:QE X e te):QI X tg e (zva X.K te):=#[zsK q.run]
def zkD(B:Gl X "range")(F:X.mg "range" = none)(I:QA X [a] q)(hs:starEach [a] X.env=[(false,eval a X.env)]:=by rfl):QI X tg (.Call (.Name "range" p) [a] [] pos) (zrN q):=#[zkt B F I.run hs]
def zqn:QTs X [] zk2:=#[zp2]
def zkH (h:QT X c t):QTs X [c] t:=#[zp3 h.run]
def zqa(B:X.calm=true)(c:CompOk X scope N BD)(hi:QI X tg iter wi)(F:∀C s H ex,QG (zW X scope N C s H ex) tg g)(J:∀C s H ex,QTs (zW X scope N C s H ex) ifs ti)(O:∀C s H ex,QE (zW X scope N C s H ex) elt te)(hs:∀x,foldedSetIterable iter X.env x=pure x:=by intro _;rfl):QE X (.ListComp elt [#[tg,iter,ifs,0]] scope pos) (zv5 wi g ti te BD):=#[λBB s G H Q I h=>by
 rw[eval_ListComp];show zfk (Fin:=λacc H=>Q (.ref acc) H) (zcq c) B hi.run (zlM λC s H ex=>(F C s H ex).run) (zlM λC s H ex=>(J C s H ex).run) (zlM λC s H ex=>(O C s H ex).run) hs I h λ_ _ _ _ _ U Y q=>zg8 U Y q]
end
section
variable {X:Cx}{st:Stmt}{BE body a b:List Stmt}{t u:TS}{e o i:Expr}{te td ty tv:TE}{pos:Pos}
def zcw:QSs X [] zqP:=#[zkz]
def yi (h1:QS X st t)(h2:QSs X BE u):QSs X (st::BE) (zqS t u):=#[zaV h1.run h2.run]
def xy (h1:QS X st t):QSs X [st] t:=#[zeh h1.run]
def zgB (q:QE X e te)(hs:swapsWith e none pos.line X.env=pure false:=by rfl):QS X (.Expr e pos) (zqN te):=#[zp0 q.run hs]
def u5 (q:QE X e te):QS X (.Return (some e) pos) (ztz te):=#[znU q.run]
def zkG(q:QT X c tc)(B:QSs X a t)(F:QSs X b u):QS X (.If c a b pos) (zv7 tc t u):=#[zsO q.run B.run F.run]
def u6 {i:Nat}{x:Str}{pos':Pos}(q:X.N.Nodup)(hi:X.N[i]?=some x)(B:Loc X.env.scope x)(F:QE X e te)(hs:swapsWith e (some (.Name x pos')) pos.line X.env=pure false:=by rfl)(I:X.fn x=true\/X.env.scope.names.lookup x=some .local:=by fail"l") :
  QS X (.Assign [.Name x pos'] e pos) (ziK te (zbA i)):=#[zsQ q hi B F.run hs I]
def zkF(q:QE X e te)(B:QG X tg g)(hs:swapsWithSole [tg] e pos.line X.env=pure false:=by rfl)(F:swappedStores [tg] e X.env=pure none:=by rfl)(h1:(assignEach [tg] X.env).map (·.2)=[assign tg X.env]:=by rfl):QS X (.Assign [tg] e pos) (ziK te g):=#[zsL q.run B.run hs F h1]
def zem(q:X.A.units+1<cLine)(B:QE X o td)(hi:QE X i ty)(F:QE X e tv)(hs:swapsWith e (some (.Subscript o i pos')) pos.line X.env=pure false):QS X (.Assign [.Subscript o i pos'] e pos) (zqB td ty tv):=#[zky q B.run hi.run F.run hs]
def znZ(q:PassesOwn (model X.prog X.w) X.A X.env X.xe)(B:X.calm=true)(hi:QI X tg iter wi)(F:QG X tg g)(I:QSs X body t)(hs:∀x,foldedSetIterable iter X.env x=pure x:=by intro _;rfl):QS X (.For tg iter body [] pos) (zv6 wi g t):=#[zsN q B hi.run F.run I.run hs]
end
def Fun.okQ{P:Aa}{w:Ab}{K:AH}{mg:AI}{base:Heap}{x B:Str}{st:Stmt}{f:Addr}{fd:Ac}{N ps:AM}{sp:Sp}(F:Fun K x B st f fd)(S:FnScope N ps (zd st))(O:∀vs H Q E,sp vs H Q E->vs.length=ps.length)(J:∀ (I:Value) (A:Ae) (q:List Env) (s:AZ) (H:Hp) (vs:AT) (Q:VK) (E:XK),Room k (A.deeper (envOfC B (zd st) s.heap.objs.size f I))->sp vs H Q E->
   ∃t,QSs (zeG CX0 P w K mg base N B (zd st) f I A q s H E).nox (zB st) t/\t { nx:=λ_ H'=>Q .non H',rt:=Q } (xB N vs) H):FnOk P w K mg base CX0 (k+1) f fd ps sp:=
 F.ok S O λI A q s H vs Q E U h=>by obtain⟨t,h1,h2⟩:=J I A q s H vs Q E U h;show#[t,h1.run,h2]
def s_ca:¬ (("script" : Str) = "at"):=by decide +kernel
def s_cl:¬ (("script" : Str) = "left"):=by decide +kernel
def s_al:¬ (("at" : Str) = "left"):=by decide +kernel
def zvh:¬ (Sum.inr "script" : Key)=(Sum.inr "at" : Key):=λz=>s_ca (Sum.inr.inj z)
def zvi:¬ (Sum.inr "script" : Key)=(Sum.inr "left" : Key):=λz=>s_cl (Sum.inr.inj z)
def zub:¬ (Sum.inr "at" : Key)=(Sum.inr "left" : Key):=λz=>s_al (Sum.inr.inj z)
def zaU (c:Addr)(a l:Int):List (Key×V):=[(Sum.inr "script",.ref c),(Sum.inr "at",.int a),(Sum.inr "left",.int l)]
def zvQ (c:Addr)(a l:Int):xK (zaU c a l) (Sum.inr "script" : Key)=some (.ref c):=z8 BA
def zpR (c:Addr)(a l:Int):xK (zaU c a l) (Sum.inr "at" : Key)=some (.int a):=by unfold zaU;rw[z7 zvh,z8 rfl]
def zvR (c:Addr)(a l:Int):xK (zaU c a l) (Sum.inr "left" : Key)=some (.int l):=by unfold zaU;rw[z7 zvi,z7 zub,z8 rfl]
def zsF (c:Addr)(a l b:Int):uZ (zaU c a l) (Sum.inr "at" : Key) (.int b)=zaU c b l:=by unfold uZ zaU;have q:=zvh;have B:¬ (Sum.inr "left" : Key)=(Sum.inr "at" : Key):=λz=>zub z.symm;simp[q,B]
def zsG (c:Addr)(a l b:Int):uZ (zaU c a l) (Sum.inr "left" : Key) (.int b)=zaU c a b:=by unfold uZ zaU;have q:=zvi;have B:=zub;simp[q,B]
def zsE (c:Addr)(a l:Int):zch [] (zaU c a l)=zaU c a l:=by unfold zch zaU;have q:=zvh;have B:=zvi;have F:=zub;simp[uZ,q,B,F]
def PLs (H:Hp)(c:Addr)(ns:AG):Prop:=(∃r,ns=0::r/\∃ob,H c=some (.frz ob (.lst (r.map V.int))))\/∃r,ns=1::r
def PLs.but{ns:AG}(P:PLs H c ns)(h:∀r ob,ns=0::r->H c=some (.frz ob (.lst (r.map V.int)))->H' c=some (.frz ob (.lst (r.map V.int)))):PLs H' c ns:=by
 rcases P with ⟨r,e,o,z⟩ | P;show .inl #[r,e,o,h r o e z];show .inr P
def PLs.same{ns:AG}(P:PLs H c ns)(h:yZ H H'):PLs H' c ns:=P.but λ_ _ _ e=>h _ _ e
def PLs.upd{ns:AG}(P:PLs H c ns)(h:∀r,ns=0::r->c≠b):PLs (upd H b u) c ns:=P.but λr _ e z=>by rw[zf (h r e)];show z
def KL (K:AH)(c:Addr)(ns:AG):Prop:=∃r,ns=0::r\/(ns=1::r/\∃ (o:Obj) (q:AK) (n:Nat),K.lookup c=some o/\o.cls = .type "list" /\ o.dict=none/\o.data = .seq q n/\q.size<=sizeLine/\yb (r.map V.int) q.toList)
def KL.seq {K:AH}{H:Hp}{c:Addr}{ns:AG}(k:KL K c ns)(P:PLs H c ns):∃r:AG,SqL K H c (r.map V.int):=by
 obtain⟨r,e | ⟨e,k⟩⟩:=k;rcases P with ⟨r',e',z⟩ | ⟨r',e'⟩;rw[e] at e';cases e';show#[r,.inl (.inr z)];rw[e] at e';cases e';show#[r,.inr k]
structure Pen (H:Hp)(p c:Addr)(ns:AG)(n:Nat):Prop where
 ob:∃a l:Int,H p=some (.dK (zaU c a l))/\0<=a/\a<=n/\0<=l
 ls:PLs H c ns
 len:ns.length<=64
def Pen.same{ns:AG}(P:Pen H p c ns n)(h:yZ H H'):Pen H' p c ns n:=by obtain⟨⟨a,l,h1,h2,q,B⟩,F,I⟩:=P;show#[#[a,l,h _ _ h1,h2,q,B],F.same h,I]
def zew{a l:Int}(h:H p=some (.dK (zaU c a l))):zA H (upd H p o):=λb u e n=>by
 by_cases q:b=p;subst q;rw[h] at e;cases e;have:=n _ BA;rw[zpR] at this;cases this;rw[zf q];show e
section
variable {H:Hp}{p c:Addr}{a l:Int}
def zhx (h:H p=some (.dK (zaU c a l))):zbv H p (.str "script") (some (.ref c)):=by have:=zbv.k (k:=(Sum.inr "script" : Key)) h;rw[zvQ] at this;show this
def zsD (h:H p=some (.dK (zaU c a l))):zbv H p (.str "at") (some (.int a)):=by have:=zbv.k (k:=(Sum.inr "at" : Key)) h;rw[zpR] at this;show this
def zkr (h:H p=some (.dK (zaU c a l))):zbv H p (.str "left") (some (.int l)):=by have:=zbv.k (k:=(Sum.inr "left" : Key)) h;rw[zvR] at this;show this
def zsH (h:H p=some (.dK (zaU c a l)))(b:Int):zeE H p (.str "at") (.int b) (upd H p (.dK (zaU c b l))):=by have:=zeE.k (k:=(Sum.inr "at" : Key)) (v:=.int b) h (by change 3<sizeLine;decide);rw[zsF] at this;show this
def znT (h:H p=some (.dK (zaU c a l)))(b:Int):zeE H p (.str "left") (.int b) (upd H p (.dK (zaU c a b))):=by have:=zeE.k (k:=(Sum.inr "left" : Key)) (v:=.int b) h (by change 3<sizeLine;decide);rw[zsG] at this;show this
end
def zrk (ns:AG)(a:Int)(h:0<((ns.map V.int).length:Int)):∃z,atI (ns.map V.int) (a % ((ns.map V.int).length:Int))=some (.int z):=by
 have q:=cS a (show ((ns.map V.int).length:Int)≠0 by lia);have h1:=ci a h;generalize F:a % ((ns.map V.int).length:Int)=m at q h1;obtain⟨j,rfl⟩:∃j:Nat,m=j:=#[m.toNat,by lia];have B:j<ns.length:=by rw[ab] at h1;lia
 show#[ns[j],ziR (by simp[B])]
def meet {α:Type}{BF:Prop}(P:α->Prop)(h:(∀a,P a)->BF)(r:∀a,P a):BF:=h r
def zvB {BF:Prop}(P:Prop)(h:P->BF)(r:P):BF:=h r
def zob (K:AH):Sp:=λvs H Q _=>∃ (p c:Addr) (ns:AG) (n:Nat) (zQ:Int),vs=[.ref p,.int zQ]/\KL K c ns/\Pen H p c ns n/\n<=1000000/\1<=zQ/\zQ<1073741824/\
 ∀ (r:Int) (H':Hp),0<=r->r<zQ->Pen H' p c ns (n+1)->zA H H'->Q (.int r) H'
def zm7 (K:AH):Sp:=λvs H Q _=>∃ (a:Addr) (ns:AG),vs=[.ref a]/\KL K a ns/\PLs H a ns/\ns.length<=64/\∀ (p:Addr) (H':Hp),Pen H' p a ns 0->yZ H H'->Q (.ref p) H'
def zY (ns:AG):Int:=ns.foldl (· * ·) 1
def yR (ns:AG)(n:Int):zY (ns++[n])=zY ns * n:=by unfold zY;rw[List.foldl_append];rfl
def zr{α:Type}{l:List α}{x:α}(h:l[i]?=some x):l.take (i+1)=l.take i++[x]:=by rw[List.take_succ,h];rfl
def Dt.inBox:Dt->Bool
 | .int i=>decide (2<=i)&&decide (i<=4)
 | _=>false
def Dt.val:Dt->Int
 | .int i=>i
 | _=>0
theorem uB:∀ (ns:AG),(ns.map Dt.int).map Dt.val=ns
 | []=>rfl
 | n::ns=>by simp only[aB,uB ns];rfl
def zix (K:AH):Sp:=λvs H Q _=>∃ (a:Addr) (ns:AG),vs=[.ref a]/\KL K a ns/\PLs H a ns/\ns.length<=64/\∀H',Q (.bl true) H'
def zm6{K:AH}{H:Hp}{a:Addr}{ns:AG}{Q:VK}(I:zt5 H)(B:SqL K H a (ns.map V.int))(F:ns.length<=63)(q:∀H',Q (.bl true) H'):zix K [.ref a] H Q E:=by
 rcases B with B | B
 ·show#[a,0::ns,BA,#[ns,.inl BA],.inl #[ns,BA,?_],dR F,q];rcases B with z | z
  ·rcases I a with y | ⟨_,_,y⟩ <;> (rw[z] at y;cases y)
  show z
 show#[a,1::ns,BA,#[ns,.inr #[BA,B]],.inr #[ns,BA],dR F,q]
section
variable {prog:Aa}{w:Ab}{A:Ae}{E:AA}{s:AZ}
def yQ{items}(q:s.heap.IsTupleIter B t i)(U:s.heap.IsTuple t items)(Y:items[i]?=some x)(Z:∀h',h'.IsTupleIter B t (i+1)->Heap.SameBut B s.heap h'->Q x { s with heap:=h' }):Ag prog w A (Builtin.SmallTypes.nextOf (.ref B)) Q E s:=by
 obtain⟨o,I,hc,F⟩:=id q;obtain⟨ol,J,_,nl,O⟩:=U;unfold Builtin.SmallTypes.nextOf
 show aa (wpAny_callSpecial?_slot (name:=Str.ofString "__next__") q.typeIs cU
  (aZ cU q.typeIs fJ ?_ (fD _)))
 change wpAny _ _ (field (.ref B) 0 >>= _) _ _ s;show aa (b7 I F (x:=.ref t) BA ?_);change wpAny _ _ (if (Value.ref t==Value.none)=true then _ else _) _ _ s;rw[if_neg (by grind)];change wpAny _ _ (field (.ref B) 1 >>= _) _ _ s;show aa (b7 I F (x:=.int i 0) BA ?_);change wpAny _ _ (seqItems? (.ref t) >>= _) _ _ s;show aa (cN J O ?_);simp only[aS,Y];show aa (bT I F (by simp) (af #[x,BA,af (Z _ ?_ (bz ..))]))
 show#[_,bF _ I (dD (cj F _)),(eK ..).trans hc,by
  rw[cj F];simp[rawInt]]
def y9{items}(U:A.handled=none)(q:s.heap.IsTupleIter B t i)(Y:s.heap.IsTuple t items)(Z:items[i]?=none)(hE:∀h' e,Heap.ExtBut B s.heap h'->(∃o,h'.get? e=some o/\o.cls = .type "StopIteration")->E (.ref e) { s with heap:=h' }):Ag prog w A (Builtin.SmallTypes.nextOf (.ref B)) Q E s:=by
 obtain⟨o,F,hc,I⟩:=id q;obtain⟨ol,J,_,nl,O⟩:=Y;unfold Builtin.SmallTypes.nextOf
 show aa (wpAny_callSpecial?_slot (name:=Str.ofString "__next__") q.typeIs cU
  (aZ cU q.typeIs fJ ?_ (fD _)))
 change wpAny _ _ (field (.ref B) 0 >>= _) _ _ s;show aa (b7 F I (x:=.ref t) BA ?_);change wpAny _ _ (if (Value.ref t==Value.none)=true then _ else _) _ _ s;rw[if_neg (by grind)];change wpAny _ _ (field (.ref B) 1 >>= _) _ _ s;show aa (b7 F I (x:=.int i 0) BA ?_);change wpAny _ _ (seqItems? (.ref t) >>= _) _ _ s;show aa (cN J O ?_);simp only[aS,Z];show aa (dg (aa (bT F I (by simp) ?_)));change wpAny _ _ (newExc (.type "StopIteration") [] >>= _) _ _ _;show aa ?_;simp only[newExc,newTuple];show aa (bC ?_ (by size_fits));show aa (m:=firstArgMember _ _) (gn (a:=Value.none) (by first | rfl | (simp only[firstArgMember];rfl)) ?_);show bC ?_ (by size_fits);simp only[raiseNew];show aa (gq ?_)
 first | rw[show A.in1.handled=none from U] | rw[U]
 show aa (af (wpAny_throw ?_));show hE _ _ (((bz ..).extBut.push _).push _) #[_,ar _ BA,BA]
def zga (O:A.handled=none)(q l:Addr)(I:l≠q)(items:AK) :
  Draws prog w A q [q,l] items.size (λi v=>items[i]?=some v) (λi h=>h.IsTupleIter q l i/\h.IsTuple l items) where
 live:=λ_ _ st=>let ⟨o,ho,_⟩:=st.1;#[o,ho]
 frame:=λ_ _ _ st J=>#[let ⟨o,ho,r⟩:=st.1;#[o,J q (by simp) o ho,r],let ⟨o,ho,r⟩:=st.2;#[o,J l (by simp) o ho,r]]
 item:=λi s Q E hi st U=>by show yQ st.1 st.2 (x:=items[i]) (by simp[hi]) λh' B F=>?_;show U _ h' s.toks (by simp[hi]) #[B,st.2.extBut F.extBut I] F
 done:=λs Q E st Y=>y9 O st.1 st.2 (by simp) Y
def zap (l:Addr)(items:AK)(n:Nat)(B:Option Addr)(J:Array AJ) :
  Meets (Builtin.«enumerate.__new__» #[[.type "enumerate",.ref l],[]]) (λ_ R s=>s.heap.get? l=some { cls:=.type "tuple",dict:=B,data:=.seq items n,slots:=J }/\
   R (.ok (.ret (.ref (s.heap.push { cls:=.type "tuple_iterator",data:=.fields #v[.ref l,.int 0 0] }).objs.size)))
    { s with heap:=(s.heap.push { cls:=.type "tuple_iterator",data:=.fields #v[.ref l,.int 0 0] }).push { cls:=.type "enumerate",data:=.fields #v[.none,.bool false,.ref s.heap.objs.size,rawInt 0,.none,.none] } }):=
 .of_wp λprog w A R s h=>by
  obtain⟨O,g,d,tk,U⟩:=s;obtain⟨q,h⟩:=h;have I:=sub_enumerate;have F:Heap.IsTuple (Shared.heap #[O,g,d,tk,U]) l items:=#[_,q,BA,n,BA]
  wp_walk using di q
  show wpAny_stack_any λst=>af ?_;split
  ·rename_i c _ _ _ _ _;cases (c==Value.type "enumerate")
   wp_walk using di q,c9 F
   show#[_,BA,h]
   wp_walk using di q,c9 F
   show#[_,BA,h]
  wp_walk using di q,c9 F
  show#[_,BA,h]
def zan(Y:s.heap.IsTuple l items)(h:∀h',IsEnum h' (s.heap.objs.size+1) s.heap.objs.size 0 .none->h'.IsTupleIter s.heap.objs.size l 0->h'.objs.size=s.heap.objs.size+2->
   (∀b o,s.heap.get? b=some o->h'.get? b=some o)->Q (.ref (s.heap.objs.size+1)) { s with heap:=h' }) :
  Ag prog w A (call (.type "enumerate") [.ref l]) Q E s:=by
 obtain⟨⟨c,q,Z,sl⟩,hl,B,n,I⟩:=Y
 replace B:c = .type "tuple" := B
 replace I:Z = .seq items n:=I
 subst B I
 show callType_new F.called_enumerate (by ext) (F.typeCall_enumerate_1 _) (F.newCall_enumerate_1 _) (λJ=>F.args_object_init_2 J _) F.entry_enumerate_new
  (zap l items n q sl) #[hl,?_]
 have O:(s.heap.push { cls:=.type "tuple_iterator",data:=.fields #v[.ref l,.int 0 0] }).objs.size=s.heap.objs.size+1:=bS ..;change _/\_;rw[O]
 have U:IsEnum ((s.heap.push { cls:=.type "tuple_iterator",data:=.fields #v[.ref l,.int 0 0] }).push
   { cls:=.type "enumerate",data:=.fields #v[.none,.bool false,.ref s.heap.objs.size,rawInt 0,.none,.none] }) (s.heap.objs.size+1) s.heap.objs.size 0 .none:=by
  have:=ar (s.heap.push { cls:=.type "tuple_iterator",data:=.fields #v[.ref l,.int 0 0] })
   (o:={ cls:=.type "enumerate",data:=.fields #v[.none,.bool false,.ref s.heap.objs.size,rawInt 0,.none,.none] }) BA
  rw[O] at this;show this
 show#[#[_,U,BA],h _ U #[_,ae _ (ar _ BA),BA,BA] (by simp) λb o x=>ae _ (ae _ x)]
end
def Ite (K:AH)(a:Addr):It:=
 #[λi H=>∃xs x,SqT K H a xs/\xs[i]?=some x,λi H v H'=>∃T x,v = .ref T/\H T=none/\H'=upd H T (.tup [.int i,x])/\∀xs,SqT K H a xs->xs[i]?=some x,λi H=>∃xs,SqT K H a xs/\xs.length<=i]
def zk6{P:Aa}{w:Ab}{K:AH}{ap:AO}{x1}(a O e:Addr)(ad:e≠O) :
  Turn P w K (.Tuple ap x1 tpos) (Ite K a) [e,O] e (λi h=>(∃Y,IsEnum h e O i Y)/\h.IsTupleIter O a i) where
 mem:=by simp
 obj:=λi h st b J=>by
  rcases aA.mp J with rfl | J;grind;rw[aq.mp J];obtain⟨_,o,e,c,d⟩:=st;right
 keep:=λi h h' st k=>by obtain⟨⟨Y,he⟩,o,ho,r⟩:=st;show#[#[Y,k e (by simp) _ he],o,k O (by simp) _ ho,r]
 item:=by
  intro X hP hw hK hc i BB s G H E I hf st hg;subst hP hw hK;obtain⟨xs,x,hq,hx⟩:=hg;obtain⟨al,rv,p,hz⟩:=I.tuple hq;obtain⟨u,hu,ru⟩:=rv.get hx;obtain⟨f0,f1,f2,f3,f4,f5⟩:=hf e (by simp);obtain⟨g0,g1,g2,g3,g4,g5⟩:=hf O (by simp);obtain⟨⟨Y,he⟩,Z⟩:=st;have hsz:i<al.toArray.size:=by have:=(ah.mp hu).1;simpa using this
  have a5:a≠O:=by
   intro z;obtain⟨o,ho,a7,_⟩:=p;obtain⟨o',b1,bs,_⟩:=Z;grind
  have ba:e≠a:=by
   intro z;obtain⟨o,ho,a7,_⟩:=p;grind
  show wpAny_pyNext_enum_itemD (zga (A:=X.A.in1) (I.ok.hd hc) O a a5 al.toArray) he #[Z,p] hsz ad (by simp[ad,ba]) λy h' tk hy ho as hT bx hk=>?_;have bb:y=u:=by right
  subst bb;show#[_,BA,?_];show wpAny_letOwnedTupleGo_enum ho λac ag U=>?_;have a0:s.heap.objs.size≠e:=dY (ax he);have bc:s.heap.objs.size≠O:=by obtain⟨o,a1,_⟩:=Z;show dY (ax a1)
  have B:=I.hok.fresh (ai s.heap.objs.size);have kp:∀b o,b≠e->b≠O->s.heap.get? b=some o->ac.get? b=some o:=λb o h1 h2 J=>(U.2 b h1).trans (hk b o h1 h2 J);have a2:ac.get? s.heap.objs.size=some { cls:=.type "tuple",data:=.seq #v[.int i tk,y] }:=(U.2 _ a0).trans hT;obtain⟨oe,b2⟩:∃o,ac.get? e=some o:=#[_,ag];obtain⟨oi,a1⟩:∃o,ac.get? O=some o:=by obtain⟨⟨o,an,_⟩,_⟩:=as;show#[o,(U.2 O (Ne.symm ad)).trans an]
  have b0:∀b u',H b=some u'->b≠e/\b≠O:=λb u' J=>#[zc J f0,zc J g0]
  have a3:HOk X.prog X.w (upd H s.heap.objs.size (.tup [.int i,x])) ac:=by
   intro b u' J;by_cases a4:b=s.heap.objs.size;subst a4;rw[zh] at J;cases J;show#[by change 2<=sizeLine;decide,[.int i tk,y],.cons #[tk,BA] (.cons ru .nil),_,a2,BA,#[0,BA],BA]
   ·rw[zf a4] at J;show (I.hok b u' J).stay (λc v b3 q=>?_) (λc q=>?_) (λc ys q=>?_)
    ·show kp c v ?_ ?_ q
     all_goals grind
    rw[zf (zc q B)];show q;rw[zf (zc q B)];show q
  have I1:Inv X BB G (upd H s.heap.objs.size (.tup [.int i,x])) { s with heap:=ac,toks:=tk+1 }:=by
   show Inv.step (ch:=[e,O]) (g':=s.gens) (d':=s.drawn) (t':=tk+1) I (λb J=>?_) (λb o h1 h2 h3 h4 h5=>?_) (λb o h1 h2 h3 h4 h5=>?_) (λb o h3 h4 h5=>?_) (λb o h3 h4=>?_) (λb ys q=>?_) (λb o u' q=>?_) (λb ps q=>?_) (λm hm=>?_) a3 I.bare;rcases aA.mp J with rfl | J;show#[f3,f1,f4,f5];rw[aq.mp J];show#[g3,g1,g4,g5];right;show#[o.slots,kp b o (λz=>h3 (by simp[z])) (λz=>h3 (by simp[z])) h4];rw[zf (aQ (ax h4))];show h5;right;rw[zf (zc q B)];show q;rw[zf (zc q B)];show q;show#[#v[],by rw[zf (zc q B),et];show q];obtain⟨o,es,ep,bd,r1⟩:=hm;show#[o,es,ep,kp _ o (Ne.symm f1) (Ne.symm g1) bd,r1]
  show#[.ref s.heap.objs.size,_,I1,BA,#[s.heap.objs.size,x,BA,B,BA,λys be=>by rw[I.tuple_inj be hq];show hx],#[#[y,by have:=ag;push_cast;show this],?_],λb J=>?_];obtain⟨⟨o,an,r2⟩,_⟩:=as;show#[o,(U.2 O (Ne.symm ad)).trans an,r2];rcases aA.mp J with rfl | J;rw[zf (Ne.symm a0)];show f0;rw[aq.mp J,zf (Ne.symm bc)];show g0
 done:=by
  intro X hP hw hK hc i BB s G H E I hf st hg;subst hP hw hK;obtain⟨xs,hq,hx⟩:=hg;obtain⟨al,rv,p,hz⟩:=I.tuple hq;obtain⟨f0,f1,f2,f3,f4,f5⟩:=hf O (by simp);obtain⟨⟨Y,he⟩,Z⟩:=st;have hl:=rv.length;have hT:s.TypeIs (.ref e) "enumerate" := #[_,he,BA];unfold pyNext
  show aa (cL (wpAny_callSpecial?_slot (name:=Str.ofString "__next__") hT F.slot_enumerate_next
   (aZ F.slot_enumerate_next hT F.entry_enumerate_next ?_ (F.args_enumerate_next_1 _))))
  change wpAny _ _ (field (.ref e) 2 >>= _) _ _ _;show aa (b7 he BA (x:=.ref O) BA ?_);show aa (y9 (A:=X.A.in1) (I.ok.hd hc) Z p (by simp;lia) λh' x bk bl=>?_);obtain⟨o,ho,bo⟩:=bl;show aa (cY (T := "StopIteration") (b:=true) #[o,ho,bo] dM ?_);show af #[BA,I.turned (t':=s.toks) (λb o J e=>bk b o J e) f0 f1 f3 f4 f5]
 self:=λA i s Q E st h=>by obtain⟨⟨Y,he⟩,Z⟩:=st;show wpAny_pyIter_enum he h
def zrM (K:AH)(ta:TA):TI:=λG H R=>ta G H λvs H1=>∃a,vs=[.ref a]/\(∃xs,SqT K H1 a xs)/\R (Ite K a) H1
def zpU{x1}(Z:Gl X "enumerate")(hm:X.mg "enumerate" = none)(ha:PA X [a] ta)(hs:starEach [a] X.env=[(false,eval a X.env)]:=by rfl) :
  PI X (.Tuple F x1 tpos) (.Call (.Name "enumerate" p) [a] [] pos) (zrM X.K ta):=by
 intro BB s G H R I h;show Call_ (zca I Z hm boot_enumerate (cg (thn (ha pos BB s G H _ I h) λus B ⟨vs,H1,I1,r1,q1⟩=>?_) hs BA));obtain⟨b,rfl,⟨xs,hq⟩,q⟩:=q1;obtain⟨u,rfl,ru⟩:=zbI r1;cases ru;obtain⟨J,rv,pt,hz⟩:=I1.tuple hq;show zan (show B.heap.IsTuple b J.toArray from pt) λh' Y O hsz hk=>?_;have I2:Inv X BB G H1 { B with heap:=h',toks:=B.toks }:=I1.kept (t':=B.toks) hk;show wpAny_pyIter_enum Y ?_;show#[B.heap.objs.size+1,[B.heap.objs.size+1,B.heap.objs.size],_,_,H1,BA,I2,zk6 b B.heap.objs.size (B.heap.objs.size+1) (Nat.succ_ne_self _),#[#[_,Y],O],λc U=>?_,q];rcases aA.mp U with rfl | U;show I1.fpOk (eJ _) (I1.hok.fresh (eJ _));rw[aq.mp U];show I1.fpOk (ai _) (I1.hok.fresh (ai _))
def zqg{x1}(B:Gl X "enumerate")(F:X.mg "enumerate" = none)(I:QA X [a] ta)(hs:starEach [a] X.env=[(false,eval a X.env)]:=by rfl) :
  QI X (.Tuple q x1 tpos) (.Call (.Name "enumerate" p) [a] [] pos) (zrM X.K ta):=#[zpU B F I.run hs]
mutual
def Dt.toW:Dt->PySem.W.Dat
 | .non=>.none
 | .bl b=>.bool b
 | .int i=>.int i
 | .str x=>.str x
 | .tup l=>.tuple (Dt.toWs l)
 | .lst l=>.list (Dt.toWs l)
 | .dct=>.bytes #v[]
def Dt.toWs:AS->List PySem.W.Dat
 | []=>[]
 | d::ds=>d.toW::Dt.toWs ds
end
mutual
theorem zgQ:∀ {d e:Dt},d.toW=e.toW->d=e
 | .non,e,h=>by cases e <;> simp[Dt.toW] at h ⊢
 | .bl b,e,h=>by cases e <;> simp[Dt.toW] at h ⊢;show h
 | .int b,e,h=>by cases e <;> simp[Dt.toW] at h ⊢;show h
 | .str b,e,h=>by cases e <;> simp[Dt.toW] at h ⊢;show h
 | .tup l,e,h=>by
  cases e with
  | tup m=>simp only[Dt.toW,PySem.W.Dat.tuple.injEq] at h;rw[zeA h]
  | _=>simp[Dt.toW] at h
 | .lst l,e,h=>by
  cases e with
  | lst m=>simp only[Dt.toW,PySem.W.Dat.list.injEq] at h;rw[zeA h]
  | _=>simp[Dt.toW] at h
 | .dct,e,h=>by cases e <;> simp[Dt.toW] at h ⊢
theorem zeA:∀ {l m:AS},Dt.toWs l=Dt.toWs m->l=m
 | [],m,h=>by cases m <;> simp[Dt.toWs] at h ⊢
 | d::l,m,h=>by
  cases m with
  | nil=>simp[Dt.toWs] at h
  | cons e m=>
   simp only[Dt.toWs,List.cons.injEq] at h;rw[zgQ h.1,zeA h.2]
end
def Dt.eqOk (d:Dt):Prop:=PySem.W.kqdOk 8 d.toW=true
section
variable {P:Aa}{w:Ab}{H:Hp}{h:Heap}
mutual
theorem xc (ok:HOk P w H h):∀ (n:Nat) {d:Dt} {v:V} {u:Value},Is H d v->yo v u->PySem.W.kqdOk n d.toW=true->∃as,Reads h u (PySem.W.kqdP d.toW) as
 | _,.non,_,_,h1,r,_=>by cases h1;cases r;show#[_,Reads.none]
 | n,.bl b,_,_,_,_,k=>by cases n <;> simp[Dt.toW,PySem.W.kqdOk] at k
 | _,.int i,_,_,h1,r,_=>by cases h1;obtain⟨t,rfl⟩:=r;show#[_,Reads.int i t]
 | _,.str x,_,_,h1,r,_=>by cases h1;obtain⟨t,rfl⟩:=r;show#[_,Reads.str x t]
 | 0,.tup l,_,_,_,_,k=>by simp[Dt.toW,PySem.W.kqdOk] at k
 | n+1,.tup l,_,_,h1,r,k=>by obtain⟨a,xs,rfl,ha,hl⟩:=h1;cases r;obtain⟨_,its,rv,o,ho,hc,⟨m,hd⟩,_⟩:=ok a _ ha;obtain⟨as,q⟩:=uk ok n hl rv (by simpa [Dt.toW,PySem.W.kqdOk] using k);show#[as,reads_tuple_at ho hc hd (by simpa using q)]
 | 0,.lst l,_,_,_,_,k=>by simp[Dt.toW,PySem.W.kqdOk] at k
 | n+1,.lst l,_,_,h1,r,k=>by obtain⟨a,xs,rfl,ha,hl⟩:=h1;cases r;obtain⟨_,its,m,rv,e⟩:=ok a _ ha;obtain⟨as,q⟩:=uk ok n hl rv (by simpa [Dt.toW,PySem.W.kqdOk] using k);show#[_,reads_list_at e BA BA (by simpa using q)]
 | n,.dct,_,_,_,_,k=>by cases n <;> simp[Dt.toW,PySem.W.kqdOk] at k
theorem uk (ok:HOk P w H h):∀ (n:Nat) {ds:AS} {xs:AT} {us:AN},IsL H ds xs->yb xs us->(∀d∈Dt.toWs ds,PySem.W.kqdOk n d=true)->∃as,ReadsAll h us (PySem.W.kqdPs (Dt.toWs ds)) as
 | _,[],_,_,h1,r,_=>by cases h1;cases r;show#[_,ReadsAll.nil]
 | n,d::ds,_,_,h1,r,k=>by
  obtain⟨x,xr,rfl,hd,hr⟩:=h1
  cases r with
  | cons rx rr=>
   obtain⟨as,q⟩:=xc ok n hd rx (k _ (by simp[Dt.toWs]));obtain⟨bs,q2⟩:=uk ok n hr rr λe he=>k e (by simp[Dt.toWs,he]);show#[_,ReadsAll.cons q q2]
end
end
def ui {d:Dt}(h:d.eqOk):SeqAt.shaped (PySem.W.kqdP d.toW)=true:=by
 have l:=PySem.W.kqd_lay 8 _ h;unfold SeqAt.shaped;grind
def zul:R2:=λx y H Q=>∃d e,Is H d x/\Is H e y/\d.eqOk/\e.eqOk/\∀b:Bool,(b=true↔d=e)->Q (.bl b) H
def zun:R2:=λx y H Q=>∃d e,Is H d x/\Is H e y/\d.eqOk/\e.eqOk/\∀b:Bool,(b=true↔d=e)->Q (.bl (!b)) H
section
variable {X:Cx}
def zji {d e:Dt}(h1:d.eqOk)(h2:e.eqOk):PyData.eqv (PySem.W.kqdP d.toW) (PySem.W.kqdP e.toW)=true↔d=e:=
 (PySem.W.kqd_eqv 8 d.toW e.toW 8 h1 h2).trans #[zgQ,λz=>by rw[z]]
def zsj (F:X.A.units+64<cLine):OpR X (compareOp .Eq) zul:=by intro BB s G H x y v u Q I J O h;obtain⟨d,e,U,Y,B,ke,q⟩:=h;obtain⟨as,ra⟩:=xc I.hok 8 U J B;obtain⟨Z,rb⟩:=xc I.hok 8 Y O ke;show eq_dataH ra rb (ui B) (ui ke) F #[.bl _,H,I,BA,q _ (zji B ke)]
def zsm (F:X.A.units+64<cLine):OpR X (compareOp .NotEq) zun:=by intro BB s G H x y v u Q I J O h;obtain⟨d,e,U,Y,B,ke,q⟩:=h;obtain⟨as,ra⟩:=xc I.hok 8 U J B;obtain⟨Z,rb⟩:=xc I.hok 8 Y O ke;show ne_dataH ra rb (ui B) (ui ke) F #[.bl _,H,I,BA,q _ (zji B ke)]
def zhu (q:X.A.units+64<cLine):OpQ X (compareOp .Eq) zul:=#[zsj q]
def znP (q:X.A.units+64<cLine):OpQ X (compareOp .NotEq) zun:=#[zsm q]
def zsW{to:TE}{t:TA}{apos cpos:Pos}(O:QE X o to)(U:QA X [e] t)(B:attributeBase o "append" X.env (eval o X.env)=eval o X.env:=by rfl)(J:((backTo cpos (starEach [e] X.env)).all (λx=>!x.1)&&(backToKw cpos (keywordEach [] X.env)).all (λx=>x.1.isSome)&&decide (([e]:AO).length+([]:List Keyword).length+(if ([]:List Keyword).isEmpty then 0 else 1)<30))=true:=by rfl)(I:(apos.endLine==cpos.line)=true:=by rfl)(hs:starEach [e] X.env=(false,eval e X.env)::starEach [] X.env:=by rfl)(q:(backTo cpos (starEach [] X.env)).any (·.1)=false:=by rfl) :
  QE X (.Call (.Attribute o "append" apos) [e] [] cpos) (tBM X.K "list" zgD to t):=#[zsw eu PySem.F.slot_list_append PySem.F.type_list_append zfl O.run U.run B J I hs q]
end
def ye {ns:AG}:(Dt.tup (ns.map .int)).eqOk:=by
 have e:∀ns:AG,(Dt.toWs (ns.map .int)).all (PySem.W.kqdOk 7)=true:=by
  intro ns
  induction ns with
  | nil=>rfl
  | cons n ns q=>simp only[aB,Dt.toWs,ek,q,fE];rfl
 show e ns
structure RoomAt (H:Hp)(ra:Addr)(rm:AG):Prop where
 at':H ra=some (.tup (rm.map V.int))
 ne:rm≠[]
 few:rm.length<=8
 box:∀r∈rm,2<=r/\r<=4
def RoomAt.stay{rm:AG}(h:RoomAt H ra rm)(s:zA H H'):RoomAt H' ra rm:=#[s.tup h.at',h.ne,h.few,h.box]
def zQ (rm:AG)(i:Int):Int:=rm.getD i.toNat 0
abbrev uu (q:Int×Int):Dt:=.tup [.int q.1,.int q.2]
structure Giv (rm:AG)(g:List (Int×Int)):Prop where
 ok:∀q∈g,0<=q.1/\q.1<rm.length/\0<=q.2/\q.2<zQ rm q.1
 up:g.Pairwise λa b=>a.1<b.1
def zfY (H H':Hp):Prop:=∀b xs,H b=some (.tup xs)->H' b=some (.tup xs)
mutual
def Dt.noL:Dt->Bool
 | .tup l=>Dt.noLs l
 | .lst _=>false
 | .dct=>false
 | _=>true
def Dt.noLs:AS->Bool
 | []=>true
 | d::ds=>d.noL&&Dt.noLs ds
end
mutual
theorem Is.stayT {H H1:Hp}(a:zfY H H1):∀ {d:Dt} {v:V},d.noL=true->Is H d v->Is H1 d v
 | .non,_,_,h=>h
 | .bl _,_,_,h=>h
 | .int _,_,_,h=>h
 | .str _,_,_,h=>h
 | .tup l,_,n,h=>by obtain⟨p,xs,e,hp,hl⟩:=h;show#[p,xs,e,a _ _ hp,IsL.stayT a (by simpa [Dt.noL] using n) hl]
 | .lst l,_,n,_=>by simp[Dt.noL] at n
 | .dct,_,n,_=>by simp[Dt.noL] at n
theorem IsL.stayT {H H1:Hp}(a:zfY H H1):∀ {ds:AS} {xs:AT},Dt.noLs ds=true->IsL H ds xs->IsL H1 ds xs
 | [],_,_,h=>h
 | d::ds,_,n,h=>by
  obtain⟨x,r,e,hd,hr⟩:=h;have n':d.noL=true/\Dt.noLs ds=true:=by simpa [Dt.noLs] using n
  show#[x,r,e,Is.stayT a n'.1 hd,IsL.stayT a n'.2 hr]
end
theorem zfm:∀g:List (Int×Int),Dt.noLs (g.map uu)=true
 | []=>rfl
 | q::g=>by change (Dt.noL (uu q)&&Dt.noLs (g.map uu))=true;rw[zfm g];rfl
def Giv.snoc {rm:AG}{g:List (Int×Int)}{i w:Int}(h:Giv rm g)(B:∀q∈g,q.1<i)(O:0<=i)(h1:i<rm.length)(h2:0<=w)(U:w<zQ rm i):Giv rm (g++[(i,w)]):=by
 show#[λq F=>?_,bu.mpr #[h.up,List.pairwise_singleton _ _,λa I b J=>?_]];rcases aF.mp F with z | z;show h.ok q z;right;rw[aq.mp J];show B a I
def New (H:Hp)(o:HO)(R:V->Hp->Prop):Prop:=∀ (p:Addr) (H':Hp),H p=none->H' p=some o->yZ H H'->R (.ref p) H'
def New.at(h:New H o R)(q:H p=none):R (.ref p) (upd H p o):=h p _ q zh (yZ.upd q)
def ztD (t:TA):TE:=λG H Q=>t G H λxs H1=>xs.length<=sizeLine/\New H1 (.tup xs) Q
def ztu (t:TA):TE:=λG H Q=>t G H λxs H1=>xs.length<=sizeLine/\New H1 (.lst xs) Q
section
variable {X:Cx}{es:AO}{t:TA}{pos:Pos}
def zpQ {x1}(h:PA X es t):PE X (.Tuple es x1 pos) (ztD t):=by intro BB s G H Q I F;show wpAny_Tuple_spliced (thn (h pos BB s G H _ I F) λus B ⟨xs,H1,I1,r,z,q⟩=>#[by rw[<- r.length];show z,?_]);have J:H1 B.heap.objs.size=none:=I1.hok.fresh (ai _);show#[.ref B.heap.objs.size,upd H1 B.heap.objs.size (.tup xs),I1.laid (t':=B.toks) (λb u e=>ae _ e) (ai _) ?_,BA,q.at J];show#[z,us,r,#[_,ar _ BA,BA,#[_,BA],BA]]
def zpL (h:PA X es t):PE X (.List es pos) (ztu t):=by intro BB s G H Q I F;show wpAny_List_spliced (thn (h pos BB s G H _ I F) λus B ⟨xs,H1,I1,r,z,q⟩=>#[by rw[<- r.length];show z,?_]);have J:H1 B.heap.objs.size=none:=I1.hok.fresh (ai _);show#[.ref B.heap.objs.size,upd H1 B.heap.objs.size (.lst xs),I1.laid (t':=B.toks) (λb u e=>ae _ e) (ai _) ?_,BA,q.at J];show#[z,us,0,r,ar _ BA]
def zej {x1}(h:QA X es t):QE X (.Tuple es x1 pos) (ztD t):=#[zpQ h.run]
def zqc (h:QA X es t):QE X (.List es pos) (ztu t):=#[zpL h.run]
def CallQ.weak(h:CallQ X f r)(k:∀xs H Q,q xs H Q->r xs H Q):CallQ X f q:=#[λBB s G H xs us Q I rr z=>h.run BB s G H xs us Q I rr (k _ _ _ z)]
def OpQ.weak(h:OpQ X f r)(k:∀x y H Q,q x y H Q->r x y H Q):OpQ X f q:=#[λBB s G H x y v u Q I B F z=>h.run BB s G H x y v u Q I B F (k _ _ _ _ z)]
def zkI (K:AH):AT->Hp->VK->Prop:=λxs H Q=>∃p ys,xs=[.ref p]/\(SqL K H p ys\/SqT K H p ys)/\New H (.lst ys) Q
def zgE (K:AH):AT->Hp->VK->Prop:=λxs H Q=>∃p ys,xs=[.ref p]/\((SqL K H p ys/\New H (.tup ys) Q)\/(SqT K H p ys/\Q (.ref p) H))
def zf3:CallQ X (.type "list") (zkI X.K):=zh0.weak <| by rintro xs H Q ⟨p,ys,e,h,n⟩;show#[p,ys,e,h,λl q=>n.at q]
def zN:CallQ X (.type "tuple") (zgE X.K):=zf5.weak <| by rintro xs H Q ⟨p,ys,e,h⟩;show#[p,ys,e,h.elim (by rintro⟨a,n⟩;show .inl #[a,λl q=>n.at q]) .inr]
def zqo:R2:=λx y H Q=>∃l b xs zs,x = .ref l/\y = .ref b/\H l=some (.lst xs)/\H b=some (.lst zs)/\xs.length+zs.length<=sizeLine/\New H (.lst (xs++zs)) Q
def zeb:OpQ X (binaryOp .Add) zqo:=zsp.weak <| by rintro x y H Q ⟨l,b,xs,zs,q,B,h1,h2,z,n⟩;show#[l,b,xs,zs,q,B,h1,h2,z,λp F=>n.at F]
end
def zuC (J:It)(g:TG)(ti:TT)(te:TE)(acc:Addr)(Q:VK)(G:St)(H:Hp):Prop:=∃W:Nat->Nat->St->Hp->Prop,(∃m,W 0 m G H)/\
 ∀i m q H',W i m q H'->(J.stop i H'/\Q (.ref acc) H')\/(J.go i H'/\∃N:St->Hp->Prop,(∀ B H2,N B H2->∃F,F<m/\W (i+1) F B H2)/\∀x H2,J.yld i H' x H2->zro g ti te acc N x q H2)
def zk0 (wi:TI)(g:TG)(ti:TT)(te:TE)(BD:List (Option Nat)):TE:=λG H Q=>wi G H λJ H1=>∀acc,H1 acc=none->zuC J g ti te acc Q (zeO G BD) (upd H1 acc (.lst []))
def zmH(q:X.calm=true)(c:CompOk X scope N BD)(hi:QI X tg iter wi)(B:∀C s H ex,QG (zW X scope N C s H ex) tg g)(F:∀C s H ex,QTs (zW X scope N C s H ex) ifs ti)(I:∀C s H ex,QE (zW X scope N C s H ex) elt te)(hs:∀x,foldedSetIterable iter X.env x=pure x:=by intro _;rfl):QE X (.ListComp elt [#[tg,iter,ifs,0]] scope pos) (zk0 wi g ti te BD):=zqa q c hi B F I hs
section
variable {K:AH}{a acc:Addr}{xs:AT}{g:TG}{ti:TT}{te:TE}{G:St}{H:Hp}{Q:VK}
end
def zmY(h:H acc=none)(s:yZ H H1):yZ H (upd H1 acc o):=λb u e=>by rw[zf (zc e h)];show s b u e
section
variable {X:Cx}(K:AH)(h:X.K=K)
include h
def zq9:IxQ X (zrf K):=h ▸ zF
def zed:OpQ X (compareOp .NotIn) (rIn K true):=h ▸ zft
end
def zkC {X:Cx}(K:AH)(B:X.K=K){es:AO}{pos:Pos}{k:Nat}{gs:TGs}{n:Nat}(F:X.calm=true)(h:QGs X es gs)(hn:(assignEach es X.env).length=n:=by rfl)(q:(assignEach es X.env).findIdx? (·.1)=none:=by rfl):QG X (.Tuple es k pos) (zu7 K n gs):=B ▸ zkB F h hn q
def zqi(K:AH)(q:X.K=K)(B:QE X e te):QI X tg e (zva K te):=q ▸ zkE B
def zhC(K:AH)(q:X.K=K)(B:QE X e te):QI X tg e (zoR K te):=q ▸ zqh B
structure Wi where
 g:List (Int×Int)
 b:Int
 r:Int
 w:Int
abbrev AW:=List Wi
abbrev yN (x:Wi):Dt:=.tup [.tup (x.g.map uu),.int x.b,.int x.r,.int x.w]
structure WishOk (rm:AG)(x:Wi):Prop where
 giv:Giv rm x.g
 b0:0<=x.b
 b1:x.b<rm.length
 apart:∀q∈x.g,q.1≠x.b
 r0:0<=x.r
 r1:x.r<zQ rm x.b
 w0:0<=x.w
 w1:x.w<zQ rm x.b
 ne:x.r≠x.w
def ziL (H:Hp)(R:Dt->Prop)(xs:AT):Prop:=∀x∈xs,∃d,Is H d x/\R d
section
variable {H H':Hp}{R:Dt->Prop}{xs ys:AT}
def ziL.stay (h:ziL H R xs)(s:zA H H'):ziL H' R xs:=λx q=>by obtain⟨d,B,F⟩:=h x q;show#[d,B.stay s,F]
end
def zhs (x:Wi):(yN x).noL=true:=by change Dt.noLs [.tup (x.g.map uu),.int x.b,.int x.r,.int x.w]=true;change (Dt.noLs (x.g.map uu)&&_)=true;rw[zfm];rfl
def zlS (b:Int)(ns:AG):inV (.int b) (ns.map V.int)=ns.contains b:=by
 unfold inV
 induction ns with
 | nil=>rfl
 | cons n ns q=>
  rw[aB,dq,q,List.contains_cons];show ((n==b) || _)=((b==n) || _);rw[show (n==b)=(b==n) from BEq.comm]
def zjp (ns:AG):(ns.map V.int).all zdF=true:=by rw[ck];intro x q;obtain⟨n,_,rfl⟩:=au.mp q;rfl
def zi4 (xs:AT)(k:Nat):zeF xs none (some (k:Int))=xs.take k:=by
 have e:HT.sIx xs.length xs.length (some (k:Int))=min k xs.length:=by simp[HT.sIx];try lia
 unfold zeF;rw[e,show HT.sIx xs.length 0 none=0 from rfl,dN,Nat.sub_zero];grind
def zi3 (xs:AT)(k:Nat):zeF xs (some (k:Int)) none=xs.drop k:=by
 have e:HT.sIx xs.length 0 (some (k:Int))=min k xs.length:=by simp[HT.sIx];try lia
 unfold zeF;rw[e,show HT.sIx xs.length xs.length none=xs.length from rfl];by_cases h:k<=xs.length;rw[ez h,bg (by simp)];rw[Nat.min_eq_right (by lia),List.drop_eq_nil_of_le (as:=xs) (i:=xs.length) (by lia),List.drop_eq_nil_of_le (as:=xs) (i:=k) (by lia),List.take_nil]
def WishOk.turn{rm:AG}(h:WishOk rm x):WishOk rm { x with r:=x.w,w:=x.r }:=
 #[h.giv,h.b0,h.b1,h.apart,h.w0,h.w1,h.r0,h.r1,λe=>h.ne e.symm]
def ziI(h:Is H (yN x) v):∃ (a q:Addr) (gs:AT),v = .ref a/\H a=some (.tup [.ref q,.int x.b,.int x.r,.int x.w])/\H q=some (.tup gs)/\IsL H (x.g.map uu) gs:=by obtain⟨a,xs,rfl,J,U,Y,rfl,B,O⟩:=h;obtain⟨q,gs,rfl,F,I⟩:=B;obtain rfl:=IsL.of_ints (ns:=[x.b,x.r,x.w]) O;show#[a,q,gs,BA,J,F,I]
def zvC {α q:Type}{BF:Prop}(P C:α->q->Prop)(h:(∀a b,C a b->P a b)->BF)(r:∀a b,C a b->P a b):BF:=h r
section
variable {rm:AG}{g b r w:Dt}
end
end L2
namespace HT
open PyProof.Rows
section
variable {prog:Aa}{w:Ab}{A:Ae}{E:AA}{s:AZ}
theorem fm_congr {α q:Type}{f g:α->Option q}:∀ {l:List α},(∀m∈l,f m=g m)->l.filterMap f=l.filterMap g
 | [],_=>rfl
 | a::l,h=>by rw[List.filterMap_cons,List.filterMap_cons,h a List.mem_cons_self,fm_congr λm B=>h m (List.mem_cons_of_mem _ B)]
def pick_rev (xs:AK):((List.range xs.size).filterMap λ(m:Nat)=>xs[((xs.size:Int) - 1+(m:Int) * (-1)).toNat]?).toArray=xs.toList.reverse.toArray:=by
 congr 1
 have e:∀m∈List.range xs.size,xs[((xs.size:Int) - 1+(m:Int) * (-1)).toNat]?=some (xs.toList.reverse.getD m .none):=by
  intro m q;have B:=List.mem_range.mp q;have F:((xs.size:Int) - 1+(m:Int) * (-1)).toNat=xs.size - 1 - m:=by lia
  right
 rw[fm_congr e];rw[List.filterMap_eq_map' (f:=λm=>xs.toList.reverse.getD m .none)];show List.ext_getElem? λi=>?_;rw[List.getElem?_map];by_cases hi:i<xs.size
 all_goals right
end
end HT
namespace L2
open PyProof.Rows
section
variable {X:Cx}{e:Expr}{te:TE}{pos p2 p3 p4:Pos}{j:Nat}
def zfS(r:yb xs us):yb xs.reverse us.reverse:=by
 induction r with
 | nil=>show .nil
 | cons h _ q=>rw[cP,cP];show q.append (.cons h .nil)
def zes (xs:AK):slicePick xs none none (some (-1))=xs.toList.reverse.toArray:=by
 rw[<- HT.pick_rev];unfold slicePick;congr 1;have q:sliceBounds none none (some (-1)) xs.size=((xs.size:Int) - 1,-1,-1):=by simp[sliceBounds]
 rw[q];unfold sliceRange;have B:(if (-1:Int) > 0 then (if (xs.size:Int) - 1 < -1 then (-1 - ((xs.size:Int) - 1)+-1 - 1) / -1 else 0) else if (xs.size:Int) - 1 > -1 then ((xs.size:Int) - 1 - -1 - -1 - 1) / - -1 else 0).toNat=xs.size:=by grind
 change List.filterMap (λx=>xs[x]?) (List.map _ (List.range (if (-1:Int) > 0 then (if (xs.size:Int) - 1 < -1 then (-1 - ((xs.size:Int) - 1)+-1 - 1) / -1 else 0) else if (xs.size:Int) - 1 > -1 then ((xs.size:Int) - 1 - -1 - -1 - 1) / - -1 else 0).toNat))=_;rw[B,fT];show HT.fm_congr λm F=>?_;grind
def ztA (te:TE):TE:=λG H Q=>te G H λx H1=>∃a xs,x = .ref a/\H1 a=some (.lst xs)/\New H1 (.lst xs.reverse) Q
def zpO (U:PE X e te):PE X (.Subscript e (.Slice none none (some (.UnaryOp .USub (.Constant (.int 1) j p4) p3)) p2) pos) (ztA te):=by intro BB s G H Q I h;show Subscript_ (thn (U BB s G H _ I h)  ?_);rintro v Y ⟨x,H1,I1,Z,q1⟩;obtain⟨a,xs,rfl,ha,q⟩:=q1;cases Z;show wpAny_Slice ?_;rw[evalPart_none];show af (af ?_);rw[evalPart_some];show thn (zsC (zof (X:=X)) (znR (X:=X)) BB Y G H1 (λz H2=>z = .int (-1)/\H2=H1) I1 #[1,BA,BA,BA])  ?_;rintro u B ⟨z,H2,I2,r2,e1,e2⟩;subst e1 e2;obtain⟨tk,rfl⟩:=r2;have I3:Inv X BB G H2 { B with heap:=B.heap.push { cls:=.type "slice",data:=.fields #v[.none,.none,.int (-1) tk] } }:=I2.kept (t':=B.toks) λb ob q=>ae _ q;obtain⟨F,r,J,hz⟩:=I3.list (.of ha);have O:=r.length;change Af X (subscriptTail e _ (.ref a) (.ref B.heap.objs.size)) (EP X BB G Q) X.xe { B with heap:=B.heap.push { cls:=.type "slice",data:=.fields #v[.none,.none,.int (-1) tk] } };show tail_any (ops:=[.ref a,.ref B.heap.objs.size]) J.isList.typeIs slot_list_getitem.lookup ?_ (by with_unfolding_all rfl);show wpAny_getItem_list_slice J.isList (Heap.IsSliceOf.new ..) .none .none (.int (-1) tk) (by simp) ?_ (by grind);rw[zes];show#[.ref _,_,I3.laid (t':=B.toks) (o:=.lst xs.reverse) (λb ob q=>ae _ q) (ai _) ?_,BA,q.at (I3.hok.fresh (ai _))];show#[by right,F.reverse,0,zfS r,ar _ BA]
def zqd (q:QE X e te):QE X (.Subscript e (.Slice none none (some (.UnaryOp .USub (.Constant (.int 1) j p4) p3)) p2) pos) (ztA te):=#[zpO q.run]
def zvZ:V->V->V->Hp->(Hp->Prop)->Prop:=λo i v H Q=>∃p xs k,o = .ref p/\i = .int k/\H p=some (.lst xs)/\0<=k/\k<xs.length/\Q (upd H p (.lst (xs.set k.toNat v)))
def zqe(ho:QE X o to)(hi:QE X i ti)(ha:∀v,assign (.Subscript o i pos) X.env v=(do
   let ov <- holding [v] (eval o X.env)
   let iv <- holding [v,ov] (eval i X.env)
   standAt pos
   holding [v,ov,iv] (setItem ov iv v)
   release [v,ov,iv] []):=by intro _;rfl):QG X (.Subscript o i pos) (gSub to ti zvZ):=
 #[zsI ho.run hi.run (by rintro BB s G H o i v ov iv u Q I ro ri rv ⟨p,xs,k,e1,e2,hp,h0,h1,q⟩;show zm2 BB s G H o i v ov iv u Q I ro ri rv #[p,xs,k,k.toNat,e1,e2,hp,by unfold ixN;rw[if_pos h0,if_pos h1],q]) ha]
end
def zhq {st:AG}{b:Int}(B:0<=b)(h1:b<st.length):atI (st.map V.int) b=some (.int (zQ st b)):=by
 obtain⟨j,rfl⟩:∃j:Nat,b=j:=#[b.toNat,by lia];have q:j<st.length:=by lia
 have e:zQ st (j:Int)=st[j]:=by unfold zQ;simp[q]
 rw[e];show ziR (by simp[q])
def chg (st:AG)(b w:Int):AG:=st.take b.toNat++[w]++st.drop (b.toNat+1)
def zor (st:AG){b w:Int}(q:0<=b):zeF (st.map V.int) none (some b)++[.int w]++zeF (st.map V.int) (some (b+1)) none=(chg st b w).map V.int:=by
 obtain⟨j,rfl⟩:∃j:Nat,b=j:=#[b.toNat,by lia];rw[zi4,show ((j:Int)+1)=((j+1:Nat):Int) by lia,zi3];unfold chg;right
def zdz {st:AG}{b w:Int}(q:0<=b)(h1:b<st.length):(chg st b w).length=st.length:=by
 unfold chg;grind
def zay {st:AG}{b w c:Int}(B:0<=b)(h1:b<st.length)(F:0<=c):zQ (chg st b w) c=if c=b then w else zQ st c:=by
 obtain⟨j,rfl⟩:∃j:Nat,b=j:=#[b.toNat,by lia];obtain⟨k,rfl⟩:∃k:Nat,c=k:=#[c.toNat,by lia];have I:j<st.length:=by lia
 unfold zQ chg;simp only[aS,aj];have q:(st.take j).length=j:=by rw[bq];lia
 rcases cQ k j with h | h | h;rw[if_neg (by lia),aE,aC (by rw[q];show h),b8 h];right;rw[if_neg (by lia),aE,aW (by rw[q];lia),q];obtain⟨m,rfl⟩:∃m,k=j+1+m:=#[k - (j+1),by lia];rw[show j+1+m - j=m+1 by lia];right
def zlJ {s t:AG}(q:s.length=t.length)(h:∀c:Int,0<=c->c<s.length->zQ s c=zQ t c):s=t:=by
 show dS q λi h1 h2=>?_;have:=h (i:Int) (by lia) (by lia);unfold zQ at this;right
def uD (st:AG)(g:List (Int×Int)):Bool:=g.all λq=>decide (zQ st q.1=q.2)
def zbB (st:AG)(x:Wi):Bool:=decide (zQ st x.b=x.w)&&uD st x.g
def ze2 (one other:AG)(x:Wi):Bool:=zbB one x&&decide (chg one x.b x.r=other)
def zoh (one other:AG):Nat->AW->Option Nat
 | _,[]=>none
 | i,x::r=>if ze2 one other x then some i else zoh one other (i+1) r
def zae (x:Wi):Wi:={ x with r:=x.w,w:=x.r }
def zh8 {rm st:AG}{x:Wi}{w:Int}(B:WishOk rm x)(I:st.length=rm.length)(h:uD st x.g=true):uD (chg st x.b w) x.g=true:=by unfold uD at h ⊢;rw[ck] at h ⊢;intro q F;have h1:=h q F;have J:=B.b1;rw[zay B.b0 (by lia) (B.giv.ok q F).1,if_neg (B.apart q F)];show h1
def ze3 {rm one other:AG}{x:Wi}(F:WishOk rm x)(h1:one.length=rm.length)(h:ze2 one other x=true):ze2 other one (zae x)=true:=by
 unfold ze2 zbB at h;rw[bj,bj] at h;have U:zQ one x.b=x.w:=bp h.1.1;have O:chg one x.b x.r=other:=bp h.2;have Y:=F.b1;have B:=F.b0;subst O;have q:(chg one x.b x.r).length=one.length:=zdz B (by lia);unfold ze2 zbB;rw[bj,bj];show#[#[a8 ?_,zh8 (x:=zae x) F.turn h1 h.1.2],a8 ?_];change zQ (chg one x.b x.r) x.b=x.r;rw[zay B (by lia) B,if_pos rfl];change chg (chg one x.b x.r) x.b x.w=one;show zlJ (by rw[zdz B (by rw[q];lia),q]) λc I Z=>?_;rw[zay B (by rw[q];lia) I];by_cases J:c=x.b;right;rw[if_neg J,zay B (by lia) I,if_neg J]
def ze4{rm one other:AG}(q:WishOk rm x)(h1:one.length=rm.length)(h2:other.length=rm.length):ze2 other one (zae x)=ze2 one other x:=by rw[cA];show#[λh=>ze3 (x:=zae x) q.turn h2 h,λh=>ze3 q h1 h]
theorem zfU {rm one other:AG}(h1:one.length=rm.length)(h2:other.length=rm.length):∀ {bk:AW} (i:Nat),(∀x∈bk,WishOk rm x)->zoh other one i (bk.map zae)=zoh one other i bk
 | [],_,_=>rfl
 | x::bk,i,h=>by rw[aB];change (if ze2 other one (zae x) then some i else zoh other one (i+1) (bk.map zae))=(if ze2 one other x then some i else zoh one other (i+1) bk);rw[ze4 (h x ao) h1 h2,zfU h1 h2 (i+1) λy q=>h y (av _ q)]
structure BookAt (H:Hp)(rm:AG)(ba:Addr)(xs:AT)(bk:AW):Prop where
 at':H ba=some (.tup xs)
 is:IsL H (bk.map yN) xs
 ok:∀x∈bk,WishOk rm x
def BookAt.stay{rm:AG}(h:BookAt H rm q xs bk)(s:zA H H'):BookAt H' rm q xs bk:=#[s.tup h.at',h.is.stay s,h.ok]
def BookAt.len{rm:AG}(h:BookAt H rm q xs bk):xs.length=bk.length:=by
 have:=h.is.length;right
def BookAt.get {H:Hp}{rm:AG}{I:Addr}{xs:AT}{bk:AW}(h:BookAt H rm I xs bk){i:Nat}{v:V}(J:xs[i]?=some v):∃x,bk[i]?=some x/\Is H (yN x) v/\WishOk rm x:=by obtain⟨d,B,q⟩:=h.is.get J;rw[aD] at B;obtain⟨x,F,rfl⟩:=aJ.mp B;show#[x,F,q,h.ok x (az F)]
theorem zah:∀bk:AW,Dt.noLs (bk.map yN)=true
 | []=>rfl
 | x::bk=>by change ((yN x).noL&&Dt.noLs (bk.map yN))=true;rw[zhs,zah bk];rfl
def zH (st:AG)(j:Nat):zQ st (j:Int)=st.getD j 0:=by unfold zQ;simp
def zbm {st:AG}{r b:Int}(B:0<=b)(h1:b<st.length):zQ (st++[r]) b=zQ st b:=by
 obtain⟨j,rfl⟩:∃j:Nat,b=j:=#[b.toNat,by lia];have q:j<st.length:=by lia
 rw[zH,zH,aj,aj,aC q]
def zbl {st:AG}{r:Int}:zQ (st++[r]) (st.length:Int)=r:=by rw[zH,aj,aW (ai _),fU];rfl
def zgr {st:AG}{i:Nat}{m:Int}(h:st[i]?=some m):zQ st (i:Int)=m:=by rw[zH,aj,h];rfl
def ue {rm:AG}(B:∀r∈rm,2<=r/\r<=4){b:Int}(F:0<=b)(h1:b<rm.length):2<=zQ rm b/\zQ rm b<=4:=by
 obtain⟨j,rfl⟩:∃j:Nat,b=j:=#[b.toNat,by lia];have q:j<rm.length:=by lia
 rw[zgr (ak q)];right
def zfJ:Sp:=λvs H Q _=>∃ (a:Addr) (st:AG) (b w:Int),vs=[.ref a,.int b,.int w]/\H a=some (.tup (st.map V.int))/\st.length<=400/\0<=b/\∀ (p:Addr) (H':Hp),H' p=some (.tup ((chg st b w).map V.int))->yZ H H'->Q (.ref p) H'
def zkX:Sp:=λvs H Q _=>∃ (a B:Addr) (st:AG) (gs:AT) (g:List (Int×Int)),vs=[.ref a,.ref B]/\H a=some (.tup (st.map V.int))/\H B=some (.tup gs)/\IsL H (g.map uu) gs/\(∀q∈g,0<=q.1/\q.1<st.length)/\Q (.bl (uD st g)) H
theorem zaS:∀st:AG,Dt.noLs (st.map .int)=true
 | []=>rfl
 | _::st=>by change (true&&Dt.noLs (st.map .int))=true;rw[zaS st];rfl
def zl9 (st:AG):PySem.W.kqdOk 7 (Dt.tup (st.map .int)).toW=true:=by
 have e:∀ns:AG,(Dt.toWs (ns.map .int)).all (PySem.W.kqdOk 6)=true:=by
  intro ns
  induction ns with
  | nil=>rfl
  | cons n ns q=>simp only[aB,Dt.toWs,ek,q,fE];rfl
 show e st
def zqm{X:Cx}{ifs:AO}{scope:Scope}{pos spos:Pos}{wi:TI}{g:TG}{ti:TT}{te:TE}{N:AM}{nx:Str}(q:X.N.Nodup)(B:X.N[ix]?=some nx)(F:X.env.scope.names.lookup nx=some .local)(Y:X.calm=true)(c:CompOk X scope N BD)(hi:QI X tg iter wi)(Z:∀C s H ex,QG (zW X scope N C s H ex) tg g)(ht:∀C s H ex,QTs (zW X scope N C s H ex) ifs ti)(he:∀C s H ex,QE (zW X scope N C s H ex) elt te)(J:swapsWithSole [.Name nx px] (.ListComp elt [#[tg,iter,ifs,0]] scope pos) spos.line X.env=pure true:=by rfl)(hs:∀x,foldedSetIterable iter X.env x=pure x:=by intro _;rfl)(O:(assignEach [.Name nx px] X.env).map (·.2)=[assign (.Name nx px) X.env]:=by rfl):QS X (.Assign [.Name nx px] (.ListComp elt [#[tg,iter,ifs,0]] scope pos) spos) (ziK (zk0 wi g ti te BD) (zbA ix)):=#[λBB s G H BG I h=>zlr q B F J O (λ_=>rfl) λU Qp hf=>zfk (Fin:=λacc H=>BG.nx (G.set ix (some (.ref acc))) H) (zcq c) Y hi.run (zlM λC s H ex=>(Z C s H ex).run) (zlM λC s H ex=>(ht C s H ex).run) (zlM λC s H ex=>(he C s H ex).run) hs I h hf]
section
variable {prog:Aa}{w:Ab}{A:Ae}{E:AA}{s:AZ}
variable {X:Cx}
variable {R:Result->AZ->Prop}
variable {Fam:Cx->Prop}{scope:Scope}{N:AM}{BD:List (Option Nat)}{z:Str}{use:Option (Value->Sem Unit)}{Qp:AA}{elt ke ve tg iter tg2 iter2:Expr}{ifs ifs2:AO}{pos ipos spos px:Pos}{wi wi2:TI}{g g2:TG}{ti ti2:TT}{te tk tv:TE}{BB:AB}{G:St}{H:Hp}{Q:VK}{o0:HO}
variable {K:AH}{a acc:Addr}{xs:AT}{N:St->Hp->Prop}
end
section
variable {X:Cx}
def zlA:CallQ X (.type "range") (λxs H Q=>∃n,xs=[.int n]/\New H (.rng 0 n) Q):=#[by
 intro BB s G H xs us Q I r h;obtain⟨n,rfl,q⟩:=h;obtain⟨u,rfl,B⟩:=zbI r;obtain⟨t,rfl⟩:=B;show call_range_1 ?_;show#[.ref s.heap.objs.size,_,I.laid (t':=s.toks+1+1) (o:=.rng 0 n) (λb ob q=>ae _ q) (ai _) ?_,BA,q.at (I.hok.fresh (ai _))];show#[_,_,_,ar _ BA]]
def zhG (n:Nat):Builtin.Range.rangeSize 0 (n:Int) 1=n:=by
 unfold Builtin.Range.rangeSize;grind
theorem zlg:∀ {xs:AT} {us:AN},xs.length=us.length->(∀ (i:Nat) x u,xs[i]?=some x->us[i]?=some u->yo x u)->yb xs us
 | [],[],_,_=>.nil
 | [],_::_,h,_=>by simp at h
 | _::_,[],h,_=>by simp at h
 | x::xs,u::us,h,k=>.cons (k 0 x u BA BA) (zlg (by simpa using h) λi y v q B=>k (i+1) y v q B)
def zf4 (U:X.calm=true):CallQ X (.type "list") (λxs H Q=>∃ (p:Addr) (n:Nat),xs=[.ref p]/\H p=some (.rng 0 n)/\n<=1000/\New H (.lst ((List.range n).map λi:Nat=>V.int i)) Q):=#[by
 intro BB s G H xs us Q I r h;obtain⟨p,n,rfl,Y,hn,q⟩:=h;obtain⟨u,rfl,Z⟩:=zbI r;cases Z;obtain⟨t,u,v,ho⟩:=I.hok p _ Y;have J:n<sizeLine:=zcM hn;show call_list_range (a:=0) (b:=n) (c:=1) (n:=n) (I.ok.hd U) ho ?_ ?_ (aH hn (by ext)) λh' tk B c' kp hg F=>?_;have e:=zhG n;unfold Builtin.Range.small;rw[e];simp[Builtin.Range.rangeFitsLong];lia;show zhG n
 have hv:yb ((List.range n).map λi:Nat=>V.int i) B.toList:=by
  show zlg (by rw[ab,aG,aO,F.1]) λj x u O hu=>?_;rw[aD] at O;obtain⟨k,hk,rfl⟩:=aJ.mp O;obtain⟨ac,e⟩:=ah.mp hk;have:k=j:=by simpa using e.symm
  subst this;obtain⟨t',rfl⟩:=F.2 k u (by simpa using hu);show#[t',by lia]
 show#[.ref s.heap.objs.size,_,I.laid (t':=tk) (o:=.lst ((List.range n).map λi:Nat=>V.int i)) kp (ai _) ?_,BA,q.at (I.hok.fresh (ai _))];show#[by rw[ab,aG];show c7 J,B.toList,c',hv,by simpa using hg]]
end
def zK (m:Int):AG:=(List.range m.toNat).map λi:Nat=>(i:Int)
def xW (rows:AF)(q:AG):AF:=rows.flatMap λr=>q.map λw=>r++[w]
def zam (cs:AF):AF:=cs.foldl xW [[]]
def xm (cs:AF)(c:AG):zam (cs++[c])=xW (zam cs) c:=by
 unfold zam;right
def zlD:AG->Nat->AG
 | [],_=>[]
 | m::r,k=>zlD r (k / m.toNat)++[((k % m.toNat:Nat):Int)]
def ziv:AG->Nat
 | []=>1
 | m::r=>ziv r * m.toNat
def zkL (P m:Nat):List.range (P * m)=(List.range P).flatMap λq=>(List.range m).map λr=>q * m+r:=by
 induction P with
 | zero=>rw[Nat.zero_mul];rfl
 | succ P B=>
  rw[gA,List.range_add,B,List.range_succ,List.flatMap_append];simp
def zf6 (P m:Nat)(f:Nat->AG):xW ((List.range P).map f) ((List.range m).map λi:Nat=>(i:Int))=(List.range (P * m)).map λk=>f (k / m)++[((k % m:Nat):Int)]:=by
 unfold xW;rw[zkL,List.map_flatMap,List.flatMap_map];congr 1;funext q;rw[aI,aI];show bP λr F=>?_;have B:=aM.mp F;change f q++[(r:Int)]=f ((q * m+r) / m)++[(((q * m+r) % m:Nat):Int)];have I:(q * m+r) / m=q:=by rw[Nat.mul_comm,Nat.mul_add_div (by lia),gv B];lia
 have J:(q * m+r) % m=r:=by rw[Nat.mul_comm,Nat.mul_add_mod,Nat.mod_eq_of_lt B]
 rw[I,J]
theorem zgU:∀rr:AG,zam (rr.reverse.map zK)=(List.range (ziv rr)).map (zlD rr)
 | []=>rfl
 | m::r=>by rw[cP,aR];change zam (r.reverse.map zK++[zK m])=_;rw[xm,zgU r];show zf6 (ziv r) m.toNat (zlD r)
theorem zdn:∀ {rr:AG},(∀m∈rr,1<=m)->(ziv rr:Int)=zY rr.reverse
 | [],_=>rfl
 | m::r,h=>by have B:=h m ao;rw[cP,yR,<- zdn λx q=>h x (av _ q)];change ((ziv r * m.toNat:Nat):Int)=_;rw[eA];congr 1;lia
abbrev stD (st:AG):Dt:=.tup (st.map .int)
theorem uq:∀BE:AF,Dt.noLs (BE.map stD)=true
 | []=>rfl
 | st::BE=>by show ((stD st).noL&&Dt.noLs (BE.map stD))=true;rw[uq BE,show (stD st).noL=true from zaS st];rfl
def yO (BE:AF):(Dt.lst (BE.map stD)).eqOk:=by
 have e:∀BE:AF,(Dt.toWs (BE.map stD)).all (PySem.W.kqdOk 7)=true:=by
  intro BE
  induction BE with
  | nil=>rfl
  | cons m B q=>simp only[aB,Dt.toWs,ek,q,show PySem.W.kqdOk 7 (stD m).toW=true from zl9 m,fE]
 show e BE
def zc5 (rows:AF)(q:AG):(xW rows q).length=rows.length * q.length:=by
 unfold xW;rw[List.length_flatMap]
 induction rows with
 | nil=>simp
 | cons r rows B=>rw[aB,List.sum_cons,B,ab,aK,gA,Nat.add_comm]
def zlo:∀ (cs:AF) (q:AG),q∈zam cs->q.length=cs.length:=by
 intro cs
 have:∀ (n:Nat) (cs:AF),cs.length=n->∀q,q∈zam cs->q.length=cs.length:=by
  intro n
  induction n with
  | zero=>
   intro cs h q B;have:cs=[]:=bf h;subst this;have:q=[]:=by simpa [zam] using B
   right
  | succ n I=>
   intro cs h q B;have F:cs≠[]:=by intro z;rw[z] at h;simp at h
   rw[<- bv F,xm] at B;unfold xW at B;grind
 show this cs.length cs BA
def zoj:∀ (n:Nat) (cs:AF),cs.length=n->(∀c∈cs,c.length<=4)->(zam cs).length<=4 ^ n:=by
 intro n
 induction n with
 | zero=>
  intro cs h _;have:cs=[]:=bf h;subst this;show ai _
 | succ n F=>
  intro cs h B;have q:cs≠[]:=by intro z;rw[z] at h;simp at h
  rw[<- bv q,xm,zc5,Nat.pow_succ];show Nat.mul_le_mul (F cs.dropLast (by grind) λc I=>B c ((List.dropLast_sublist cs).subset I)) (B _ (List.getLast_mem q))
def zln {cs:AF}(F:cs.length<=8)(q:∀c∈cs,c.length<=4)(k:Nat):(zam (cs.take k)).length<=65536:=by
 show aH (zoj _ (cs.take k) BA λc B=>q c (bI B)) ?_;have:(cs.take k).length<=8:=by rw[bq];lia
 show aH (dL (by ext) this) (by ext)
def zmW (rm:AG):zam (rm.map zK)=(List.range (ziv rm.reverse)).map (zlD rm.reverse):=by
 have:=zgU rm.reverse;right
def zdg (m:Int):(zK m).length=m.toNat:=by unfold zK;rw[ab,aG]
section
variable {X:Cx}{o:Expr}{to:TE}{apos cpos:Pos}
open PySem.W
variable {n:Nat}{f:Nat->Int}
def key (f:Nat->Int)(p:Array Nat)(k:Nat):Int:=f (p.getD k 0)
structure Up (n:Nat)(f:Nat->Int)(p:Array Nat)(m:Nat):Prop where
 perm:p.Perm (List.range n).toArray
 le:m<=n
 up:∀k,k+1<m->key f p k<key f p (k+1)
def zks {p:Array Nat}(h:p.Perm (List.range n).toArray):p.size=n:=by have:=h.size_eq;simpa using this
def Up.lt_of(h:Up n f p m):∀ {i j:Nat},i<j->j<m->key f p i<key f p j:=by
 intro i j
 induction j with
 | zero=>intro F;lia
 | succ j I=>
  intro q B;have h1:=h.up j B;grind
def zno (n:Nat)(f:Nat->Int):Prop:=∀i j,i<n->j<n->f i=f j->i=j
end
def zjs:Bool->Keyed->Array Keyed->Nat->Nat->Nat->StateT SortSt Sem (Option Nat):=sortPriv% PySem.Builtin.gallop
def zmk:Array Keyed->Array Keyed->StateT SortSt Sem (Array Keyed):=sortPriv% PySem.Builtin.mergeLo
def zmj:Array Keyed->Array Keyed->StateT SortSt Sem (Array Keyed):=sortPriv% PySem.Builtin.mergeHi
def zbw (M:Model)(A:Ae)(s:AZ)(κ:SortKind)(L0:List Keyed)(f:Keyed->Int):Prop:=
 ∀x y,x∈L0->y∈L0->∀ (Q:Bool->AZ->Prop) (E:AA),Q (decide (f x<f y)) s->wpAny M A (keyLt' κ x.1 y.1) Q E s
section
variable {M:Model}{A:Ae}{E:AA}{s:AZ}{κ:SortKind}{L0:List Keyed}{f:Keyed->Int}
def ztF (R:zbw M A s κ L0 f){x y:Keyed}(q:x∈L0)(B:y∈L0){st:SortSt}(F:kindOf st=κ){Q:Option Bool->SortSt->Prop}(h:Q (some (decide (f x<f y))) st):wpS M A E s (lt' x y) Q st:=by rw[lt'_eq];show wpS_bind (wpS_get ?_);rw[F];show wpS_bind (wpS_lift (cL (R x y q B _ _ #[BA,wpS_pure h])))
def yv {a:Array Keyed}{i:Nat}{x:Keyed}(e:a[i]?=some x){st:SortSt}{Q:Keyed->SortSt->Prop}(h:Q x st):wpS M A E s (elem' a i) Q st:=by rw[elem'_eq,e];show wpS_pure h
def xL (f:Keyed->Int)(left:Bool)(key x:Keyed):Bool:=if left=true then decide (f x<f key) else !decide (f key<f x)
def zqU (R:zbw M A s κ L0 f){key x:Keyed}(q:x∈L0)(B:key∈L0){left:Bool}{st:SortSt}(F:kindOf st=κ){Q:Option Bool->SortSt->Prop}(h:Q (some (xL f left key x)) st) :
  wpS M A E s (if left=true then lt' x key else lt' key x >>= λr=>pure (Option.map (λb=>!b) r)) Q st:=by
 unfold xL at h
 cases left with
 | true=>rw[if_pos rfl] at h ⊢;show ztF R q B F h
 | false=>rw[if_neg ay] at h ⊢;show wpS_bind (ztF R B q F (wpS_pure h))
def zm9 (R:zbw M A s κ L0 f){left:Bool}{key:Keyed}{a:Array Keyed}{base n hint:Nat}(hy:key∈L0)(ha:∀x∈a,x∈L0)(hn:base+n<=a.size)(hh:hint<n){B:Nat->Bool}(hB:∀i x,i<n->a[base+i]?=some x->xL f left key x=B i)(Z:∀i j,i<=j->j<n->B j=true->B i=true)
  {st:SortSt} (hk:kindOf st=κ) {Q:Option Nat->SortSt->Prop} (h:∀k,k<=n->(∀i,i<k->B i=true)->(∀i,k<=i->i<n->B i=false)->Q (some k) st):wpS M A E s (zjs left key a base n hint) Q st:=by
 have O:∀i,i<n->∀ {Q:Option Bool->SortSt->Prop},Q (some (B i)) st->wpS M A E s (elem' a (base+i) >>= λx=>if left=true then lt' x key else lt' key x >>= λr=>pure (Option.map (λb=>!b) r)) Q st:=λi hi {Q} hq=>by have e:a[base+i]?=some a[base+i]:=aT (by lia);show wpS_bind (yv e (zqU R (ha _ (dG _)) hy hk ?_));rw[hB i _ hi e];show hq
 have up:∀i j,i<=j->j<n->B i=false->B j=false:=λi j h1 h2 F=>by
  cases e:B j with
  | false=>rfl
  | true=>rw[Z i j h1 h2 e] at F;cases F
 have fin:∀lo hi,lo<=hi->hi<=n->(∀i,i<lo->B i=true)->(∀i,hi<=i->i<n->B i=false)->∀ {BF:Option (Option Nat)×Nat×Nat->SortSt->Prop},(∀l k,k<=n->(∀i,i<k->B i=true)->(∀i,k<=i->i<n->B i=false)->BF (none,l,k) st)->∀ {body:Nat->Option (Option Nat)×Nat×Nat->StateT SortSt Sem (ForInStep (Option (Option Nat)×Nat×Nat))},
   (∀x lo hi (G':ForInStep (Option (Option Nat)×Nat×Nat)->SortSt->Prop),lo ≥ hi->G' (.done (none,lo,hi)) st->wpS M A E s (body x (none,lo,hi)) G' st)->
   (∀x lo hi (G':ForInStep (Option (Option Nat)×Nat×Nat)->SortSt->Prop),lo<hi->hi<=n->(B (lo+(hi - lo) / 2)=true->G' (.yield (none,lo+(hi - lo) / 2+1,hi)) st)->(B (lo+(hi - lo) / 2)=false->G' (.yield (none,lo,lo+(hi - lo) / 2)) st)->wpS M A E s (body x (none,lo,hi)) G' st)->
   wpS M A E s (forIn [0:n] (none,lo,hi) body) BF st:=by
  intro lo hi h1 h2 F J BF hG body b1 b2;show bQ (I:=λx c q=>q=st/\∃lo hi,c=(none,lo,hi)/\lo<=hi/\hi<=n/\(∀i,i<lo->B i=true)/\(∀i,hi<=i->i<n->B i=false)/\hi - lo+x<=n) ?_ ?_ #[BA,lo,hi,BA,h1,h2,F,J,by lia];rintro x c q _ hx ⟨rfl,lo,hi,rfl,h1,h2,F,J,h5⟩;by_cases e:lo ≥ hi;show b1 x lo hi _ e ?_;obtain rfl:lo=hi:=by lia
  show hG _ _ h2 F J;show b2 x lo hi _ (by lia) h2 (λhb=>?_) (λhb=>?_);show#[BA,_,_,BA,by lia,h2,λi ac=>Z i _ (by lia) (by lia) hb,J,by lia];show#[BA,_,_,BA,by lia,by lia,F,λi h1 h2=>up _ i h1 h2 hb,by lia];rintro c q ⟨rfl,lo,hi,rfl,h1,h2,F,J,h5⟩;obtain rfl:lo=hi:=by lia
  show hG _ _ h2 F J
 show wpS_bind (O hint hh ?_);dsimp only
 cases eB:B hint with
 | true=>
  rw[if_pos rfl];show wpS_bind (wpS_mono (bQ (I:=λx c q=>q=st/\∃l o,c=(none,l,o)/\l<o/\hint+l<n/\B (hint+l)=true/\x+1<=o) (Q:=λc q=>q=st/\∃l o,c=(none,l,o)/\l<o/\hint+l<n/\B (hint+l)=true/\(o ≥ n - hint\/(hint+o<n/\B (hint+o)=false))) ?_ ?_ #[BA,0,1,BA,by lia,by lia,eB,by lia]) ?_);rintro x c q _ hx ⟨rfl,l,o,rfl,h1,h2,F,J⟩;dsimp only;by_cases e:o ≥ n - hint;rw[if_pos e];show wpS_pure #[BA,l,o,BA,h1,h2,F,.inl e];rw[if_neg e];show wpS_bind (O (hint+o) (by lia) ?_)
  cases eo:B (hint+o) with
  | true=>show wpS_pure #[BA,o,2 * o+1,BA,by lia,by lia,eo,by lia]
  | false=>show wpS_pure #[BA,l,o,BA,h1,h2,F,.inr #[by lia,eo]]
  rintro c q ⟨rfl,l,o,rfl,h1,h2,F,J⟩;show#[BA,l,o,BA,h1,h2,F,.inl (by lia)];rintro c q ⟨rfl,l,o,rfl,h1,h2,F,J⟩;dsimp only;show wpS_bind (fin (hint+l+1) (hint+min o (n - hint)) (by lia) (by lia) (λi hi=>Z i _ (by lia) h2 F) (λi h5 h6=>?_) (λl' k k1 k2 k3=>?_) (λx lo hi G' e hg=>?_) (λx lo hi G' e e2 U Y=>?_));rcases J with J | ⟨J,h7⟩;lia;show up _ i (by lia) h6 h7;show wpS_pure (h k k1 k2 k3);dsimp only;rw[if_pos e];show wpS_pure hg;dsimp only;rw[if_neg (by lia)];show wpS_bind (O _ (by lia) ?_)
  cases eb:B (lo+(hi - lo) / 2) with
  | true=>show wpS_pure (U eb)
  | false=>show wpS_pure (Y eb)
 | false=>
  rw[if_neg ay];show wpS_bind (wpS_mono (bQ (I:=λx c q=>q=st/\∃l o,c=(none,l,o)/\l<o/\l<=hint/\B (hint - l)=false/\x+1<=o) (Q:=λc q=>q=st/\∃l o,c=(none,l,o)/\l<o/\l<=hint/\B (hint - l)=false/\(o ≥ hint+1\/(o<=hint/\B (hint - o)=true))) ?_ ?_ #[BA,0,1,BA,by lia,by lia,eB,by lia]) ?_);rintro x c q _ hx ⟨rfl,l,o,rfl,h1,h2,F,J⟩;dsimp only;by_cases e:o ≥ hint+1;rw[if_pos e];show wpS_pure #[BA,l,o,BA,h1,h2,F,.inl e];rw[if_neg e];show wpS_bind (O (hint - o) (by lia) ?_)
  cases eo:B (hint - o) with
  | true=>show wpS_pure #[BA,l,o,BA,h1,h2,F,.inr #[by lia,eo]]
  | false=>show wpS_pure #[BA,o,2 * o+1,BA,by lia,by lia,eo,by lia]
  rintro c q ⟨rfl,l,o,rfl,h1,h2,F,J⟩;show#[BA,l,o,BA,h1,h2,F,.inl (by lia)];rintro c q ⟨rfl,l,o,rfl,h1,h2,F,J⟩;dsimp only;show wpS_bind (fin (hint+1 - min o (hint+1)) (hint - l) (by lia) (by lia) (λi hi=>?_) (λi h5 h6=>up _ i h5 h6 F) (λl' k k1 k2 k3=>?_) (λx lo hi G' e hg=>?_) (λx lo hi G' e e2 U Y=>?_));rcases J with J | ⟨J,h7⟩;lia;show Z i _ (by lia) (by lia) h7;show wpS_pure (h k k1 k2 k3);dsimp only;rw[if_pos e];show wpS_pure hg;dsimp only;rw[if_neg (by lia)];show wpS_bind (O _ (by lia) ?_)
  cases eb:B (lo+(hi - lo) / 2) with
  | true=>show wpS_pure (U eb)
  | false=>show wpS_pure (Y eb)
def zhX{key x y:Keyed}(h:f x<=f y)(e:xL f left key y=true):xL f left key x=true:=by
 unfold xL at e ⊢
 cases left with
 | true=>rw[if_pos rfl] at e ⊢;have:=bp e;show a8 (by lia)
 | false=>
  rw[if_neg ay] at e ⊢;simp only[eL,bX] at e ⊢;lia
abbrev leF (f:Keyed->Int)(x y:Keyed):Prop:=f x<=f y
def ziz (R:zbw M A s κ L0 f){left:Bool}{key:Keyed}{a:Array Keyed}{base n hint:Nat}(hy:key∈L0)(ha:∀x∈a,x∈L0)(hn:base+n<=a.size)(hh:hint<n)(hs:((a.toList.drop base).take n).Pairwise (leF f))
  {st:SortSt} (hk:kindOf st=κ) {Q:Option Nat->SortSt->Prop} (h:∀k,k<=n->(∀x∈(a.toList.drop base).take k,xL f left key x=true)->(∀x∈((a.toList.drop base).take n).drop k,xL f left key x=false)->Q (some k) st):wpS M A E s (zjs left key a base n hint) Q st:=by
 have J:((a.toList.drop base).take n).length=n:=by simp;lia
 have q:∀i,i<n->∃x,a[base+i]?=some x/\((a.toList.drop base).take n)[i]?=some x:=λi hi=>by show#[a[base+i],aT (by lia),?_];rw[b8 hi,eC,b9,aT (by lia)]
 show zm9 R hy ha hn hh (B:=λi=>match a[base+i]? with | some x=>xL f left key x | none=>false) (λi x hi e=>by rw[e]) (λi j al hj U=>?_) hk λk Y h1 h2=>h k Y (λx Z=>?_) (λx Z=>?_);obtain⟨x,F,I⟩:=q i (by lia);obtain⟨y,e3,O⟩:=q j hj;rw[F];rw[e3] at U;by_cases e:i=j;subst e;rw[F] at e3;cases e3;show U;show zhX ?_ U;obtain⟨ac,q1⟩:=ah.mp I;obtain⟨ad,q2⟩:=ah.mp O;have:=bN.mp hs i j ac ad (by lia);rw[q1,q2] at this;show this;obtain⟨i,hi,e⟩:=bt.mp Z;have ag:i<k:=by simp at hi;lia
 have:=h1 i ag;obtain⟨y,F,I⟩:=q i (by lia);rw[F] at this;rw[b8 (by lia)] at I;rw[gc] at e;obtain⟨_,O⟩:=ah.mp I;rw[<- e,O];show this;obtain⟨i,hi,e⟩:=bt.mp Z;rw[dw,J] at hi;have:=h2 (k+i) (by lia) (by lia);obtain⟨y,F,I⟩:=q (k+i) (by lia);rw[F] at this;rw[List.getElem_drop] at e;obtain⟨_,O⟩:=ah.mp I;rw[<- e,O];show this
end
structure Mg (R:Keyed->Keyed->Prop)(T out ra rb:List Keyed):Prop where
 perm:(out++(ra++rb)).Perm T
 up:out.Pairwise R
 le:∀x∈out,∀y∈ra++rb,R x y
 ua:ra.Pairwise R
 ub:rb.Pairwise R
section
variable {R:Keyed->Keyed->Prop}{T out ra rb c:List Keyed}
def Mg.a (h:Mg R T out (c++ra) rb)(k:∀x∈c,∀y∈rb,R x y):Mg R T (out++c) ra rb:=by
 have F:=bu.mp h.ua;show#[?_,bu.mpr #[h.up,F.1,λx B y q=>h.le x B y (by simp[q])],λx B y q=>?_,F.2.1,h.ub];have:=h.perm;simpa only[aE] using this
 ·rcases aF.mp B with B | B
  ·show h.le x B y (by rcases aF.mp q with q | q <;> simp[q])
  rcases aF.mp q with q | q;show F.2.2 x B y q;show k x B y q
def Mg.b (h:Mg R T out ra (c++rb))(k:∀x∈c,∀y∈ra,R x y):Mg R T (out++c) ra rb:=by
 have F:=bu.mp h.ub;show#[?_,bu.mpr #[h.up,F.1,λx B y q=>h.le x B y (by simp[q])],λx B y q=>?_,h.ua,F.2.1];show List.Perm.trans ?_ h.perm;rw[aE];show eW _ ?_;rw[<- aE,<- aE];show List.Perm.append_right _ List.perm_append_comm
 ·rcases aF.mp B with B | B
  ·show h.le x B y (by rcases aF.mp q with q | q <;> simp[q])
  rcases aF.mp q with q | q;show k x B y q;show F.2.2 x B y q
def zc2 (R:Keyed->Keyed->Prop)(T out:List Keyed):Prop:=out.Perm T/\out.Pairwise R
def Mg.told (h:Mg R T out [] []):zc2 R T out:=#[by have:=h.perm;simpa using this,h.up]
def Mg.doneA (h:Mg R T out ra []):zc2 R T (out++ra):=(Mg.a (c:=ra) (ra:=[]) (by simpa using h) (λ_ _ _ q=>by simp at q)).told
def Mg.doneB (h:Mg R T out [] rb):zc2 R T (out++rb):=(Mg.b (c:=rb) (rb:=[]) (by simpa using h) (λ_ _ _ q=>by simp at q)).told
def Mg.last(h:Mg R T out [z] rb)(k:∀y∈rb,R y z):zc2 R T (out++rb++[z]):=(Mg.b (c:=rb) (rb:=[]) (by simpa using h) (λx q y B=>by rw[aq.mp B];show k x q)).doneA
def Mg.lastB(h:Mg R T out ra [z])(k:∀y∈ra,R y z):zc2 R T (out++ra++[z]):=(Mg.a (c:=ra) (ra:=[]) (by simpa using h) (λx q y B=>by rw[aq.mp B];show k x q)).doneB
end
def zh2{a:Array Keyed}(h:i<a.size):∃x,a[i]?=some x/\x∈a/\a.toList.drop i=x::a.toList.drop (i+1):=
 #[a[i],aT h,dG h,by rw[b6 (by simpa using h)];rfl]
def zdD (a:Array Keyed)(i:Nat):(a.extract i a.size).toList=a.toList.drop i:=by simp[bg]
def zi5 (l:List Keyed)(i k:Nat):(l.drop i).take k++l.drop (i+k)=l.drop i:=by rw[<- eQ,aX]
def zg7 (a:Array Keyed)(i k:Nat):(a.extract i (i+k)).toList=(a.toList.drop i).take k:=by simp
structure Like (st st':SortSt):Prop where
 kind:kindOf st'=kindOf st
 arr:arrOf st'=arrOf st
 pend:pendingOf st'=pendingOf st
 fail:failedOf st'=failedOf st
section
variable {M:Model}{A:Ae}{E:AA}{s:AZ}{κ:SortKind}{L0:List Keyed}{f:Keyed->Int}
structure LoI (f:Keyed->Int)(T:List Keyed)(a b:Array Keyed)(out:Array Keyed)(ia ib:Nat):Prop where
 mg:Mg (leF f) T out.toList (a.toList.drop ia) (b.toList.drop ib)
 la:ia+1<a.size
 lb:ib<b.size
def zhj {T:List Keyed}{a b out:Array Keyed}{q B:Nat}(mg:Mg (leF f) T out.toList (a.toList.drop q) (b.toList.drop B))(e:(q+1==a.size)=true)(F:∀x∈b,∀y,a[a.size - 1]?=some y->f x<=f y):zc2 (leF f) T (out++b.extract B b.size++a.extract q a.size).toList:=by
 have e:=cm e;obtain⟨z,I,Y,J⟩:=zh2 (a:=a) (i:=q) (by lia);have O:a.toList.drop (q+1)=[]:=by rw[fw];simp;lia
 rw[br,br,zdD,zdD];rw[J,O] at mg ⊢;show mg.last λy U=>F y ?_ z ?_;have:=cK U;simpa using this;rw[<- I];congr 1;lia
def zeU {T:List Keyed}{a b out:Array Keyed}{q B:Nat}(mg:Mg (leF f) T out.toList (a.toList.drop q) (b.toList.drop B))(e:B=b.size\/q=a.size):zc2 (leF f) T (out++a.extract q a.size++b.extract B b.size).toList:=by
 rw[br,br,zdD,zdD];rcases e with e | e;have F:b.toList.drop B=[]:=by rw[fw];simp;lia
 rw[F] at mg ⊢;rw[cB];show mg.doneA;have F:a.toList.drop q=[]:=by rw[fw];simp;lia
 rw[F] at mg ⊢;rw[cB];show mg.doneB
def ziC {α q:Type}{BF:Prop}(C:α->q->Prop)(P:α->q->Prop)(h:(∀a b,C a b->P a b)->BF)(r:∀a b,C a b->P a b):BF:=h r
def zq8 {α:Type}{c:Prop}[Decidable c]{x y:StateT SortSt Sem α}{Q:α->SortSt->Prop}{st:SortSt}(q:c)(h:wpS M A E s x Q st):wpS M A E s (if c then x else y) Q st:=by rw[if_pos q];show h
def zq7 {α:Type}{c:Prop}[Decidable c]{x y:StateT SortSt Sem α}{Q:α->SortSt->Prop}{st:SortSt}(q:¬c)(h:wpS M A E s y Q st):wpS M A E s (if c then x else y) Q st:=by rw[if_neg q];show h
def zZ {α:Type}{c:Prop}[Decidable c]{x y:StateT SortSt Sem α}{Q:α->SortSt->Prop}{st:SortSt}(h:c->wpS M A E s x Q st)(h':¬c->wpS M A E s y Q st):wpS M A E s (if c then x else y) Q st:=if hc:c then zq8 hc (h hc) else zq7 hc (h' hc)
def ex4 {T0 T1 T2 T3:Type}{m p q:T0->T1->T2->T3->Prop}{X BF:Prop}(H:X/\∃B F I J,m B F I J/\p B F I J/\q B F I J)(k:X->∀B F I J,m B F I J->p B F I J->q B F I J->BF):BF:=by obtain⟨x,B,F,I,J,e,h,h'⟩:=H;show k x B F I J e h h'
def ex5 {T0 T1 T2 T3 T4:Type}{m p q:T0->T1->T2->T3->T4->Prop}{X BF:Prop}(H:X/\∃B F I J O,m B F I J O/\p B F I J O/\q B F I J O)(k:X->∀B F I J O,m B F I J O->p B F I J O->q B F I J O->BF):BF:=by obtain⟨x,B,F,I,J,O,e,h,h'⟩:=H;show k x B F I J O e h h'
def exO5 {T0 T1 T2 T3 T4 S:Type}{m p q:T0->T1->T2->T3->T4->Prop}{U t:S->T0->T1->T2->T3->T4->Prop}{X BF:Prop}(H:X/\((∃r B F I J O,U r B F I J O/\t r B F I J O)\/∃B F I J O,m B F I J O/\p B F I J O/\q B F I J O))(Y:X->∀r B F I J O,U r B F I J O->t r B F I J O->BF)(k:X->∀B F I J O,m B F I J O->p B F I J O->q B F I J O->BF):BF:=by
 rcases H with ⟨x,⟨r,B,F,I,J,O,e,h⟩ | ⟨B,F,I,J,O,e,h,h'⟩⟩;show Y x r B F I J O e h;show k x B F I J O e h h'
def ex6 {T0 T1 T2 T3 T4 T5:Type}{m p q:T0->T1->T2->T3->T4->T5->Prop}{X BF:Prop}(H:X/\∃B F I J O U,m B F I J O U/\p B F I J O U/\q B F I J O U)(k:X->∀B F I J O U,m B F I J O U->p B F I J O U->q B F I J O U->BF):BF:=by obtain⟨x,B,F,I,J,O,U,e,h,h'⟩:=H;show k x B F I J O U e h h'
def exO6 {T0 T1 T2 T3 T4 T5 S:Type}{m p q:T0->T1->T2->T3->T4->T5->Prop}{Y t:S->T0->T1->T2->T3->T4->T5->Prop}{X BF:Prop}(H:X/\((∃r B F I J O U,Y r B F I J O U/\t r B F I J O U)\/∃B F I J O U,m B F I J O U/\p B F I J O U/\q B F I J O U))(Z:X->∀r B F I J O U,Y r B F I J O U->t r B F I J O U->BF)(k:X->∀B F I J O U,m B F I J O U->p B F I J O U->q B F I J O U->BF):BF:=by
 rcases H with ⟨x,⟨r,B,F,I,J,O,U,e,h⟩ | ⟨B,F,I,J,O,U,e,h,h'⟩⟩;show Z x r B F I J O U e h;show k x B F I J O U e h h'
def zjj {T:Type}{p q r:T->Prop}{BF:Prop}(H:∃y,p y/\q y/\r y)(k:∀y,p y->q y->r y->BF):BF:=by obtain⟨y,a,b,c⟩:=H;show k y a b c
def zk5 (R:zbw M A s κ L0 f){a b:Array Keyed}(ha:∀x∈a,x∈L0)(hb:∀x∈b,x∈L0)(sa:a.toList.Pairwise (leF f))(sb:b.toList.Pairwise (leF f))(na:1<=a.size)(nb:1<=b.size)
  (hf:∀x∈a,∀y,b[0]?=some y->f y<=f x) (hl:∀x∈b,∀y,a[a.size - 1]?=some y->f x<=f y) {st:SortSt} (hk:kindOf st=κ) {Q:Array Keyed->SortSt->Prop}
  (h:∀out Y,Like st Y->zc2 (leF f) (a.toList++b.toList) out.toList->Q out Y):wpS M A E s (zmk a b) Q st:=by
 show wpS_bind (wpS_lift (dg #[BA,?_]));show zjj (zh2 (a:=b) (i:=0) (by lia)) λy y1 y2 y3=>?_;show wpS_bind (yv y1 ?_)
 have m0:Mg (leF f) (a.toList++b.toList) (#v[y]:Array Keyed).toList (a.toList.drop 0) (b.toList.drop 1):=by
  have h0:Mg (leF f) (a.toList++b.toList) [] a.toList ([y]++b.toList.drop 1):=by have e:b.toList=[y]++b.toList.drop 1:=y3;rw[<- e];show#[by simp,.nil,λ_ hx=>by simp at hx,sa,sb]
  show h0.b λx hx z hz=>by rw[aq.mp hx];show hf z (by simpa using hz) y y1
 dsimp only;show zZ (λe1=>?_) (λe1=>?_);show wpS_pure (h _ _ #[BA,BA,BA,BA] (zeU m0 (.inl (cm e1))));show zZ (λe2=>?_) (λe2=>?_);show wpS_pure (h _ _ #[BA,BA,BA,BA] (zhj m0 e2 hl));have ba:1≠b.size:=λz=>e1 (by rw[<- z];rfl);have bb:1≠a.size:=λz=>e2 (by rw[<- z];rfl);show wpS_bind (wpS_get ?_);show wpS_bind (wpS_mono (bQ (I:=λx c Y=>Like st Y/\∃out ia ib g,c=(none,out,ia,ib,g)/\LoI f (a.toList++b.toList) a b out ia ib/\x+1<=ia+ib) (Q:=λc Y=>Like st Y/\∃r out ia ib g,c=(some r,out,ia,ib,g)/\zc2 (leF f) (a.toList++b.toList) r.toList) ?_ ?_ #[#[BA,BA,BA,BA],_,0,1,_,BA,#[m0,by lia,by lia],by lia]) ?_)
 ·intro x c a2 _ hx H;show ex4 H λl1 out ia ib g e I hp=>?_;clear H;subst e;dsimp only
  show wpS_bind (wpS_mono (bQ (I:=λx c Y=>Like st Y/\∃B J O ac bc,c=(none,B,J,O,ac,bc)/\LoI f (a.toList++b.toList) a b B J O/\x+(ia+ib)<=J+O)
   (Q:=λc Y=>Like st Y/\((∃r B J O ac bc,c=(some r,B,J,O,ac,bc)/\zc2 (leF f) (a.toList++b.toList) r.toList)\/∃B J O ac bc,c=(none,B,J,O,ac,bc)/\LoI f (a.toList++b.toList) a b B J O/\ia+ib+1<=J+O)) ?_ ?_ #[l1,_,_,_,_,_,BA,I,by lia]) ?_)
  intro x2 c a3 _ bd H;show ex5 H λl2 o2 ag al ac bc e I2 a4=>?_;clear H;subst e;dsimp only;have la:=I2.la;have lb:=I2.lb;show zjj (zh2 lb) λy y1 y2 y3=>?_;show zjj (zh2 (a:=a) (i:=ag) (by lia)) λz z1 z2 z3=>?_;show wpS_bind (yv y1 (wpS_bind (yv z1 (wpS_bind (ztF R (hb _ y2) (ha _ z2) (l2.kind.trans hk) ?_)))));have mg:=I2.mg;by_cases a5:f y<f z;rw[a8 a5];dsimp only;show zq8 BA ?_;show wpS_bind (yv y1 ?_);have ua:=mg.ua;rw[z3] at ua;have ua:=bi.mp ua
  have m2:Mg (leF f) (a.toList++b.toList) (o2.push y).toList (a.toList.drop ag) (b.toList.drop (al+1)):=by
   rw[y3] at mg;rw[bY];show Mg.b (c:=[y]) mg λx hx w Z=>?_;rw[aq.mp hx];rw[z3] at Z;change f y<=f w;rcases aA.mp Z with rfl | Z;lia;have h9:f z<=f w:=ua.1 w Z;lia
  show zZ (λe3=>?_) (λe3=>?_);show wpS_pure #[l2,.inl #[_,_,_,_,_,_,BA,zeU m2 (.inl (cm e3))]];have a7:al+1≠b.size:=λq=>e3 (by rw[q];show cI _);split;show wpS_pure #[l2,.inr #[_,_,_,_,_,BA,#[m2,la,by lia],by lia]];show wpS_pure #[l2,_,_,_,_,_,BA,#[m2,la,by lia],by lia];rw[bE a5];dsimp only;show zq7 ay ?_;show wpS_bind (yv z1 ?_);have ub:=mg.ub;rw[y3] at ub;have ub:=bi.mp ub
  have m2:Mg (leF f) (a.toList++b.toList) (o2.push z).toList (a.toList.drop (ag+1)) (b.toList.drop al):=by
   rw[z3] at mg;rw[bY];show Mg.a (c:=[z]) mg λx hx w Z=>?_;rw[aq.mp hx];rw[y3] at Z;change f z<=f w;rcases aA.mp Z with rfl | Z;lia;have h9:f y<=f w:=ub.1 w Z;lia
  show zZ (λe3=>?_) (λe3=>?_);show wpS_pure #[l2,.inl #[_,_,_,_,_,_,BA,zhj m2 e3 hl]];have a7:ag+1+1≠a.size:=λq=>e3 (by rw[q];show cI _);split;show wpS_pure #[l2,.inr #[_,_,_,_,_,BA,#[m2,by lia,lb],by lia]];show wpS_pure #[l2,_,_,_,_,_,BA,#[m2,by lia,lb],by lia];rintro c a3 ⟨l2,o2,ag,al,ac,bc,rfl,I2,a4⟩;have la:=I2.la;have lb:=I2.lb;lia
  ·intro c a3 H;show exO5 H (λl2 r o2 ag al ac bc e ht=>?_) (λl2 o2 ag al ac bc e I2 a4=>?_)
   all_goals clear H
   all_goals subst e
   show wpS_pure #[l2,_,_,_,_,_,BA,ht];dsimp only;show wpS_bind (wpS_lift (dg #[BA,?_]))
   show wpS_bind (wpS_mono (bQ (I:=λx c Y=>Like st Y/\∃B J O g ac bc,c=(none,B,J,O,g,ac,bc)/\LoI f (a.toList++b.toList) a b B J O/\ag+al<=J+O)
    (Q:=λc Y=>Like st Y/\((∃r B J O g ac bc,c=(some r,B,J,O,g,ac,bc)/\zc2 (leF f) (a.toList++b.toList) r.toList)\/∃B J O g ac bc,c=(none,B,J,O,g,ac,bc)/\LoI f (a.toList++b.toList) a b B J O/\ag+al<=J+O)) ?_ ?_ #[l2,_,_,_,_,_,_,BA,I2,ai _]) ?_)
   ·intro x3 c ap _ be H;show ex6 H λl3 o3 U F g3 as a0 e I3 a1=>?_;clear H;subst e;dsimp only;have la:=I3.la;have lb:=I3.lb;have mg:=I3.mg;show zjj (zh2 lb) λy y1 y2 y3=>?_;have ub:=mg.ub;rw[y3] at ub;have ub:=bi.mp ub;refine' ziC (λ(_:Nat) (_:Unit)=>True) _ (λzz=>?_) ?_;rotate_left;by_cases g0:g3 > 1;rw[if_pos g0];generalize g3 - 1=g4;generalize hu:()=u;show zz g4 u trivial;rw[if_neg g0];show zz g3 () trivial;rintro g4 u -
    all_goals
     show wpS_bind (dH ?_);have lk:∀g,Like st (SortSt.mk' (kindOf ap) (arrOf ap) (pendingOf ap) g (failedOf ap)):=λg=>#[l3.kind,l3.arr,l3.pend,l3.fail];show wpS_bind (yv y1 ?_);show wpS_bind (ziz (n:=a.size - U) (left:=false) (hint:=0) R (hb _ y2) ha (by lia) (by lia) (mg.ua.sublist (cw _ _)) ((lk _).kind.trans hk) λk k1 k2 k3=>?_);dsimp only;have h4:∀w∈a.toList.drop (U+k),f y<=f w:=λw Z=>by have:=k3 w (by rw[bg (by simp),eQ];show Z);unfold xL at this;rw[if_neg ay,fV,cy] at this;lia
     have m4:Mg (leF f) (a.toList++b.toList) (o3++a.extract U (U+k)).toList (a.toList.drop (U+k)) (b.toList.drop F):=by
      rw[br,zg7];show Mg.a (by rw[zi5];show mg) λx hx w Z=>?_;have h5:=k2 x hx;unfold xL at h5;rw[if_neg ay,eL,bX] at h5;rw[y3] at Z;change f x<=f w;rcases aA.mp Z with rfl | Z;lia;have h9:f y<=f w:=ub.1 w Z;lia
     refine' ziC (λ(o4:Array Keyed) (ad:Nat)=>Mg (leF f) (a.toList++b.toList) o4.toList (a.toList.drop ad) (b.toList.drop F)/\(∀w∈a.toList.drop ad,f y<=f w)/\ad+1<a.size/\U<=ad) _ (λzz=>?_) ?_;rotate_left;show zZ (λk0=>?pos) (λk0=>?neg)
     case pos=>
      show zZ (λe4=>?_) (λe4=>?_);show wpS_pure #[lk _,.inl #[_,_,_,_,_,_,_,BA,zhj m4 e4 hl]];show zZ (λe5=>?_) (λe5=>?_);show wpS_pure #[lk _,.inl #[_,_,_,_,_,_,_,BA,zeU m4 (.inr (cm e5))]];have bk:U+k+1≠a.size:=λq=>e4 (by rw[q];show cI _);have bl:U+k≠a.size:=λq=>e5 (by rw[q];show cI _);have q1:U+k+1<a.size:=by lia
      have q2:U<=U+k:=by lia
      generalize ho:o3++a.extract U (U+k)=o4;generalize hi:U+k=ad;show zz o4 ad (by rw[<- ho,<- hi];show#[m4,h4,q1,q2])
     case neg=>
      have kz:k=0:=by lia
      rw[kz,gB] at h4;show zz o3 U #[mg,h4,la,ai _]
     clear h4 m4 k1 k2 k3;intro o4 ad H;have m4:=H.1;have h4:=H.2.1;have q1:=H.2.2.1;have q2:=H.2.2.2;clear H
     all_goals
      show wpS_bind (yv y1 ?_);have m5:Mg (leF f) (a.toList++b.toList) (o4.push y).toList (a.toList.drop ad) (b.toList.drop (F+1)):=by rw[y3] at m4;rw[bY];show Mg.b (c:=[y]) m4 λx hx w Z=>by rw[aq.mp hx];show h4 w Z
      show zZ (λe6=>?_) (λe6=>?_);show wpS_pure #[lk _,.inl #[_,_,_,_,_,_,_,BA,zeU m5 (.inl (cm e6))]];have bo:F+1≠b.size:=λq=>e6 (by rw[q];show cI _);show zjj (zh2 (a:=a) (i:=ad) (by lia)) λz z1 z2 z3=>?_;show wpS_bind (yv z1 ?_);have ua:=m5.ua;rw[z3] at ua;have ua:=bi.mp ua;show wpS_bind (ziz (n:=b.size - (F+1)) (left:=true) (hint:=0) R (ha _ z2) hb (by lia) (by lia) (m5.ub.sublist (cw _ _)) ((lk _).kind.trans hk) λj j1 j2 j3=>?_);dsimp only;have h6:∀w∈b.toList.drop (F+1+j),f z<=f w:=λw Z=>by have:=j3 w (by rw[bg (by simp),eQ];show Z);unfold xL at this;rw[if_pos rfl,bX] at this;lia
      have m6:Mg (leF f) (a.toList++b.toList) (o4.push y++b.extract (F+1) (F+1+j)).toList (a.toList.drop ad) (b.toList.drop (F+1+j)):=by
       rw[br,zg7];show Mg.b (by rw[zi5];show m5) λx hx w Z=>?_;have h5:=j2 x hx;unfold xL at h5;rw[if_pos rfl,cy] at h5;rw[z3] at Z;change f x<=f w;rcases aA.mp Z with rfl | Z;lia;have h9:f z<=f w:=ua.1 w Z;lia
      refine' ziC (λ(o5:Array Keyed) (an:Nat)=>Mg (leF f) (a.toList++b.toList) o5.toList (a.toList.drop ad) (b.toList.drop an)/\(∀w∈b.toList.drop an,f z<=f w)/\an<b.size/\F<=an) _ (λzz=>?_) ?_;rotate_left;show zZ (λj0=>?pos) (λj0=>?neg)
      case pos=>
       show zZ (λe7=>?_) (λe7=>?_);show wpS_pure #[lk _,.inl #[_,_,_,_,_,_,_,BA,zeU m6 (.inl (cm e7))]];have bs:F+1+j≠b.size:=λq=>e7 (by rw[q];show cI _);have q3:F+1+j<b.size:=by lia
       have q4:F<=F+1+j:=by lia
       generalize ho:o4.push y++b.extract (F+1) (F+1+j)=o5;generalize hi:F+1+j=an;show zz o5 an (by rw[<- ho,<- hi];show#[m6,h6,q3,q4])
      case neg=>
       have jz:j=0:=by lia
       rw[jz,gB] at h6;show zz (o4.push y) (F+1) #[m5,h6,by lia,by lia]
      clear h6 m6 j1 j2 j3;intro o5 an H;have m6:=H.1;have h6:=H.2.1;have q3:=H.2.2.1;have q4:=H.2.2.2;clear H
      all_goals
       show wpS_bind (yv z1 ?_);have m7:Mg (leF f) (a.toList++b.toList) (o5.push z).toList (a.toList.drop (ad+1)) (b.toList.drop an):=by rw[z3] at m6;rw[bY];show Mg.a (c:=[z]) m6 λx hx w Z=>by rw[aq.mp hx];show h6 w Z
       show zZ (λe8=>?_) (λe8=>?_);show wpS_pure #[lk _,.inl #[_,_,_,_,_,_,_,BA,zhj m7 e8 hl]];have bx:ad+1+1≠a.size:=λq=>e8 (by rw[q];show cI _);split;show wpS_pure #[lk _,.inr #[_,_,_,_,_,_,BA,#[m7,by lia,q3],by lia]];show wpS_pure #[lk _,_,_,_,_,_,_,BA,#[m7,by lia,q3],by lia]
   rintro c ap ⟨l3,o3,U,F,g3,as,a0,rfl,I3,a1⟩;show#[l3,.inr #[_,_,_,_,_,_,BA,I3,a1]]
   ·intro c ap H;show exO6 H (λl3 r o3 U F g3 as a0 e ht=>?_) (λl3 o3 U F g3 as a0 e I3 a1=>?_)
    all_goals clear H
    all_goals subst e
    show wpS_pure #[l3,_,_,_,_,_,BA,ht];dsimp only;show wpS_bind (dH (wpS_pure #[#[l3.kind,l3.arr,l3.pend,l3.fail],_,_,_,_,BA,I3,by lia]))
 rintro c a2 ⟨l1,out,ia,ib,g,rfl,I,hp⟩;have:=I.la;have:=I.lb;lia;rintro c a2 ⟨l1,r,out,ia,ib,g,rfl,ht⟩;show wpS_pure (h _ _ l1 ht)
abbrev geF (f:Keyed->Int)(x y:Keyed):Prop:=f y<=f x
def zeB(h:zc2 (geF f) T l):zc2 (leF f) T l.reverse:=#[(dJ l).trans h.1,eX.mpr h.2]
def ziB{a:Array Keyed}(h1:1<=n)(h:n<=a.size):∃x,a[n - 1]?=some x/\x∈a/\(a.toList.take n).reverse=x::(a.toList.take (n - 1)).reverse:=by obtain⟨i,rfl⟩:∃i,n=i+1:=#[n - 1,by lia];show#[a[i],aT (by lia),dG _,?_];rw[List.take_succ_eq_append_getElem (by rw[aO];show h),fK];rfl
def zbN (a:Array Keyed)(n:Nat):(a.extract 0 n).toList=a.toList.take n:=by simp
def zjl (a:Array Keyed)(i n:Nat):(a.extract i n).reverse.toList=((a.toList.take n).drop i).reverse:=by simp[List.drop_take]
def zi6(l:List Keyed)(h:i<=n):((l.take n).drop i).reverse++(l.take i).reverse=(l.take n).reverse:=by
 rw[<- fK];congr 1;have:l.take i=(l.take n).take i:=by rw[List.take_take,ez h]
 rw[this,aX]
structure HiI (f:Keyed->Int)(T:List Keyed)(a b:Array Keyed)(out:Array Keyed)(na nb:Nat):Prop where
 mg:Mg (geF f) T out.toList (a.toList.take na).reverse (b.toList.take nb).reverse
 la:1<=na
 ma:na<=a.size
 lb:2<=nb
 mb:nb<=b.size
def zdE{T:List Keyed}{a b out:Array Keyed}(mg:Mg (geF f) T out.toList (a.toList.take q).reverse (b.toList.take B).reverse)(e:(B==1)=true)(hn:1<=b.size)(I:∀x∈a,∀y,b[0]?=some y->f y<=f x):zc2 (leF f) T (b.extract 0 B++a.extract 0 q++out.reverse).toList:=by
 have e:=cm e;subst e;show zjj (ziB (a:=b) (n:=1) (ai _) hn) λz J Y F=>?_;rw[br,br,zbN,zbN,Array.toList_reverse];rw[F] at mg;have mg:Mg (geF f) T out.toList (a.toList.take q).reverse [z]:=mg;have t:=zeB (mg.lastB λy O=>I y (by have:=bI (bU.mp O);simpa using this) z J);have U:b.toList.take 1=[z]:=by rw[<- List.reverse_reverse (b.toList.take 1),F];rfl
 rw[U];simpa using t
def zeT{T:List Keyed}{a b out:Array Keyed}(mg:Mg (geF f) T out.toList (a.toList.take q).reverse (b.toList.take B).reverse)(e:q=0\/B=0):zc2 (leF f) T (a.extract 0 q++b.extract 0 B++out.reverse).toList:=by
 rw[br,br,zbN,zbN,Array.toList_reverse];rcases e with rfl | rfl;have t:=zeB (Mg.doneB (by simpa using mg));simpa using t;have t:=zeB (Mg.doneA (by simpa using mg));simpa using t
def zk4 (R:zbw M A s κ L0 f){a b:Array Keyed}(ha:∀x∈a,x∈L0)(hb:∀x∈b,x∈L0)(sa:a.toList.Pairwise (leF f))(sb:b.toList.Pairwise (leF f))(na:1<=a.size)(nb:1<=b.size)
  (hf:∀x∈a,∀y,b[0]?=some y->f y<=f x) (hl:∀x∈b,∀y,a[a.size - 1]?=some y->f x<=f y) {st:SortSt} (hk:kindOf st=κ) {Q:Array Keyed->SortSt->Prop}
  (h:∀out U,Like st U->zc2 (leF f) (a.toList++b.toList) out.toList->Q out U):wpS M A E s (zmj a b) Q st:=by
 show wpS_bind (wpS_lift (dg #[BA,?_]));show zjj (ziB na (ai _)) λy y1 y2 y3=>?_;show wpS_bind (yv y1 ?_)
 have m0:Mg (geF f) (a.toList++b.toList) (#v[y]:Array Keyed).toList (a.toList.take (a.size - 1)).reverse (b.toList.take b.size).reverse:=by
  have ea:a.toList.take a.size=a.toList:=bg (by simp);have eb:b.toList.take b.size=b.toList:=bg (by simp)
  have h0:Mg (geF f) (a.toList++b.toList) [] ([y]++(a.toList.take (a.size - 1)).reverse) (b.toList.take b.size).reverse:=by
   have e:a.toList.reverse=[y]++(a.toList.take (a.size - 1)).reverse:=by rw[ea] at y3;show y3
   rw[<- e,eb];show#[(dJ _).append (dJ _),.nil,λ_ hx=>by simp at hx,eX.mpr sa,eX.mpr sb]
  show h0.a λx hx z hz=>by rw[aq.mp hx];show hl z (by have:=bI (bU.mp hz);simpa using this) y y1
 dsimp only;show zZ (λe1=>?_) (λe1=>?_);show wpS_pure (h _ _ #[BA,BA,BA,BA] (zeT m0 (.inl (cm e1))));show zZ (λe2=>?_) (λe2=>?_);show wpS_pure (h _ _ #[BA,BA,BA,BA] (zdE m0 e2 nb hf));have a7:a.size - 1≠0:=λz=>e1 (by rw[z];rfl);have ba:b.size≠1:=λz=>e2 (by rw[z];rfl);show wpS_bind (wpS_get ?_);show wpS_bind (wpS_mono (bQ (I:=λx c U=>Like st U/\∃ia ib out g,c=(none,ia,ib,out,g)/\HiI f (a.toList++b.toList) a b out ia ib/\x+(ia+ib)+1<=a.size+b.size) (Q:=λc U=>Like st U/\∃r ia ib out g,c=(some r,ia,ib,out,g)/\zc2 (leF f) (a.toList++b.toList) r.toList) ?_ ?_ #[#[BA,BA,BA,BA],_,_,_,_,BA,#[m0,by lia,by lia,by lia,by lia],by lia]) ?_)
 ·intro x c a0 _ hx H;show ex4 H λl1 ia ib out g e I hp=>?_;clear H;subst e;dsimp only
  show wpS_bind (wpS_mono (bQ (I:=λx c U=>Like st U/\∃F J B ac bc,c=(none,F,J,B,ac,bc)/\HiI f (a.toList++b.toList) a b B F J/\x+(F+J)<=ia+ib)
   (Q:=λc U=>Like st U/\((∃r F J B ac bc,c=(some r,F,J,B,ac,bc)/\zc2 (leF f) (a.toList++b.toList) r.toList)\/∃F J B ac bc,c=(none,F,J,B,ac,bc)/\HiI f (a.toList++b.toList) a b B F J/\F+J+1<=ia+ib)) ?_ ?_ #[l1,_,_,_,_,_,BA,I,by lia]) ?_)
  intro x2 c a1 _ bb H;show ex5 H λl2 ad Z o2 ac bc e I2 a2=>?_;clear H;subst e;dsimp only;have la:=I2.la;have lb:=I2.lb;have ma:=I2.ma;have mb:=I2.mb;show zjj (ziB (a:=b) (n:=Z) (by lia) mb) λy y1 y2 y3=>?_;show zjj (ziB la ma) λz z1 z2 z3=>?_;show wpS_bind (yv y1 (wpS_bind (yv z1 (wpS_bind (ztF R (hb _ y2) (ha _ z2) (l2.kind.trans hk) ?_)))));have mg:=I2.mg;by_cases a3:f y<f z;rw[a8 a3];dsimp only;show zq8 BA ?_;show wpS_bind (yv z1 ?_);have ub:=mg.ub;rw[y3] at ub;have ub:=bi.mp ub
  have m2:Mg (geF f) (a.toList++b.toList) (o2.push z).toList (a.toList.take (ad - 1)).reverse (b.toList.take Z).reverse:=by
   rw[z3] at mg;rw[bY];show Mg.a (c:=[z]) mg λx hx w Y=>?_;rw[aq.mp hx];rw[y3] at Y;change f w<=f z;rcases aA.mp Y with rfl | Y;lia;have h9:f w<=f y:=ub.1 w Y;lia
  show zZ (λe3=>?_) (λe3=>?_);show wpS_pure #[l2,.inl #[_,_,_,_,_,_,BA,zeT m2 (.inl (cm e3))]];have a4:ad - 1≠0:=λq=>e3 (by rw[q];rfl);split;show wpS_pure #[l2,.inr #[_,_,_,_,_,BA,#[m2,by lia,by lia,lb,mb],by lia]];show wpS_pure #[l2,_,_,_,_,_,BA,#[m2,by lia,by lia,lb,mb],by lia];rw[bE a3];dsimp only;show zq7 ay ?_;show wpS_bind (yv y1 ?_);have ua:=mg.ua;rw[z3] at ua;have ua:=bi.mp ua
  have m2:Mg (geF f) (a.toList++b.toList) (o2.push y).toList (a.toList.take ad).reverse (b.toList.take (Z - 1)).reverse:=by
   rw[y3] at mg;rw[bY];show Mg.b (c:=[y]) mg λx hx w Y=>?_;rw[aq.mp hx];rw[z3] at Y;change f w<=f y;rcases aA.mp Y with rfl | Y;lia;have h9:f w<=f z:=ua.1 w Y;lia
  show zZ (λe3=>?_) (λe3=>?_);show wpS_pure #[l2,.inl #[_,_,_,_,_,_,BA,zdE m2 e3 nb hf]];have a4:Z - 1≠1:=λq=>e3 (by rw[q];rfl);split;show wpS_pure #[l2,.inr #[_,_,_,_,_,BA,#[m2,la,ma,by lia,by lia],by lia]];show wpS_pure #[l2,_,_,_,_,_,BA,#[m2,la,ma,by lia,by lia],by lia];rintro c a1 ⟨l2,ad,Z,o2,ac,bc,rfl,I2,a2⟩;have la:=I2.la;have lb:=I2.lb;lia
  ·intro c a1 H;show exO5 H (λl2 r ad Z o2 ac bc e ht=>?_) (λl2 ad Z o2 ac bc e I2 a2=>?_)
   all_goals clear H
   all_goals subst e
   show wpS_pure #[l2,_,_,_,_,_,BA,ht];dsimp only;show wpS_bind (wpS_lift (dg #[BA,?_]))
   show wpS_bind (wpS_mono (bQ (I:=λx c U=>Like st U/\∃F J B g ac bc,c=(none,F,J,B,g,ac,bc)/\HiI f (a.toList++b.toList) a b B F J/\F+J<=ad+Z)
    (Q:=λc U=>Like st U/\((∃r F J B g ac bc,c=(some r,F,J,B,g,ac,bc)/\zc2 (leF f) (a.toList++b.toList) r.toList)\/∃F J B g ac bc,c=(none,F,J,B,g,ac,bc)/\HiI f (a.toList++b.toList) a b B F J/\F+J<=ad+Z)) ?_ ?_ #[l2,_,_,_,_,_,_,BA,I2,ai _]) ?_)
   ·intro x3 c al _ bd H;show ex6 H λl3 ag O o3 g3 an ap e I3 as=>?_;clear H;subst e;dsimp only;have la:=I3.la;have lb:=I3.lb;have ma:=I3.ma;have mb:=I3.mb;have mg:=I3.mg;show zjj (ziB (a:=b) (n:=O) (by lia) mb) λy y1 y2 y3=>?_;have ub:=mg.ub;rw[y3] at ub;have ub:=bi.mp ub;refine' ziC (λ(_:Nat) (_:Unit)=>True) _ (λzz=>?_) ?_;rotate_left;by_cases g0:g3 > 1;rw[if_pos g0];generalize g3 - 1=g4;generalize hu:()=u;show zz g4 u trivial;rw[if_neg g0];show zz g3 () trivial;rintro g4 u -
    all_goals
     show wpS_bind (dH ?_);have lk:∀g,Like st (SortSt.mk' (kindOf al) (arrOf al) (pendingOf al) g (failedOf al)):=λg=>#[l3.kind,l3.arr,l3.pend,l3.fail];show wpS_bind (yv y1 ?_);show wpS_bind (ziz (left:=false) (base:=0) (n:=ag) (hint:=ag - 1) R (hb _ y2) ha (by lia) (by lia) (sa.sublist ((cw _ _).trans (eM _ _))) ((lk _).kind.trans hk) λk k1 k2 k3=>?_);dsimp only;rw[dN] at k2 k3;have h4:∀w∈(a.toList.take k).reverse,f w<=f y:=λw Y=>by have h5:=k2 w (bU.mp Y);unfold xL at h5;rw[if_neg ay,eL,bX] at h5;lia
     have m4:Mg (geF f) (a.toList++b.toList) (o3++(a.extract k ag).reverse).toList (a.toList.take k).reverse (b.toList.take O).reverse:=by
      rw[br,zjl];show Mg.a (by rw[zi6 _ k1];show mg) λx hx w Y=>?_;have h5:=k3 x (bU.mp hx);unfold xL at h5;rw[if_neg ay,fV,cy] at h5;rw[y3] at Y;change f w<=f x;rcases aA.mp Y with rfl | Y;lia;have h9:f w<=f y:=ub.1 w Y;lia
     have q2:k<=a.size:=by lia
     have q5:k+O<=ad+Z:=by lia
     refine' ziC (λ(o4:Array Keyed) (k:Nat)=>Mg (geF f) (a.toList++b.toList) o4.toList (a.toList.take k).reverse (b.toList.take O).reverse/\(∀w∈(a.toList.take k).reverse,f w<=f y)/\1<=k/\k<=a.size/\k+O<=ad+Z) _ (λzz=>?_) ?_;rotate_left;show zZ (λk0=>?pos) (λk0=>?neg)
     case pos=>
      show zZ (λe4=>?_) (λe4=>?_);show wpS_pure #[lk _,.inl #[_,_,_,_,_,_,_,BA,zeT m4 (.inl (cm e4))]];have be:k≠0:=λq=>e4 (by rw[q];rfl);have q1:1<=k:=by lia
      generalize ho:o3++(a.extract k ag).reverse=o4;generalize hi:k=k4;show zz o4 k4 (by rw[<- ho,<- hi];show#[m4,h4,q1,q2,q5])
     case neg=>
      have a5:k=ag:=by lia
      rw[a5] at h4 q5 ⊢;show zz o3 ag #[mg,h4,la,ma,q5]
     clear h4 m4 q2 q5 k1 k2 k3;clear k;intro o4 k H;have m4:=H.1;have h4:=H.2.1;have q1:=H.2.2.1;have q2:=H.2.2.2.1;have q5:=H.2.2.2.2;clear H
     all_goals
      show wpS_bind (yv y1 ?_);have m5:Mg (geF f) (a.toList++b.toList) (o4.push y).toList (a.toList.take k).reverse (b.toList.take (O - 1)).reverse:=by rw[y3] at m4;rw[bY];show Mg.b (c:=[y]) m4 λx hx w Y=>by rw[aq.mp hx];show h4 w Y
      show zZ (λe6=>?_) (λe6=>?_);show wpS_pure #[lk _,.inl #[_,_,_,_,_,_,_,BA,zdE m5 e6 nb hf]];have bk:O - 1≠1:=λq=>e6 (by rw[q];rfl);show zjj (ziB q1 q2) λz z1 z2 z3=>?_;show wpS_bind (yv z1 ?_);have ua:=m5.ua;rw[z3] at ua;have ua:=bi.mp ua;show wpS_bind (ziz (left:=true) (base:=0) (n:=O - 1) (hint:=O - 1 - 1) R (ha _ z2) hb (by lia) (by lia) (sb.sublist ((cw _ _).trans (eM _ _))) ((lk _).kind.trans hk) λj j1 j2 j3=>?_);dsimp only;rw[dN] at j2 j3;have h6:∀w∈(b.toList.take j).reverse,f w<=f z:=λw Y=>by have h5:=j2 w (bU.mp Y);unfold xL at h5;rw[if_pos rfl,cy] at h5;lia
      have m6:Mg (geF f) (a.toList++b.toList) (o4.push y++(b.extract j (O - 1)).reverse).toList (a.toList.take k).reverse (b.toList.take j).reverse:=by
       rw[br,zjl];show Mg.b (by rw[zi6 _ j1];show m5) λx hx w Y=>?_;have h5:=j3 x (bU.mp hx);unfold xL at h5;rw[if_pos rfl,bX] at h5;rw[z3] at Y;change f w<=f x;rcases aA.mp Y with rfl | Y;lia;have h9:f w<=f z:=ua.1 w Y;lia
      refine' ziC (λ(o5:Array Keyed) (j:Nat)=>Mg (geF f) (a.toList++b.toList) o5.toList (a.toList.take k).reverse (b.toList.take j).reverse/\(∀w∈(b.toList.take j).reverse,f w<=f z)/\2<=j/\j<=O - 1) _ (λzz=>?_) ?_;rotate_left;show zZ (λj0=>?pos) (λj0=>?neg)
      case pos=>
       show zZ (λe7=>?_) (λe7=>?_);show wpS_pure #[lk _,.inl #[_,_,_,_,_,_,_,BA,zdE m6 e7 nb hf]];show zZ (λe8=>?_) (λe8=>?_);show wpS_pure #[lk _,.inl #[_,_,_,_,_,_,_,BA,zeT m6 (.inr (cm e8))]];have bl:j≠1:=λq=>e7 (by rw[q];rfl);have bo:j≠0:=λq=>e8 (by rw[q];rfl);have q3:2<=j:=by lia
       generalize ho:o4.push y++(b.extract j (O - 1)).reverse=o5;generalize hi:j=j4;show zz o5 j4 (by rw[<- ho,<- hi];show#[m6,h6,q3,j1])
      case neg=>
       have hj:j=O - 1:=by lia
       rw[hj] at h6 ⊢;show zz (o4.push y) (O - 1) #[m5,h6,by lia,ai _]
      clear h6 m6 j1 j2 j3;clear j;intro o5 j H;have m6:=H.1;have h6:=H.2.1;have q3:=H.2.2.1;have j1:=H.2.2.2;clear H
      all_goals
       show wpS_bind (yv z1 ?_);have m7:Mg (geF f) (a.toList++b.toList) (o5.push z).toList (a.toList.take (k - 1)).reverse (b.toList.take j).reverse:=by rw[z3] at m6;rw[bY];show Mg.a (c:=[z]) m6 λx hx w Y=>by rw[aq.mp hx];show h6 w Y
       show zZ (λe9=>?_) (λe9=>?_);show wpS_pure #[lk _,.inl #[_,_,_,_,_,_,_,BA,zeT m7 (.inl (cm e9))]];have bs:k - 1≠0:=λq=>e9 (by rw[q];rfl);split;show wpS_pure #[lk _,.inr #[_,_,_,_,_,_,BA,#[m7,by lia,by lia,q3,by lia],by lia]];show wpS_pure #[lk _,_,_,_,_,_,_,BA,#[m7,by lia,by lia,q3,by lia],by lia]
   rintro c al ⟨l3,ag,O,o3,g3,an,ap,rfl,I3,as⟩;show#[l3,.inr #[_,_,_,_,_,_,BA,I3,as]]
   ·intro c al H;show exO6 H (λl3 r ag O o3 g3 an ap e ht=>?_) (λl3 ag O o3 g3 an ap e I3 as=>?_)
    all_goals clear H
    all_goals subst e
    show wpS_pure #[l3,_,_,_,_,_,BA,ht];dsimp only;show wpS_bind (dH (wpS_pure #[#[l3.kind,l3.arr,l3.pend,l3.fail],_,_,_,_,BA,I3,by lia]))
 rintro c a0 ⟨l1,ia,ib,out,g,rfl,I,hp⟩;have:=I.la;have:=I.lb;lia;rintro c a0 ⟨l1,r,ia,ib,out,g,rfl,ht⟩;show wpS_pure (h _ _ l1 ht)
end
def kA (f:Keyed->Int)(a:Array Keyed)(i:Nat):Int:=match a[i]? with | some x=>f x | none=>0
def Seg (f:Keyed->Int)(a:Array Keyed)(lo hi:Nat):Prop:=∀i j,lo<=i->i<=j->j<hi->kA f a i<=kA f a j
def Gse (f:Keyed->Int)(a:Array Keyed)(lo hi:Nat):Prop:=∀i j,lo<=i->i<=j->j<hi->kA f a j<=kA f a i
structure Lk (lo:Nat)(st st':SortSt):Prop where
 kind:kindOf st'=kindOf st
 pend:pendingOf st'=pendingOf st
 fail:failedOf st'=failedOf st
 perm:(arrOf st').Perm (arrOf st)
 low:∀k,k<lo->(arrOf st')[k]?=(arrOf st)[k]?
section
variable {M:Model}{A:Ae}{E:AA}{s:AZ}{κ:SortKind}{L0:List Keyed}{f:Keyed->Int}
def zaJ(h:a[i]?=b[j]?):kA f a i=kA f b j:=by unfold kA;rw[h]
def Lk.refl (lo:Nat)(st:SortSt):Lk lo st st:=#[BA,BA,BA,.refl _,λ_ _=>rfl]
def Lk.trans {lo:Nat}{st B q:SortSt}(h:Lk lo st B)(k:Lk lo B q):Lk lo st q:=#[k.kind.trans h.kind,k.pend.trans h.pend,k.fail.trans h.fail,k.perm.trans h.perm,λi hi=>(k.low i hi).trans (h.low i hi)]
def Lk.size {lo:Nat}{st q:SortSt}(h:Lk lo st q):(arrOf q).size=(arrOf st).size:=h.perm.size_eq
def Lk.mem {lo:Nat}{st q:SortSt}(h:Lk lo st q)(k:∀x∈arrOf st,x∈L0):∀x∈arrOf q,x∈L0:=λx B=>k x (h.perm.mem_iff.mp B)
def zfN (R:zbw M A s κ L0 f){st:SortSt}{i j:Nat}(I:kindOf st=κ)(q:∀x∈arrOf st,x∈L0)(hi:i<(arrOf st).size)(J:j<(arrOf st).size){Q:Option Bool->SortSt->Prop}(h:Q (some (decide (kA f (arrOf st) i<kA f (arrOf st) j))) st):wpS M A E s (ltAt' i j) Q st:=by rw[ltAt'_eq];show wpS_bind (wpS_get ?_);have B:(arrOf st)[i]?=some (arrOf st)[i]:=aT hi;have F:(arrOf st)[j]?=some (arrOf st)[j]:=aT J;show wpS_bind (yv B (wpS_bind (yv F (ztF R (q _ (dG _)) (q _ (dG _)) I ?_))));unfold kA at h;rw[B,F] at h;show h
def zna{st:SortSt}{Q:Unit->SortSt->Prop}(h:Q () (setArr st (mirror (arrOf st) i j ((j - i) / 2)))):wpS M A E s (reverseSlice' i j) Q st:=by rw[reverseSlice'_eq];show dH h
def Lk.rev {lo:Nat}(st:SortSt){i j:Nat}(h1:lo<=i)(h2:j<=(arrOf st).size):Lk lo st (setArr st (mirror (arrOf st) i j ((j - i) / 2))):=#[BA,BA,BA,mirror_perm _ _ _ _,λk q=>by change (mirror (arrOf st) i j ((j - i) / 2))[k]?=_;rw[getElem?_mirror_all h2,if_neg (by lia)]]
def zb7(h2:j<=a.size)(k:Nat):kA f (mirror a i j ((j - i) / 2)) k=if i<=k/\k<j then kA f a (i+j - 1 - k) else kA f a k:=by
 have e:=getElem?_mirror_all (i:=i) h2 k;by_cases h:i<=k/\k<j;rw[if_pos h] at e ⊢;show zaJ e;rw[if_neg h] at e ⊢;show zaJ e
def uS {a:Array Keyed}{i j:Nat}(h2:j<=a.size)(h:∀k,i<=k->k<j->kA f a k=kA f a (j - 1))(k:Nat):kA f (mirror a i j ((j - i) / 2)) k=kA f a k:=by
 rw[zb7 h2];split;rw[h _ (by lia) (by lia),h k (by lia) (by lia)];rfl
def Gse.turn {a:Array Keyed}{i j:Nat}(h2:j<=a.size)(h:Gse f a i j):Seg f (mirror a i j ((j - i) / 2)) i j:=λp q B I F=>by rw[zb7 h2,zb7 h2,if_pos #[B,by lia],if_pos #[by lia,F]];show h _ _ (by lia) (by lia) (by lia)
def ziy (R:zbw M A s κ L0 f){st:SortSt}{lo nrem:Nat}(hk:kindOf st=κ)(ha:∀x∈arrOf st,x∈L0)(h1:1<=nrem)(hz:lo+nrem<=(arrOf st).size){Q:Option Nat->SortSt->Prop}
  (h:∀m st',Lk lo st st'->1<=m->m<=nrem->Seg f (arrOf st') lo (lo+m)->Q (some m) st'):wpS M A E s (countRun' lo nrem) Q st:=by
 rw[countRun'_eq]
 have asc:∀ (n:Nat) (st1:SortSt),Lk lo st st1->1<=n->n<=nrem->Seg f (arrOf st1) lo (lo+n)->∀ {BF:Option (Option Nat)×Nat->SortSt->Prop} {body:Nat->Option (Option Nat)×Nat->StateT SortSt Sem (ForInStep (Option (Option Nat)×Nat))},
   (∀m,n<=m->m<=nrem->Seg f (arrOf st1) lo (lo+m)->(m<nrem->kA f (arrOf st1) (lo+m)<kA f (arrOf st1) (lo+m - 1))->BF (none,m) st1)->
   (∀x m (G':ForInStep (Option (Option Nat)×Nat)->SortSt->Prop),n<=m->m<nrem->(kA f (arrOf st1) (lo+m)<kA f (arrOf st1) (lo+m - 1)->G' (.done (none,m)) st1)->(¬ kA f (arrOf st1) (lo+m)<kA f (arrOf st1) (lo+m - 1)->G' (.yield (none,m+1)) st1)->wpS M A E s (body x (none,m)) G' st1)->
   wpS M A E s (forIn [n:nrem] (none,n) body) BF st1:=by
  intro n st1 l1 hn1 hn2 hs BF body hG hb;have hz1:=l1.size;show bQ (I:=λx c st2=>st2=st1/\c=(none,x)/\n<=x/\Seg f (arrOf st1) lo (lo+x)) ?_ ?_ #[BA,BA,ai _,hs];rintro x c st2 hx1 hx2 ⟨rfl,rfl,_,hs2⟩;show hb x x _ hx1 hx2 (λe=>hG x hx1 (by lia) hs2 λ_=>e) (λe=>?_);show#[BA,BA,by lia,λi j p q r=>?_];by_cases e1:j<lo+x;show hs2 i j p q e1;obtain rfl:j=lo+x:=by lia
  by_cases e2:i=lo+x;subst e2;show du _;have:=hs2 i (lo+x - 1) p (by lia) (by lia);lia;rintro c st2 ⟨rfl,rfl,_,hs2⟩;have e:max n nrem=nrem:=by lia
  rw[e] at hs2 ⊢;show hG nrem hn2 (ai _) hs2 λz=>by lia
 have step:∀ (st1:SortSt),Lk lo st st1->∀m,1<=m->m<nrem->∀ (G':ForInStep (Option (Option Nat)×Nat)->SortSt->Prop),(kA f (arrOf st1) (lo+m)<kA f (arrOf st1) (lo+m - 1)->G' (.done (none,m)) st1)->(¬ kA f (arrOf st1) (lo+m)<kA f (arrOf st1) (lo+m - 1)->G' (.yield (none,m+1)) st1)->
   ∀ {k:Option Bool->StateT SortSt Sem (ForInStep (Option (Option Nat)×Nat))},k (some true)=pure (.done (none,m))->k (some false)=pure (.yield (none,m+1))->wpS M A E s (ltAt' (lo+m) (lo+m - 1) >>= k) G' st1:=by
  intro st1 l1 m h2 h3 G' g1 g2 k k1 k2;have hz1:=l1.size;show wpS_bind (zfN R (l1.kind.trans hk) (l1.mem ha) (by lia) (by lia) ?_);by_cases e:kA f (arrOf st1) (lo+m)<kA f (arrOf st1) (lo+m - 1);rw[a8 e,k1];show wpS_pure (g1 e);rw[bE e,k2];show wpS_pure (g2 e)
 show wpS_bind (asc 1 st (Lk.refl _ _) (ai _) h1 (λi j p q r=>by rw[show i=j by lia];show du _) (λm hm1 hm2 hs hd=>?_) (λx m G' q1 q2 g1 g2=>step st (Lk.refl _ _) m (by lia) q2 G' g1 g2 BA BA))
 have fall:∀st1,Lk lo st st1->m<nrem->Gse f (arrOf st1) lo (lo+(m+1))->∀ {BF:Option (Option Nat)×Nat×Nat->SortSt->Prop} {body:Nat->Option (Option Nat)×Nat×Nat->StateT SortSt Sem (ForInStep (Option (Option Nat)×Nat×Nat))},
   (∀n q st2,Lk lo st st2->m+1<=n->n<=nrem->q+1<=n->Gse f (arrOf st2) lo (lo+n)->(∀k,lo+n - (q+1)<=k->k<lo+n->kA f (arrOf st2) k=kA f (arrOf st2) (lo+n - 1))->BF (none,n,q) st2)->
   (∀x n q st2 (G':ForInStep (Option (Option Nat)×Nat×Nat)->SortSt->Prop),Lk lo st st2->m+1<=n->n<nrem->q+1<=n->
    (kA f (arrOf st2) (lo+n)<kA f (arrOf st2) (lo+n - 1)->q > 0->G' (.yield (none,n+1,0)) (setArr st2 (mirror (arrOf st2) (lo+n - (q+1)) (lo+n) ((lo+n - (lo+n - (q+1))) / 2))))->(kA f (arrOf st2) (lo+n)<kA f (arrOf st2) (lo+n - 1)->¬ q > 0->G' (.yield (none,n+1,0)) st2)->
    (kA f (arrOf st2) (lo+n - 1)<kA f (arrOf st2) (lo+n)->G' (.done (none,n,q)) st2)->(kA f (arrOf st2) (lo+n)=kA f (arrOf st2) (lo+n - 1)->G' (.yield (none,n+1,q+1)) st2)->wpS M A E s (body x (none,n,q)) G' st2)->
   wpS M A E s (forIn [m+1:nrem] (none,m+1,0) body) BF st1:=by
  intro st1 l1 hmn hg BF body hG hb;show bQ (I:=λx c st2=>∃q,c=(none,x,q)/\Lk lo st st2/\m+1<=x/\q+1<=x/\Gse f (arrOf st2) lo (lo+x)/\∀k,lo+x - (q+1)<=k->k<lo+x->kA f (arrOf st2) k=kA f (arrOf st2) (lo+x - 1)) ?_ ?_ #[0,BA,l1,ai _,by lia,hg,λk p q=>by congr 1;lia];rintro x c st2 hx1 hx2 ⟨q,rfl,l2,p1,p2,p3,p4⟩;have hz2:=l2.size
  have more:∀st3:SortSt,(∀k,kA f (arrOf st3) k=kA f (arrOf st2) k)->kA f (arrOf st2) (lo+x)<=kA f (arrOf st2) (lo+x - 1)->Gse f (arrOf st3) lo (lo+(x+1)):=λst3 e3 hle i j a1 a2 a3=>by
   rw[e3,e3];by_cases e1:j<lo+x;show p3 i j a1 a2 e1;obtain rfl:j=lo+x:=by lia
   by_cases e2:i=lo+x;subst e2;show du _;have:=p3 i (lo+x - 1) a1 (by lia) (by lia);lia
  show hb x x q st2 _ l2 p1 hx2 p2 (λe hq=>?_) (λe hq=>?_) (λe=>?_) (λe=>?_);have e3:∀k,kA f (mirror (arrOf st2) (lo+x - (q+1)) (lo+x) ((lo+x - (lo+x - (q+1))) / 2)) k=kA f (arrOf st2) k:=uS (by lia) p4;show#[0,BA,l2.trans (Lk.rev st2 (by lia) (by lia)),by lia,by lia,more _ e3 (by lia),λk a1 a2=>by congr 1;lia];show#[0,BA,l2,by lia,by lia,more _ (λ_=>rfl) (by lia),λk a1 a2=>by congr 1;lia];show hG x q st2 l2 p1 (by lia) p2 p3 p4;show#[q+1,BA,l2,by lia,by lia,more _ (λ_=>rfl) (by lia),λk a1 a2=>?_];rw[show lo+(x+1) - 1=lo+x by lia];by_cases e1:k=lo+x;rw[e1];rw[p4 k (by lia) (by lia),e];rintro c st2 ⟨q,rfl,l2,p1,p2,p3,p4⟩;have e:max (m+1) nrem=nrem:=by lia
  rw[e] at p1 p2 p3 p4 ⊢;show hG nrem q st2 l2 p1 (ai _) p2 p3 p4
 dsimp only;by_cases e1:(m==nrem)=true;rw[if_pos e1];show wpS_pure (h m st (Lk.refl _ _) hm1 hm2 hs);rw[if_neg e1];have e1':m<nrem:=by have:m≠nrem:=λz=>e1 (by rw[z];show cI _);lia
 have hd:=hd e1';by_cases e2:m > 1
 case' pos=>
  rw[if_pos e2];show wpS_bind (zfN R hk ha (by lia) (by lia) ?_);by_cases e3:kA f (arrOf st) lo<kA f (arrOf st) (lo+m - 1);rw[a8 e3];show wpS_pure (h m st (Lk.refl _ _) hm1 hm2 hs);rw[bE e3];dsimp only;rw[if_neg ay];show wpS_bind (zna ?_);have l1:=Lk.rev (lo:=lo) st (i:=lo) (j:=lo+m) (ai _) (by lia);have eq0:∀k,lo<=k->k<lo+m->kA f (arrOf st) k=kA f (arrOf st) (lo+m - 1):=λk a1 a2=>by have h3:=hs lo k (ai _) a1 a2;have h4:=hs k (lo+m - 1) a1 (by lia) (by lia);lia
  have eq1:=uS (i:=lo) (by lia) eq0
  have g1:Gse f (mirror (arrOf st) lo (lo+m) ((lo+m - lo) / 2)) lo (lo+(m+1)):=λi j a1 a2 a3=>by
   rw[eq1,eq1];by_cases ej:j<lo+m;rw[eq0 j (by lia) ej,eq0 i a1 (by lia)];show du _;obtain rfl:j=lo+m:=by lia
   by_cases ei:i=lo+m;rw[ei];show du _;rw[eq0 i a1 (by lia)];lia
  have g1:Gse f (arrOf (setArr st (mirror (arrOf st) lo (lo+m) ((lo+m - lo) / 2)))) lo (lo+(m+1)):=g1;generalize setArr st (mirror (arrOf st) lo (lo+m) ((lo+m - lo) / 2))=st1 at l1 g1 ⊢
 case' neg=>
  rw[if_neg e2]
  obtain⟨st1,l1,g1,hst⟩:∃st1,Lk lo st st1/\Gse f (arrOf st1) lo (lo+(m+1))/\st1=st:=#[st,Lk.refl _ _,λi j a1 a2 a3=>by
   by_cases e:i=j;rw[e];show du _;rw[show i=lo+m - 1 by lia,show j=lo+m by lia];lia,BA]
  rw[<- hst]
 all_goals
  show wpS_bind (wpS_lift (dg #[BA,?_]));show wpS_bind (fall st1 l1 e1' g1 (λn q st2 l2 n1 n2 q1 g2 g3=>?_) (λx n q st2 G' l2 n1 n2 q1 b1 b2 b3 b4=>?_))
  ·dsimp only;have hz2:=l2.size;by_cases e4:q > 0
   case' pos=>
    rw[if_pos e4];show wpS_bind (zna ?_);have l3:=l2.trans (Lk.rev (lo:=lo) st2 (i:=lo+n - (q+1)) (j:=lo+n) (by lia) (by lia));have eq3:=uS (i:=lo+n - (q+1)) (by lia) g3;have g4:Gse f (arrOf (setArr st2 (mirror (arrOf st2) (lo+n - (q+1)) (lo+n) ((lo+n - (lo+n - (q+1))) / 2)))) lo (lo+n):=λi j a1 a2 a3=>by have:=g2 i j a1 a2 a3;rw[<- eq3 i,<- eq3 j] at this;show this
    generalize setArr st2 (mirror (arrOf st2) (lo+n - (q+1)) (lo+n) ((lo+n - (lo+n - (q+1))) / 2))=st3 at l3 g4 ⊢
   case' neg=>
    rw[if_neg e4];obtain⟨st3,l3,g4,hst3⟩:∃st3,Lk lo st st3/\Gse f (arrOf st3) lo (lo+n)/\st3=st2:=#[st2,l2,g2,BA];rw[<- hst3]
   all_goals
    show wpS_bind (zna ?_);have hz3:=l3.size;have l4:=l3.trans (Lk.rev (lo:=lo) st3 (i:=lo) (j:=lo+n) (ai lo) (by lia));have g5:=Gse.turn (by lia) g4;show wpS_bind (asc n _ l4 (by lia) n2 g5 (λm' a1 a2 a3 a4=>?_) (λx m' G' q1 q2 c1 c2=>step _ l4 m' (by lia) q2 G' c1 c2 BA BA));show wpS_pure (h m' _ l4 (by lia) a2 a3)
  dsimp only;have hz2:=l2.size;show wpS_bind (zfN R (l2.kind.trans hk) (l2.mem ha) (by lia) (by lia) ?_);by_cases e5:kA f (arrOf st2) (lo+n)<kA f (arrOf st2) (lo+n - 1);rw[a8 e5];dsimp only;rw[if_pos rfl];by_cases e6:q > 0;rw[if_pos e6];show wpS_bind (zna (wpS_pure (b1 e5 e6)));rw[if_neg e6];show wpS_pure (b2 e5 e6);rw[bE e5];dsimp only;rw[if_neg ay];show wpS_bind (zfN R (l2.kind.trans hk) (l2.mem ha) (by lia) (by lia) ?_);by_cases e6:kA f (arrOf st2) (lo+n - 1)<kA f (arrOf st2) (lo+n);rw[a8 e6];show wpS_pure (b3 e6);rw[bE e6];show wpS_pure (b4 (by lia))
def ztG{st:SortSt}{Q:Unit->SortSt->Prop}(h:Q () (setArr st (bubble (arrOf st) i (i - j)))):wpS M A E s (moveDown' i j) Q st:=by rw[moveDown'_eq];show dH h
def Lk.move {lo:Nat}(st:SortSt){i j:Nat}(h1:lo<=j)(h2:i<(arrOf st).size)(q:j<=i):Lk lo st (setArr st (bubble (arrOf st) i (i - j))):=#[BA,BA,BA,bubble_perm _ _ _,λk B=>by change (bubble (arrOf st) i (i - j))[k]?=_;rw[getElem?_bubble h2 _ (by lia),if_neg (by lia),if_neg (by lia)]]
def zfe(h2:i<a.size)(F:j<=i)(k:Nat):kA f (bubble a i (i - j)) k=if k=j then kA f a i else if j<k/\k<=i then kA f a (k - 1) else kA f a k:=by
 have e:=getElem?_bubble h2 (i - j) (by lia) k;rw[show i - (i - j)=j by lia] at e;by_cases q:k=j;rw[if_pos q] at e ⊢;show zaJ e;rw[if_neg q] at e ⊢;by_cases B:j<k/\k<=i;rw[if_pos B] at e ⊢;show zaJ e;rw[if_neg B] at e ⊢;show zaJ e
def zfM (R:zbw M A s κ L0 f){st:SortSt}{lo n U:Nat}(hk:kindOf st=κ)(ha:∀x∈arrOf st,x∈L0)(h1:U<=n)(hn:1<=n)(hz:lo+n<=(arrOf st).size)(hs:Seg f (arrOf st) lo (lo+U)){Q:Bool->SortSt->Prop}
  (h:∀q,Lk lo st q->Seg f (arrOf q) lo (lo+n)->Q true q):wpS M A E s (binarySort' lo n U) Q st:=by
 rw[binarySort'_eq];show wpS_bind (wpS_mono (bQ (I:=λx c q=>c=(none,())/\Lk lo st q/\Seg f (arrOf q) lo (lo+x)) (Q:=λc q=>c=(none,())/\Lk lo st q/\Seg f (arrOf q) lo (lo+n)) ?_ ?_ #[BA,Lk.refl _ _,?_]) ?_);rintro k c B ad ag ⟨rfl,O,J⟩;have al:=O.size;dsimp only
 show wpS_bind (wpS_mono (bQ (I:=λx c q=>q=B/\∃l r,c=(none,l,r)/\l<=r/\r<=k/\(∀i,i<l->kA f (arrOf B) (lo+i)<=kA f (arrOf B) (lo+k))/\(∀i,r<=i->i<k->kA f (arrOf B) (lo+k)<kA f (arrOf B) (lo+i))/\r - l+x<=k)
  (Q:=λc q=>q=B/\∃l,c=(none,l,l)/\l<=k/\(∀i,i<l->kA f (arrOf B) (lo+i)<=kA f (arrOf B) (lo+k))/\(∀i,l<=i->i<k->kA f (arrOf B) (lo+k)<kA f (arrOf B) (lo+i))) ?_ ?_ #[BA,0,k,BA,by lia,by lia,λi hi=>by lia,λi a1 a2=>by lia,by lia]) ?_)
 rintro x c F _ hx ⟨rfl,l,r,rfl,p1,p2,p3,p4,p5⟩;dsimp only;by_cases e:l ≥ r;rw[if_pos e];obtain rfl:l=r:=by lia
 show wpS_pure #[BA,l,BA,p2,p3,p4];rw[if_neg e];show wpS_bind (zfN R (O.kind.trans hk) (O.mem ha) (by lia) (by lia) ?_);by_cases e2:kA f (arrOf F) (lo+k)<kA f (arrOf F) (lo+(l+r) / 2);rw[a8 e2];show wpS_pure #[BA,l,(l+r) / 2,BA,by lia,by lia,p3,λi a1 a2=>?_,by lia];have:=J (lo+(l+r) / 2) (lo+i) (by lia) (by lia) (by lia);lia;rw[bE e2];show wpS_pure #[BA,(l+r) / 2+1,r,BA,by lia,p2,λi a1=>?_,p4,by lia];have:=J (lo+i) (lo+(l+r) / 2) (by lia) (by lia) (by lia);lia;rintro c F ⟨rfl,l,r,rfl,p1,p2,p3,p4,p5⟩;obtain rfl:l=r:=by lia
 show#[BA,l,BA,p2,p3,p4];rintro c F ⟨rfl,l,rfl,p2,p3,p4⟩;dsimp only;show wpS_bind (ztG (wpS_pure #[BA,O.trans (Lk.move F (by lia) (by lia) (by lia)),λi j a1 a2 a3=>?_]));change kA f (bubble (arrOf F) (lo+k) (lo+k - (lo+l))) i<=kA f (bubble (arrOf F) (lo+k) (lo+k - (lo+l))) j;rw[zfe (by lia) (by lia),zfe (by lia) (by lia)];have up:=λx y b1 b2 b3=>J x y b1 b2 b3;by_cases ei:i=lo+l;rw[if_pos ei];by_cases Y:j=lo+l;rw[if_pos Y];show du _;rw[if_neg Y,if_pos #[by lia,by lia]];have:=p4 (j - 1 - lo) (by lia) (by lia);rw[show lo+(j - 1 - lo)=j - 1 by lia] at this;lia;rw[if_neg ei];by_cases Z:lo+l<i/\i<=lo+k;rw[if_pos Z,if_neg (by lia),if_pos #[by lia,by lia]];show J _ _ (by lia) (by lia) (by lia);rw[if_neg Z];by_cases Y:j=lo+l;rw[if_pos Y];have:=p3 (i - lo) (by lia);rw[show lo+(i - lo)=i by lia] at this;show this;rw[if_neg Y];by_cases ac:lo+l<j/\j<=lo+k;rw[if_pos ac];show J _ _ (by lia) (by lia) (by lia);rw[if_neg ac];show J _ _ (by lia) (by lia) (by lia);rintro c B ⟨rfl,O,J⟩;have e:max (max U 1) n=n:=by lia
 rw[e] at J;show#[BA,O,J];by_cases e:1<=U;rw[show max U 1=U by lia];show hs;intro i j a1 a2 a3;rw[show i=j by lia];show du _;rintro c B ⟨rfl,O,J⟩;show wpS_pure (h B O J)
end
theorem zlh (base:Nat):∀ (l:List Keyed) (n:Nat) (a:Array Keyed),base+n+l.length<=a.size->((l.zipIdx n).foldl (λa (p:Keyed×Nat)=>a.setIfInBounds (base+p.2) p.1) a).toList=a.toList.take (base+n)++(l++a.toList.drop (base+n+l.length))
 | [],n,a,_=>by simp
 | p::l,n,a,h=>by
  rw[aK] at h;rw[List.zipIdx_cons,List.foldl_cons,zlh base l (n+1) _ (by rw[Array.size_setIfInBounds];lia),Array.toList_setIfInBounds,List.set_eq_take_append_cons_drop,if_pos (by rw[aO];lia)];have e:a.toList.take (base+n)++p::a.toList.drop (base+n+1)=(a.toList.take (base+n)++[p])++a.toList.drop (base+n+1):=by simp
  have q:(a.toList.take (base+n)++[p]).length=base+n+1:=by simp;lia
  change List.take (base+(n+1)) (a.toList.take (base+n)++p::a.toList.drop (base+n+1))++(l++List.drop (base+(n+1)+l.length) (a.toList.take (base+n)++p::a.toList.drop (base+n+1)))=_;rw[e,fL (by rw[q];lia),<- eQ,List.drop_left' (by rw[q];lia),eQ,aK];rw[aE,show base+n+1+l.length=base+n+(l.length+1) by lia];rfl
def zlG{P A S:List Keyed}(h:P.length=n):(P++(A++S)).drop n=A++S:=List.drop_left' h
def zag{P A S:List Keyed}(h:P.length=n)(k:A.length=m):((P++(A++S)).drop n).take m=A:=by rw[zlG h,fL k]
section
variable {M:Model}{A:Ae}{E:AA}{s:AZ}{κ:SortKind}{L0:List Keyed}{f:Keyed->Int}
def zjk {a:Array Keyed}{P X S:List Keyed}{i j:Nat}(e:a.toList=P++(X++S))(h:P.length=i)(k:X.length+i=j):(a.extract i j).toList=X:=by
 have:(a.extract i j).toList=(a.toList.drop i).take (j - i):=by simp
 rw[this,e,zag h (by lia)]
def znq{a:Array Keyed}{P S:List Keyed}(e:a.toList=P++x::S)(h:P.length=i):a[i]?=some x:=by rw[<- b9,e,<- h,aW (ai _)];simp
def znj {st st':SortSt}{Q:PUnit->SortSt->Prop}(h:Q #[] st'):wpS M A E s (set st':StateT SortSt Sem PUnit) Q st:=by unfold wpS;rw[StateT.run_set];show af #[BA,h]
def zk3 (R:zbw M A s κ L0 f){st:SortSt}{i:Nat}{Z pv:List (Nat×Nat×Nat)}{P U V S:List Keyed}{p1 p2:Nat}(hk:kindOf st=κ)(ag:failedOf st=none)(ha:∀x∈arrOf st,x∈L0)
  (B:(arrOf st).toList=P++(U++(V++S))) (al:pendingOf st=(Z++(P.length,U.length,p1)::(P.length+U.length,V.length,p2)::pv).toArray) (hi:i=Z.length) (nu:U≠[]) (nv:V≠[]) (su:U.Pairwise (leF f)) (sv:V.Pairwise (leF f)) {Q:Bool->SortSt->Prop}
  (h:∀ (I:SortSt) (C:List Keyed),kindOf I=κ->failedOf I=none->(arrOf I).toList=P++(C++S)->C.Perm (U++V)->C.Pairwise (leF f)->pendingOf I=(Z++(P.length,U.length+V.length,p1)::pv).toArray->Q true I):wpS M A E s (mergeAt' i) Q st:=by
 subst hi;show wpS_bind (wpS_get ?_);have g1:(pendingOf st)[Z.length]?=some (P.length,U.length,p1):=by rw[al];simp
 have g2:(pendingOf st)[Z.length+1]?=some (P.length+U.length,V.length,p2):=by rw[al];simp
 have g3:((pendingOf st).setIfInBounds Z.length (P.length,U.length+V.length,p1)).eraseIdxIfInBounds (Z.length+1)=(Z++(P.length,U.length+V.length,p1)::pv).toArray:=by rw[al];simp[List.eraseIdx_append_of_length_le]
 rw[g1,g2];dsimp only;show wpS_bind (znj ?_);rw[g3]
 obtain⟨y,V',rfl⟩:∃y V',V=y::V':=by
  cases V with
  | nil=>show absurd BA nv
  | cons y V'=>show#[y,V',BA]
 obtain⟨U',z,rfl⟩:∃U' z,U=U'++[z]:=#[U.dropLast,U.getLast nu,(bv nu).symm];have hy:(arrOf st)[P.length+(U'++[z]).length]?=some y:=znq (P:=P++(U'++[z])) (S:=V'++S) (by rw[B];simp) (by simp);have hz:(arrOf st)[P.length+(U'++[z]).length - 1]?=some z:=znq (P:=P++U') (S:=y::V'++S) (by rw[B];simp) (by simp);have hsz:(arrOf st).size=P.length+((U'++[z]).length+((y::V').length+S.length)):=by rw[<- aO,B];simp only[am]
 have ap:∀x∈U'++[z],x∈L0:=λx F=>ha x (by rw[<- bZ,B];simp only[aF] at F ⊢;rcases F with F | F <;> simp[F]);have inV:∀x∈y::V',x∈L0:=λx F=>ha x (by rw[<- bZ,B];show aU _ (aU _ (bH _ F)));have cu:((arrOf st).toList.drop P.length).take (U'++[z]).length=U'++[z]:=by rw[B];show zag BA BA
 have cv:((arrOf st).toList.drop (P.length+(U'++[z]).length)).take (y::V').length=y::V':=by rw[B,<- aE];show zag (by simp) BA
 have hV:∀w∈y::V',f y<=f w:=λw J=>by
  rcases aA.mp J with rfl | J;show du _;show (bi.mp sv).1 w J
 have hU:∀w∈U'++[z],f w<=f z:=λw J=>by
  rcases aF.mp J with J | J;show (bu.mp su).2.2 w J z (by simp);rw[aq.mp J];show du _
 generalize ac:U'++[z]=U at *;generalize an:y::V'=V at *;have yV:y∈V:=by rw[<- an];show ao
 have zU:z∈U:=by rw[<- ac];simp
 have bk:1<=U.length:=by rw[<- ac];simp
 have bl:1<=V.length:=by rw[<- an];simp
 have ad:kindOf (SortSt.mk' (kindOf st) (arrOf st) (Z++(P.length,U.length+V.length,p1)::pv).toArray (gallopOf st) (failedOf st))=κ:=hk;show wpS_bind (yv hy ?_);show wpS_bind (ziz (left:=false) (base:=P.length) (n:=U.length) (hint:=0) R (inV _ yV) ha (by lia) (by lia) (by rw[cu];show su) ad λk k1 k2 k3=>?_);dsimp only;have as:∀x∈U.take k,f x<=f y:=λx F=>by have O:=k2 x (by rw[<- cu,List.take_take,ez k1] at F;show F);unfold xL at O;rw[if_neg ay,eL,bX] at O;lia
 have ba:∀x∈U.drop k,f y<f x:=λx F=>by have O:=k3 x (by rw[cu];show F);unfold xL at O;rw[if_neg ay,fV,cy] at O;show O
 clear k2 k3;by_cases e1:(U.length - k==0)=true;rw[if_pos e1];have e1:=cm e1;show wpS_pure (h _ (U++V) hk ag (by rw[aE];show B) (fY _) (bu.mpr #[su,sv,λa F b hb=>?_]) BA);have h6:=as a (by rw[bg (by lia)];show F);have h7:=hV b hb;change f a<=f b;lia;rw[if_neg e1];have bo:U.length - k≠0:=λq=>e1 (by rw[q];rfl);rw[show P.length+k+(U.length - k) - 1=P.length+U.length - 1 by lia];show wpS_bind (yv hz ?_);show wpS_bind (ziz (left:=true) (base:=P.length+U.length) (n:=V.length) (hint:=V.length - 1) R (ap _ zU) ha (by lia) (by lia) (by rw[cv];show sv) ad λj j1 j2 j3=>?_);dsimp only;have bb:∀x∈V.take j,f x<f z:=λx F=>by have O:=j2 x (by rw[<- cv,List.take_take,ez j1] at F;show F);unfold xL at O;rw[if_pos rfl,cy] at O;show O
 have a0:∀x∈V.drop j,f z<=f x:=λx F=>by have O:=j3 x (by rw[cv];show F);unfold xL at O;rw[if_pos rfl,bX] at O;lia
 clear j2 j3;by_cases e2:(j==0)=true;rw[if_pos e2];have e2:=cm e2;subst e2;show wpS_pure (h _ (U++V) hk ag (by rw[aE];show B) (fY _) (bu.mpr #[su,sv,λa F b hb=>?_]) BA);have h6:=a0 b hb;have h7:=hU a F;change f a<=f b;lia;rw[if_neg e2];have bs:j≠0:=λq=>e2 (by rw[q];rfl);have ex:((arrOf st).extract (P.length+k) (P.length+U.length)).toList=U.drop k:=zjk (P:=P++U.take k) (S:=V++S) (by rw[B,aE,<- aE (U.take k),aX]) (by simp;lia) (by simp;lia);have ey:((arrOf st).extract (P.length+U.length) (P.length+U.length+j)).toList=V.take j:=zjk (P:=P++U) (S:=V.drop j++S) (by rw[B,<- aE (V.take j),aX,aE]) (by simp) (by simp;lia);generalize hX:(arrOf st).extract (P.length+k) (P.length+U.length)=X at ex ⊢;generalize hY:(arrOf st).extract (P.length+U.length) (P.length+U.length+j)=Y at ey ⊢;have bc:X.size=U.length - k:=by rw[<- aO,ex];simp
 have bx:Y.size=j:=by rw[<- aO,ey];simp;lia
 have mX:∀x∈X,x∈U.drop k:=λx F=>by rw[<- ex];show bZ.mpr F
 have mY:∀x∈Y,x∈V.take j:=λx F=>by rw[<- ey];show bZ.mpr F
 have a1:∀x∈X,∀w,Y[0]?=some w->f w<=f x:=λx F w J=>by
  have h8:w=y:=by rw[<- b9,ey,b8 (by lia),<- an] at J;show (ce J).symm
  have:=ba x (mX x F);rw[h8];lia
 have a2:∀x∈Y,∀w,X[X.size - 1]?=some w->f x<=f w:=λx F w J=>by
  have h8:w=z:=by
   have ul:U.length=U'.length+1:=by rw[<- ac];simp
   rw[<- b9,ex,eC,bc,show k+(U.length - k - 1)=U'.length by lia,<- ac] at J;simpa using J.symm
  have:=bb x (mY x F);rw[h8];lia
 have fin:∀ (out:Array Keyed),zc2 (leF f) (X.toList++Y.toList) out.toList->(U.take k++(out.toList++V.drop j)).Perm (U++V)/\(U.take k++(out.toList++V.drop j)).Pairwise (leF f)/\(out.toList.zipIdx.foldl (λa (p:Keyed×Nat)=>a.setIfInBounds (P.length+k+p.2) p.1) (arrOf st)).toList=P++((U.take k++(out.toList++V.drop j))++S):=λout tl=>by
  rw[ex,ey] at tl;have a3:out.toList.length=U.length - k+j:=by rw[tl.1.length_eq];simp;lia
  show#[?_,?_,?_];have h9:(U.take k++(out.toList++V.drop j)).Perm (U.take k++((U.drop k++V.take j)++V.drop j)):=(tl.1.append_right _).append_left _;have bd:U.take k++((U.drop k++V.take j)++V.drop j)=U++V:=by rw[aE (U.drop k),aX,<- aE,aX]
  rw[bd] at h9;show h9;have Z:=bu.mp (by rw[aX];show su:(U.take k++U.drop k).Pairwise (leF f));have pv:=bu.mp (by rw[aX];show sv:(V.take j++V.drop j).Pairwise (leF f));show bu.mpr #[Z.1,bu.mpr #[tl.2,pv.2.1,λa h1 b h2=>?_],λa h1 b h2=>?_];rcases aF.mp (tl.1.mem_iff.mp h1) with h1 | h1;have q1:=hU a (cK h1);have q2:=a0 b h2;change f a<=f b;lia;show pv.2.2 a h1 b h2;have q1:=as a h1;change f a<=f b;rcases aF.mp h2 with h2 | h2;rcases aF.mp (tl.1.mem_iff.mp h2) with h2 | h2;show Z.2.2 a h1 b h2;have q2:=hV b (bI h2);lia;have q2:=hV b (cK h2);lia;have h9:=zlh (P.length+k) out.toList 0 (arrOf st) (by lia);rw[gB] at h9;rw[h9,B];have q1:P++(U++(V++S))=(P++U.take k)++(U.drop k++(V++S)):=by rw[aE,<- aE (U.take k),aX]
  have q2:P++(U++(V++S))=(P++(U++V.take j))++(V.drop j++S):=by rw[aE,aE,<- aE (V.take j),aX]
  have q3:List.take (P.length+k) (P++(U++(V++S)))=P++U.take k:=by rw[q1];show fL (by simp;lia)
  have q4:List.drop (P.length+k+out.toList.length) (P++(U++(V++S)))=V.drop j++S:=by rw[q2,a3];show List.drop_left' (by simp;lia)
  rw[q3,q4];simp
 have a4:∀x∈X,x∈L0:=λx F=>ap x (cK (mX x F));have a5:∀x∈Y,x∈L0:=λx F=>inV x (bI (mY x F));have sX:X.toList.Pairwise (leF f):=by rw[ex];show su.sublist (eM _ _)
 have sY:Y.toList.Pairwise (leF f):=by rw[ey];show sv.sublist (cw _ _)
 by_cases e3:U.length - k<=j
 case' pos=>
  rw[if_pos e3];show wpS_bind (zk5 R a4 a5 sX sY (by lia) (by lia) a1 a2 ad λout I lk tl=>?_)
 case' neg=>
  rw[if_neg e3];show wpS_bind (zk4 R a4 a5 sX sY (by lia) (by lia) a1 a2 ad λout I lk tl=>?_)
 all_goals
  obtain⟨r1,r2,r3⟩:=fin out tl;have be:arrOf I=arrOf st:=lk.arr;have a7:failedOf I=none:=lk.fail.trans ag;show wpS_bind (dH (wpS_bind (wpS_get ?_)));have h9:=h (SortSt.mk' (kindOf I) (out.toList.zipIdx.foldl (λa (p:Keyed×Nat)=>a.setIfInBounds (P.length+k+p.2) p.1) (arrOf I)) (pendingOf I) (gallopOf I) (failedOf I)) _ (lk.kind.trans hk) a7 (by rw[<- r3,<- be]) r1 r2 lk.pend;show wpS_pure ?_;change Q (failedOf I).isNone _;rw[a7];show h9
end
def zbS:Nat->List (List Keyed×Nat)->List (Nat×Nat×Nat)
 | _,[]=>[]
 | s,(l,p)::r=>(s,l.length,p)::zbS (s+l.length) r
def zR (q:List (List Keyed×Nat)):List Keyed:=q.flatMap (·.1)
def zG (r:List Keyed×Nat)(v:List (List Keyed×Nat)):zR (r::v)=r.1++zR v:=by simp[zR]
def yC (u v:List (List Keyed×Nat)):zR (u++v)=zR u++zR v:=by simp[zR]
theorem uv:∀ (u v:List (List Keyed×Nat)) (s:Nat),zbS s (u++v)=zbS s u++zbS (s+(zR u).length) v
 | [],v,s=>by simp[zbS,zR]
 | (l,p)::u,v,s=>by rw[List.cons_append,zbS,zbS,uv u v,zG,am,Nat.add_assoc];rfl
theorem zbT:∀ (u:List (List Keyed×Nat)) (s:Nat),(zbS s u).length=u.length
 | [],_=>rfl
 | (l,p)::u,s=>by rw[zbS,aK,zbT u,aK]
structure SI (κ:SortKind)(f:Keyed->Int)(T:List Keyed)(rs:List (List Keyed×Nat))(zz:List Keyed)(st:SortSt):Prop where
 kind:kindOf st=κ
 fail:failedOf st=none
 arr:(arrOf st).toList=zR rs++zz
 perm:(zR rs++zz).Perm T
 pend:pendingOf st=(zbS 0 rs).toArray
 ne:∀r∈rs,r.1≠[]
 up:∀r∈rs,r.1.Pairwise (leF f)
section
variable {M:Model}{A:Ae}{E:AA}{s:AZ}{κ:SortKind}{T:List Keyed}{f:Keyed->Int}
def SI.size {q:List (List Keyed×Nat)}{zz:List Keyed}{st:SortSt}(h:SI κ f T q zz st):(arrOf st).size=T.length:=by rw[<- aO,h.arr,h.perm.length_eq]
def SI.len {q:List (List Keyed×Nat)}{zz:List Keyed}{st:SortSt}(h:SI κ f T q zz st):(zR q).length+zz.length=T.length:=by rw[<- h.perm.length_eq,am]
def SI.mem {q:List (List Keyed×Nat)}{zz:List Keyed}{st:SortSt}(h:SI κ f T q zz st):∀x∈arrOf st,x∈T:=λx B=>h.perm.mem_iff.mp (by rw[<- h.arr];show bZ.mpr B)
def SI.psz {q:List (List Keyed×Nat)}{zz:List Keyed}{st:SortSt}(h:SI κ f T q zz st):(pendingOf st).size=q.length:=by rw[h.pend,aY,zbT]
def t_mg (R:zbw M A s κ T f){B:List (List Keyed×Nat)}{zz:List Keyed}{st:SortSt}(h:SI κ f T B zz st){i:Nat}(hi:i+1<B.length){Q:Bool->SortSt->Prop}(k:∀O I,SI κ f T O zz I->O.length+1=B.length->Q true I):wpS M A E s (mergeAt' i) Q st:=by
 obtain⟨u,U,p1,V,p2,v,rfl,hu⟩:∃u U p1 V p2 v,B=u++(U,p1)::(V,p2)::v/\i=u.length:=by show#[B.take i,B[i].1,B[i].2,B[i+1].1,B[i+1].2,B.drop (i+2),?_,by simp;lia];have e1:B.drop i=B[i]::B.drop (i+1):=b6 (by lia);have e2:B.drop (i+1)=B[i+1]::B.drop (i+2):=b6 hi;change B=B.take i++B[i]::B[i+1]::B.drop (i+2);rw[<- e2,<- e1,aX]
 have J:=h.arr;have Y:=h.pend;rw[yC,zG,zG,aE,aE,aE] at J;rw[uv,zbS,zbS,eY] at Y;show zk3 R h.kind h.fail h.mem J Y (by rw[zbT];show hu) (h.ne (U,p1) (by simp)) (h.ne (V,p2) (by simp)) (h.up (U,p1) (by simp)) (h.up (V,p2) (by simp)) λI C c1 c2 c3 Z c5 c6=>k (u++(C,p1)::v) I #[c1,c2,?_,?_,?_,?_,?_] (by simp;lia);rw[yC,zG,aE,aE];show c3;show List.Perm.trans ?_ h.perm;rw[yC,yC,zG,zG,zG];show List.Perm.append_right _ (eW _ ?_);rw[<- aE];show Z.append_right _;rw[c6,uv,zbS,eY,Z.length_eq,am,Nat.add_assoc];intro r F;rcases aF.mp F with F | F;show h.ne r (by simp[F]);rcases aA.mp F with rfl | F;intro z;have z:C=[]:=z;have q:=Z.length_eq;rw[z,am] at q;have n1:U≠[]:=h.ne (U,p1) (by simp);have q:0=U.length+V.length:=q;show n1 (bf (by lia));show h.ne r (by simp[F]);intro r F;rcases aF.mp F with F | F;show h.up r (by simp[F]);rcases aA.mp F with rfl | F;show c5;show h.up r (by simp[F])
def zmZ {a:Array Keyed}{lo n:Nat}(h:Seg f a lo (lo+n))(I:lo+n<=a.size):((a.toList.drop lo).take n).Pairwise (leF f):=by
 rw[bN];intro i j hi q B;have F:j<n:=by simp at q;lia
 have:=h (lo+i) (lo+j) (by lia) (by lia) (by lia);unfold kA at this;rw[aT (by lia),aT (by lia)] at this;simpa [gc,List.getElem_drop] using this
def SI.next {F:List (List Keyed×Nat)}{zz:List Keyed}{st B:SortSt}(h:SI κ f T F zz st)(l:Lk (zR F).length st B){n:Nat}(hn:1<=n)(hz:(zR F).length+n<=T.length)(U:Seg f (arrOf B) (zR F).length ((zR F).length+n)) :
  ∃L I,SI κ f T F (L++I) B/\L.length=n/\L.Pairwise (leF f)/\L≠[]:=by
 have hs:=h.size;have Y:=l.size
 have Z:(arrOf B).toList.take (zR F).length=zR F:=by
  have q:(arrOf B).toList.take (zR F).length=(arrOf st).toList.take (zR F).length:=by
   show dF λi=>?_;rw[List.getElem?_take,List.getElem?_take];split
   ·rename_i hi;have:=l.low i hi;rw[b9,b9];show this
   rfl
  rw[q,h.arr,fL rfl]
 have O:(arrOf B).toList=zR F++(((arrOf B).toList.drop (zR F).length).take n++(arrOf B).toList.drop ((zR F).length+n)):=by have q:=aX (zR F).length (arrOf B).toList;rw[Z] at q;rw[zi5];show q.symm
 have J:(((arrOf B).toList.drop (zR F).length).take n).length=n:=by simp;lia
 show#[_,_,#[l.kind.trans h.kind,l.fail.trans h.fail,O,?_,l.pend.trans h.pend,h.ne,h.up],J,zmZ U (by lia),λz=>by rw[z] at J;simp at J;lia];rw[<- O];have q:=l.perm.toList;show q.trans ?_;rw[h.arr];show h.perm
def SI.push {B:List (List Keyed×Nat)}{L zz:List Keyed}{st:SortSt}(h:SI κ f T B (L++zz) st)(F:L≠[])(hs:L.Pairwise (leF f)){lo n:Nat}(h1:(zR B).length=lo)(h2:L.length=n) :
  SI κ f T (B++[(L,0)]) zz (setPending st ((pendingOf st).push (lo,n,0))):=by
 have e:zR (B++[(L,0)])++zz=zR B++(L++zz):=by rw[yC,zG];simp[zR]
 show#[h.kind,h.fail,by rw[e];show h.arr,by rw[e];show h.perm,?_,λr q=>?_,λr q=>?_];change (pendingOf st).push (lo,n,0)=_;rw[h.pend,uv,zbS,zbS,eY,h1,h2];simp;rcases aF.mp q with q | q;show h.ne r q;rw[aq.mp q];show F;rcases aF.mp q with q | q;show h.up r q;rw[aq.mp q];show hs
def SI.pow {I:List (List Keyed×Nat)}{zz:List Keyed}{st:SortSt}(h:SI κ f T I zz st)(hn:1<=I.length)(g:Nat×Nat×Nat->Nat×Nat×Nat)(J:Nat)(Y:∀a b c,g (a,b,c)=(a,b,J)) :
  ∃O,SI κ f T O zz (setPending st ((pendingOf st).modify ((pendingOf st).size - 1) g)):=by
 obtain⟨u,U,p,rfl⟩:∃u U p,I=u++[(U,p)]:=by
  rcases List.eq_nil_or_concat I with rfl | ⟨u,r,rfl⟩;simp at hn;show#[u,r.1,r.2,by simp]
 have F:∀q,zR (u++[(U,q)])=zR u++U:=λq=>by rw[yC,zG];simp[zR]
 show#[u++[(U,J)],h.kind,h.fail,by rw[F,<- F p];show h.arr,by rw[F,<- F p];show h.perm,?_,λr B=>?_,λr B=>?_];change (pendingOf st).modify ((pendingOf st).size - 1) g=_;rw[h.psz,h.pend,uv,uv,zbS,zbS,zbS,zbS,eY];apply fg.mp;rw[Array.toList_modify];have e:(u++[(U,p)]).length - 1=(zbS 0 u).length:=by rw[zbT];simp
 rw[e];change List.modify (zbS 0 u++[((zR u).length,U.length,p)]) (zbS 0 u).length g=zbS 0 u++[((zR u).length,U.length,J)];rw[List.modify_eq_take_cons_drop (by simp)];simp[Y];rcases aF.mp B with B | B;show h.ne r (by simp[B]);rw[aq.mp B];show h.ne (U,p) (by simp);rcases aF.mp B with B | B;show h.up r (by simp[B]);rw[aq.mp B];show h.up (U,p) (by simp)
def ziA {st:SortSt}(R:zbw M A s κ (arrOf st).toList f)(hk:kindOf st=κ)(hfl:failedOf st=none)(hp:pendingOf st = #v[])(h2:1<=(arrOf st).size){Q:Unit->SortSt->Prop}
  (h:∀st',failedOf st'=none->(arrOf st').toList.Perm (arrOf st).toList->(arrOf st').toList.Pairwise (leF f)->Q () st'):wpS M A E s sortRuns' Q st:=by
 rw[sortRuns'_eq];show wpS_bind (wpS_get ?_);dsimp only;have S0:SI κ f (arrOf st).toList [] (arrOf st).toList st:=#[hk,hfl,BA,fY _,hp,λ_ hr=>by simp at hr,λ_ hr=>by simp at hr];have hT:(arrOf st).toList.length=(arrOf st).size:=aO;generalize (arrOf st).toList=T at R h S0 hT;generalize (arrOf st).size=N at h2 hT ⊢;generalize minRun' N N 0=mr;clear hk hfl hp;show wpS_bind (wpS_mono (bQ (I:=λx c st'=>∃rs zz,c=(none,(zR rs).length)/\SI κ f T rs zz st'/\x<=(zR rs).length) (Q:=λc st'=>∃rs lo,c=(none,lo)/\SI κ f T rs [] st') ?_ ?_ #[[],T,BA,S0,aL _]) ?_)
 ·rintro x c st1 _ hx ⟨rs,zz,rfl,S1,hx2⟩;have hz1:=S1.size;have hl1:=S1.len;dsimp only;by_cases e1:(zR rs).length ≥ N;rw[if_pos e1];have:zz=[]:=bf (by lia);subst this;show wpS_pure #[rs,_,BA,S1];rw[if_neg e1];show wpS_bind (ziy R S1.kind S1.mem (by lia) (by lia) λm st2 l2 m1 m2 sg=>?_);dsimp only;have hz2:=l2.size;by_cases e2:m<mr
  case' pos=>
   rw[if_pos e2];show wpS_bind (wpS_lift (dg #[BA,?_]));show wpS_bind (zfM R (n:=min (N - (zR rs).length) mr) (l2.kind.trans S1.kind) (l2.mem S1.mem) (by lia) (by lia) (by lia) sg λst3 l3 sg3=>?_);rw[if_neg (by simp)];obtain⟨L,rest',S3,hL,sL,nL⟩:=S1.next (l2.trans l3) (n:=min (N - (zR rs).length) mr) (by lia) (by lia) sg3;generalize hn:min (N - (zR rs).length) mr=n at hL ⊢;have hn1:1<=n:=by lia
  case' neg=>
   rw[if_neg e2];obtain⟨L,rest',S3,hL,sL,nL⟩:=S1.next l2 (n:=m) (by lia) (by lia) sg;generalize hn:m=n at hL ⊢;have hn1:1<=n:=by lia
   generalize st2=st3 at S3 ⊢
  all_goals
   show wpS_bind (wpS_get ?_);rcases List.eq_nil_or_concat rs with hrs | ⟨u,r,hrs⟩;have hb:(pendingOf st3).back?=none:=by rw[S3.pend,hrs];rfl
   rw[hb];dsimp only;have S4:=S3.push nL sL BA hL;show wpS_bind (dH (wpS_pure #[_,rest',by rw[yC,am,zG,am,hL];rfl,S4,by rw[yC,am,zG,am,hL];lia]))
   obtain⟨⟨b1,b2,b3⟩,hb⟩:∃b,(pendingOf st3).back?=some b:=by
    rw[S3.pend,hrs,List.concat_eq_append,uv];cases r;show#[_,by simp[zbS];rfl]
   rw[hb];dsimp only;generalize power' N (2 * b1+b2) (2 * b1+b2+b2+n) N=pw;show wpS_bind (wpS_mono (bQ (I:=λx c st'=>∃rs',c=(none,())/\SI κ f T rs' (L++rest') st'/\1<=rs'.length) (Q:=λc st'=>∃rs',c=(none,())/\SI κ f T rs' (L++rest') st'/\1<=rs'.length) ?_ (λc st' q=>q) #[rs,BA,S3,by rw[hrs];simp]) ?_);rintro x2 c st4 _ _ ⟨rs',rfl,S4,n4⟩;show wpS_bind (wpS_get ?_);by_cases e3:(pendingOf st4).size > 1;rw[if_pos e3];obtain⟨⟨c1,c2,c3⟩,hc⟩:∃b,(pendingOf st4)[(pendingOf st4).size - 2]?=some b:=#[_,aT (by lia)];rw[hc];dsimp only;by_cases e4:c3<=pw;rw[if_pos e4];show wpS_pure #[rs',BA,S4,n4];rw[if_neg e4];rw[S4.psz] at e3;show wpS_bind (t_mg R S4 (by rw[S4.psz];lia) λrs2 st5 S5 h5=>?_);show wpS_pure #[rs2,BA,S5,by lia];rw[if_neg e3];show wpS_pure #[rs',BA,S4,n4];rintro c st4 ⟨rs',rfl,S4,n4⟩;dsimp only;show wpS_bind (dH ?_);obtain⟨rs2,S5⟩:=S4.pow n4 (λx=>match x with | (st,len,_)=>(st,len,pw)) pw (λa b c=>rfl);have hl3:=S3.len;have hl5:=S5.len;have S6:=S5.push nL sL (lo:=(zR rs).length) (by lia) hL;show wpS_bind (dH (wpS_pure #[_,rest',by rw[yC,am,zG,am,hL,show (zR rs2).length=(zR rs).length by lia];rfl,S6,by rw[yC,am,zG,am,hL];lia]))
 rintro c st1 ⟨rs,zz,rfl,S1,hx2⟩;have hl1:=S1.len;have:zz=[]:=bf (by lia);subst this;show#[rs,_,BA,S1]
 ·rintro c st1 ⟨rs,lo,rfl,S1⟩;dsimp only;have hl1:=S1.len
  have hlen:rs.length<=(zR rs).length:=by
   have:∀ (rs:List (List Keyed×Nat)),(∀r∈rs,r.1≠[])->rs.length<=(zR rs).length:=λrs=>by
    induction rs with
    | nil=>intro _;show aL _
    | cons r v ih=>
     intro hn;have h1:=ih λr hr=>hn r (av _ hr);have h2:=fM.mpr (hn r ao);rw[zG,am,aK];lia
   show this rs S1.ne
  have hne:1<=rs.length:=by
   cases rs with
   | nil=>simp[zR] at hl1;lia
   | cons r v=>simp
  rw[List.length_nil,gB] at hl1;show wpS_bind (wpS_mono (bQ (I:=λx c st'=>∃rs,c=(none,())/\SI κ f T rs [] st'/\1<=rs.length/\(rs.length<=1\/rs.length+x<=N)) (Q:=λc st'=>∃rs,c=(none,())/\SI κ f T rs [] st'/\rs.length=1) ?_ ?_ #[rs,BA,S1,hne,.inr (by lia)]) ?_)
  ·rintro x c st2 _ hx ⟨rs,rfl,S2,n1,n2⟩;show wpS_bind (wpS_get ?_);by_cases e1:(pendingOf st2).size<=1;rw[if_pos e1];show wpS_pure #[rs,BA,S2,by rw[S2.psz] at e1;lia];rw[if_neg e1];rw[S2.psz] at e1;show wpS_bind (t_mg R S2 ?_ λrs' st3 S3 h3=>?_)
   ·rw[S2.psz];have le1:∀ (b:Bool),(if b=true then rs.length - 2 - 1 else rs.length - 2)+1<rs.length:=λb=>by cases b <;> simp <;> lia
    show le1 _
   show wpS_pure #[rs',BA,S3,by lia,by lia]
  rintro c st2 ⟨rs,rfl,S2,n1,n2⟩;show#[rs,BA,S2,by lia];rintro c st2 ⟨rs,rfl,S2,n1⟩;obtain⟨r,rfl⟩:∃r,rs=[r]:=List.length_eq_one_iff.mp n1;have ha:=S2.arr;have hq:=S2.perm;rw[cB] at ha hq;rw[<- ha] at hq;rw[zG] at ha;show wpS_pure (h st2 S2.fail hq (by rw[ha];simpa [zR] using S2.up r (by simp)))
end
open PySem.Calls PySem.W
def zef {α O:Type}(g:α->O):∀ {out m:List O},out.Perm m->∀l:List α,m=l.map g->∃l':List α,l'.Perm l/\out=l'.map g:=by
 intro out m h
 induction h with
 | nil=>intro l e;show#[l,.refl _,e]
 | cons x h U=>
  intro l e
  match l,e with
  | a::l,e=>
   obtain⟨B,F⟩:=List.cons.inj e;obtain⟨l',p,q⟩:=U l F;show#[a::l',.cons a p,by rw[aB,<- q,B]]
 | swap x y l0=>
  intro l e
  match l,e with
  | a::b::l,e=>
   obtain⟨B,F⟩:=List.cons.inj e;obtain⟨Y,Z⟩:=List.cons.inj F;show#[b::a::l,.swap _ _ _,by rw[aB,aB,B,Y,Z]]
 | trans h1 h2 I J=>
  intro l e;obtain⟨l2,p2,q2⟩:=J l e;obtain⟨l1,p1,q1⟩:=I l2 q2;show#[l1,p1.trans p2,q1]
def Ask (prog:Aa)(w:Ab)(A:Ae)(κ:SortKind)(vs:AN)(BF:Array Nat->Prop)(s:AZ):Prop:=
 ∃f:Nat->Int,zno vs.length f/\(∀i j,i<vs.length->j<vs.length->vs.getD i .none=vs.getD j .none->i=j)/\
  (∀i j,i<vs.length->j<vs.length->∀ (Q:Bool->AZ->Prop) (E:AA),Q (decide (f i<f j)) s->Ag prog w A (keyLt' κ (vs.getD i .none) (vs.getD j .none)) Q E s)/\∀p:Array Nat,Up vs.length f p vs.length->BF p
section
variable {prog:Aa}{w:Ab}{A:Ae}{E:AA}{s:AZ}{h₀:Heap}{L a:Addr}{m:AI}{news:AB}{vs:AN}{κ:SortKind}
def zqV(h2:2<=vs.length)(h:Ask prog w A κ vs BF s) :
  Ag prog w A ((sortRuns').run (SortSt.mk' κ (vs.toArray.zip vs.toArray) #v[] 7 none)) (λr s'=>s'=s/\∃p:Array Nat,p.size=vs.length/\(arrOf r.2).map (·.2)=List.toArray (p.toList.map λi=>vs.getD i .none)/\failedOf r.2=none/\BF p) E s:=by
 obtain⟨f,hu,J,hc,hG⟩:=h
 have O:(vs.toArray.zip vs.toArray).toList=(List.range vs.length).map λi=>(vs.getD i .none,vs.getD i .none):=by
  show dF λi=>?_;by_cases hi:i<vs.length;simp[hi];simp[hi,Nat.le_of_not_lt hi]
 let F:Keyed->Int:=λx=>f (Classical.epsilon λi=>i<vs.length/\vs.getD i .none=x.1)
 have U:∀i,i<vs.length->F (vs.getD i .none,vs.getD i .none)=f i:=λi hi=>by have q:(Classical.epsilon λj=>j<vs.length/\vs.getD j .none=vs.getD i .none)<vs.length/\vs.getD (Classical.epsilon λj=>j<vs.length/\vs.getD j .none=vs.getD i .none) .none=vs.getD i .none:=Classical.epsilon_spec (p:=λj=>j<vs.length/\vs.getD j .none=vs.getD i .none) #[i,hi,BA];change f (Classical.epsilon λj=>j<vs.length/\vs.getD j .none=vs.getD i .none)=f i;rw[J _ _ q.1 hi q.2]
 show ziA (E:=E) (st:=SortSt.mk' κ (vs.toArray.zip vs.toArray) #v[] 7 none) (f:=F) (κ:=κ) (Q:=λ_ B=>∃p:Array Nat,p.size=vs.length/\(arrOf B).map (·.2)=List.toArray (p.toList.map λi=>vs.getD i .none)/\failedOf B=none/\BF p) ?_ BA BA BA ?_ ?_;intro x y Y Z Q E hq;have Y:x∈(vs.toArray.zip vs.toArray).toList:=Y;have Z:y∈(vs.toArray.zip vs.toArray).toList:=Z;rw[O] at Y Z;obtain⟨i,hi,rfl⟩:=au.mp Y;obtain⟨j,hj,rfl⟩:=au.mp Z;have hi:=aM.mp hi;have hj:=aM.mp hj;rw[U i hi,U j hj] at hq;show hc i j hi hj Q E hq;change 1<=(vs.toArray.zip vs.toArray).size;simp;lia;intro B h1 h3 h4;have h3:(arrOf B).toList.Perm (vs.toArray.zip vs.toArray).toList:=h3;obtain⟨p,hp,he⟩:=zef _ h3 _ O;have I:∀i∈p,i<vs.length:=λi hi=>aM.mp (hp.mem_iff.mp hi);have ac:p.length=vs.length:=by rw[hp.length_eq,aG]
 show#[p.toArray,by simpa using ac,?_,h1,hG _ #[?_,ai _,λk hk=>?_]];apply fg.mp;rw[gx,he,aI];rfl;change p.toArray.Perm (List.range vs.length).toArray;show List.Perm.toArray hp;have ad:p.Nodup:=hp.nodup_iff.mpr dU;rw[he] at h4;have h5:=bN.mp h4 k (k+1) (by simp;lia) (by simp;lia) (by lia);rw[dB,dB] at h5;have g1:p.toArray.getD k 0=p[k]:=by simp[Array.getD,show k<p.length by lia]
 have g2:p.toArray.getD (k+1) 0=p[k+1]:=by simp[Array.getD,show k+1<p.length by lia]
 have h5:F (vs.getD p[k] .none,vs.getD p[k] .none)<=F (vs.getD p[k+1] .none,vs.getD p[k+1] .none):=h5;rw[U _ (I _ (bD _)),U _ (I _ (bD _))] at h5;unfold key;rw[g1,g2];have h6:f p[k]≠f p[k+1]:=λz=>by have:=hu _ _ (I _ (bD _)) (I _ (bD _)) z;have:=(ff ad).mp this;lia
 lia
def zez {n:Nat}{P:PySem.Fin->AZ->Prop}(F:Fr h₀ L s.heap m)(N:News h₀ L s.heap news)(ho:s.heap.get? a=some (seqObj "list" vs.toArray n))(haL:a≠L)(ha0:h₀.get? a=none)(hna:∀p∈news,p.1≠a)
  (h2:2<=vs.length) (hz:vs.length<=sizeLine)
  (h:∀e1 h',Fr h₀ L h' m->News h₀ L h' ((a,seqObj "list" #v[] e1)::news)->
   Ag prog w A (keyKind' vs.toArray) (λκ s'=>Ask prog w A κ vs (λp=>KasFin h₀ L m a e1 (p.toList.map λi=>vs.getD i Value.none) (λs3=>P (.done (.ret .none)) s3) s') s') (λ_ _=>False) { s with heap:=h' }) :
  Ag prog w A (Builtin.«list.sort» #[[.ref a],[]]) P E s:=by
 have s1:=bz s.heap a (Obj.mapSeq λ_=>(#v[]:AK));obtain⟨e1,ho1⟩:∃e1,(s.heap.update a (Obj.mapSeq λ_=>(#v[]:AK))).get? a=some (seqObj "list" #v[] e1):=#[_,get?_update_seq ho λ_=>#v[]];have keep2:∀b x,(s.heap.update a (Obj.mapSeq λ_=>(#v[]:AK))).get? b=some x->(((s.heap.update a (Obj.mapSeq λ_=>(#v[]:AK))).push (seqObj "tuple" vs.toArray 0)).push (seqObj "list" #v[] 0)).get? b=some x:=λb x e=>ae _ (ae _ e)
 have ask:=h e1 _ (((kas_fr F s1 haL ha0).push (seqObj "tuple" vs.toArray 0)).push (seqObj "list" #v[] 0)) (λp hp=>by
  rcases aA.mp hp with rfl | hp;show#[keep2 _ _ ho1,haL,ha0];show (kas_news N s1 hna).grown keep2 p hp)
 rw[list_sort_plain];show aa (listItems_at ho BA (aa (gr ho BA ?_ (by rw[aY];show hz) (aL _))));show aa (seqEpoch_at ho1 BA (aa (wpAny_newTuple ?_ (by change vs.length<=_;show hz))));show aa (wpAny_newList (bn ?_) (aL _));change Ag prog w A _ P E { s with heap:=((s.heap.update a (Obj.mapSeq λ_=>(#v[]:AK))).push (seqObj "tuple" vs.toArray 0)).push (seqObj "list" #v[] 0) };dsimp only;have hn2:¬ vs.toArray.size<2:=by rw[aY];lia
 rw[if_neg hn2,if_neg hn2];show aa (bM ask (λκ s0 hk=>?_) λ_ _ x=>x.elim);show aa (bM (zqV h2 hk) ?_ λ_ _ e=>e);rintro⟨⟨⟩,st'⟩ s' ⟨rfl,p,hp,hout,hf,news',g,F',N',U,k⟩;dsimp only;obtain⟨pre,post,e0,hg,x1,x2⟩:=U.split;rw[e0] at N';have na:=N' (a,seqObj "list" #v[] e1) (aU _ (.head _));have hsz:(List.toArray (p.toList.map λi=>vs.getD i Value.none)).size=vs.length:=by rw[aY,ab,aO,hp]
 rw[hout];have s2:=bz s'.heap a (Obj.mapSeq λ_=>List.toArray (p.toList.map λi=>vs.getD i Value.none));obtain⟨c2,hc2⟩:∃c2,(s'.heap.update a (Obj.mapSeq λ_=>List.toArray (p.toList.map λi=>vs.getD i Value.none))).get? a=some (seqObj "list" (List.toArray (p.toList.map λi=>vs.getD i Value.none)) c2):=#[_,get?_update_seq na.1 λ_=>List.toArray (p.toList.map λi=>vs.getD i Value.none)];show aa (seqEpoch_at na.1 BA ?_);show aa (gr na.1 BA ?_ (aL _) (aH (Nat.le_of_eq hsz) (Nat.le_succ_of_le hz)));rw[hf];simp only[gd,aN,if_false];show af (k _ c2 (kas_fr F' s2 na.2.1 na.2.2) ?_);rw[hg];show news_set N' x1 x2 s2 hc2
end
theorem zhi {prog:Aa}{w:Ab}{A:Ae}{s:AZ}{b:Bool}{Q:Bool->AZ->Prop}:∀ {ns B:AG} {xs ys:AN} (i:Nat),yb (ns.map V.int) xs->yb (B.map V.int) ys->ns.length=B.length->Q (HT.lexLt ns B) s->W.KatLex prog w A b false Q (xs.zip ys) i s
 | [],[],_,_,i,I,J,_,q=>by cases I;cases J;show W.kat_nil q
 | [],_::_,_,_,_,_,_,h,_=>by simp at h
 | _::_,[],_,_,_,_,_,h,_=>by simp at h
 | a::ns,c::B,_,_,i,I,J,Y,q=>by
  cases I with
  | cons Z O=>
   cases J with
   | cons r2 U=>
    obtain⟨t,rfl⟩:=Z;obtain⟨u,rfl⟩:=r2;rw[List.zip_cons_cons];have F:Q (if a=c then HT.lexLt ns B else decide (a<c)) s:=q;show W.kat_cons (wpAny_eqBool_int ?_);by_cases e:a=c;rw[show (a==c)=true from by lia];rw[if_pos e] at F;show W.kat_yes (zhi (i+1) O U (by simpa using Y) F);rw[show (a==c)=false from beq_false_of_ne e];rw[if_neg e] at F;show W.kat_no ?_
    cases (b&&i==0) with
    | true=>show oneLt_int F
    | false=>show W.kat_one _ _ (P.lt_int F)
theorem xk:∀s:AG,HT.lexLt s s=false
 | []=>rfl
 | a::s=>by change (if a=a then HT.lexLt s s else _)=false;rw[if_pos rfl];show xk s
theorem zaO:∀ {a b c:AG},a.length=b.length->b.length=c.length->HT.lexLt a b=true->HT.lexLt b c=true->HT.lexLt a c=true
 | [],[],[],_,_,h,_=>h
 | x::a,y::b,z::c,h1,h2,J,O=>by
  have q:(if x=y then HT.lexLt a b else decide (x<y))=true:=J;have B:(if y=z then HT.lexLt b c else decide (y<z))=true:=O;change (if x=z then HT.lexLt a c else decide (x<z))=true;by_cases F:x=y;by_cases I:y=z;rw[if_pos F] at q;rw[if_pos I] at B;rw[if_pos (F.trans I)];show zaO (by simpa using h1) (by simpa using h2) q B;grind;grind
 | [],_::_,_,h,_,_,_=>by simp at h
 | _::_,[],_,h,_,_,_=>by simp at h
 | [],[],_::_,_,h,_,_=>by simp at h
 | _::_,_::_,[],_,h,_,_=>by simp at h
theorem zaN:∀ {a b:AG},a.length=b.length->a=b\/HT.lexLt a b=true\/HT.lexLt b a=true
 | [],[],_=>.inl BA
 | [],_::_,h=>by simp at h
 | _::_,[],h=>by simp at h
 | x::a,y::b,h=>by
  change _\/(if x=y then HT.lexLt a b else decide (x<y))=true\/(if y=x then HT.lexLt b a else decide (y<x))=true;by_cases e:x=y
  ·subst e;rw[if_pos rfl,if_pos rfl];rcases zaN (a:=a) (b:=b) (by simpa using h) with h1 | h1 | h1
   all_goals right
  ·rw[if_neg e,if_neg (Ne.symm e)];rcases Int.lt_or_gt_of_ne e with h1 | h1
   all_goals right
theorem zg1 {α:Type}{p q:α->Bool}:∀ {l:List α},(∀x∈l,p x=true->q x=true)->(∃x∈l,p x=false/\q x=true)->l.countP p<l.countP q
 | [],_,h=>by right
 | y::l,h,k=>by
  have J:l.countP p<=l.countP q:=List.countP_mono_left λx B F=>h x (av _ B) F;rw[List.countP_cons,List.countP_cons];obtain⟨x,B,F,I⟩:=k;rcases aA.mp B with rfl | B;rw[F,I];simp;lia;have U:=zg1 (l:=l) (λz O=>h z (av _ O)) #[x,B,F,I];grind
def zfj (BE:AF)(i:Nat):Int:=(BE.countP λc=>HT.lexLt c (BE.getD i [])  : Nat)
def zaM{BE:AF}(q:∀st∈BE,st.length=m)(hi:i<BE.length)(I:j<BE.length):decide (zfj BE i<zfj BE j)=HT.lexLt (BE.getD i []) (BE.getD j []):=by
 have J:BE.getD i []∈BE:=by rw[aj,ak hi];show bD hi
 have O:BE.getD j []∈BE:=by rw[aj,ak I];show bD I
 have U:∀ {a b:AG},a∈BE->b∈BE->HT.lexLt a b=true->(BE.countP λc=>HT.lexLt c a)<(BE.countP λc=>HT.lexLt c b):=λ{a b} F Y B=>
  zg1 (λx Z hp=>zaO ((q x Z).trans (q a F).symm) ((q a F).trans (q b Y).symm) hp B) #[a,F,xk a,B]
 unfold zfj;generalize BE.getD i []=a at J;generalize BE.getD j []=b at O;rcases zaN (a:=a) (b:=b) ((q a J).trans (q b O).symm) with h | h | h;subst h;rw[xk];right
 all_goals grind
def zbq (h:Heap)(L:Addr):AB:=(List.range h.objs.size).filterMap λb=>if b=L then none else (h.get? b).map λo=>(b,o)
def z5:(b,o)∈zbq h L↔b≠L/\h.get? b=some o:=by
 unfold zbq;rw[dC];constructor;rintro⟨c,F,e⟩;by_cases q:c=L;right;rw[if_neg q] at e;obtain⟨o',B,I⟩:=aJ.mp e;grind;rintro⟨q,B⟩;show#[b,aM.mpr (ax B),by right]
def zsd {h:Heap}{L:Addr}{m q:AI}(a:h.Ns L m)(b:h.Ns L q):m=q:=by
 obtain⟨o,es,U,Y,Z,hk,hf⟩:=a;obtain⟨o',es',B,F,I,J,O⟩:=b;grind
section
variable {X:Cx}
def zci(x:yd P w H h a o):∃u,h.get? a=some u:=by
 cases o with
 | lst xs=>obtain⟨_,_,_,_,e⟩:=x;show#[_,e]
 | tup xs=>obtain⟨_,_,_,p⟩:=x;obtain⟨o,e,_⟩:=p;show#[o,e]
 | dK BC=>obtain⟨_,_,_,_,o,_,_,e,_⟩:=x;show#[_,e]
 | dT BC=>obtain⟨_,_,_,_,o,_,_,e,_⟩:=x;show#[_,e]
 | set S n=>obtain⟨o,_,_,_,e,_⟩:=x;show#[_,e]
 | ins C dx fs=>obtain⟨_,_,_,e,_⟩:=x;show#[_,e]
 | own y=>show x
 | xd fs=>obtain⟨_,⟨_,_,_,e,_⟩,_⟩:=x;show#[_,e]
 | met f y=>show#[_,x]
 | rng lo hi=>obtain⟨_,_,_,e⟩:=x;show#[_,e]
 | frz o u=>obtain⟨e,_⟩:=x;show#[_,e]
 | tbl ps=>show#[_,x]
 | ext q=>obtain⟨_,e,_⟩:=x;show e
def zgj{BB:AB}{G:St}{H:Hp}{s:AZ}(I:Inv X BB G H s)(hm:s.heap.Ns X.env.locals m){h':Heap}{BG:Addr}{ys:AT}{B:AN}(Z:∀b o,b≠X.env.locals->s.heap.get? b=some o->h'.get? b=some o)(O:h'.Ns X.env.locals m)(ac:s.heap.get? BG=none)(U:H BG=none)(ho:h'.get? BG=some { cls:=.type "list",data:=.seq B.toArray c })(hv:yb ys B)(hz:ys.length<=sizeLine)(tk:Nat):Inv X BB G (upd H BG (.lst ys)) { s with heap:=h',toks:=tk }:=by
 have nD:∀b o,s.heap.get? b=some o->b≠BG:=λb o e z=>by rw[z,ac] at e;cases e
 have nL:∀b u,H b=some u->b≠X.env.locals:=λb u e=>zc e I.free;show Inv.step (ch:=[]) (g':=s.gens) (d':=s.drawn) (t':=tk) I (λb J=>by simp at J) (λb o h1 _ _ F _=>Z b o h1 F) (λb o h1 _ _ F _=>#[o.slots,Z b o h1 F]) (λb o _ F h5=>by rw[zf (nD b o F)];show h5) (λb o _ F=>?_) (λb ys q=>by rw[zf (zc q U)];show q) (λb o u q=>by rw[zf (zc q U)];show q) (λb ps q=>#[#v[],by rw[zf (zc q U),et];show q]) (λm' ad=>by rw[<- zsd hm ad];show O) (λb u J=>?_) I.bare;by_cases hL:b=X.env.locals;obtain⟨o',_,_,h1,_⟩:=O;right;show#[o,Z b o hL F];by_cases Y:b=BG;subst Y;rw[zh] at J;cases J;show#[hz,B,c,hv,ho];rw[zf Y] at J;show (I.hok b u J).stay (λc v ag q=>Z c v ?_ q) (λc q=>by rw[zf (zc q U)];show q) (λc ys q=>by rw[zf (zc q U)];show q);grind
def zbh {α:Type}(d:α)(l:List α):(List.range l.length).map (λi=>l.getD i d)=l:=by show dS (by simp) λi h1 h2=>?_;simp[h2]
theorem zdt:∀ {a b:AG} {q:AN},yb (a.map V.int) q->yb (b.map V.int) q->a=b
 | [],[],_,_,_=>rfl
 | [],_::_,_,h,k=>by cases h;cases k
 | _::_,[],_,h,k=>by cases k;cases h
 | x::a,y::b,_,h,k=>by
  cases h with
  | cons B rr=>
   cases k with
   | cons F I=>
    obtain⟨t,rfl⟩:=B;obtain⟨t',e⟩:=F;cases e;rw[zdt rr I]
end
open PySem.Calls PySem.W
def zcL {prog:Aa}{w:Ab}{A:Ae}{E:AA}{s:AZ}{a:Addr}{vs:AN}{n:Nat}{P:PySem.Fin->AZ->Prop}(ho:s.heap.get? a=some (seqObj "list" vs.toArray n))(h2:vs.length<2)
  (h:∀h' c,(∀b o,b≠a->s.heap.get? b=some o->h'.get? b=some o)->h'.get? a=some (seqObj "list" vs.toArray c)->P (.done (.ret .none)) { s with heap:=h' }) :
  Ag prog w A (Builtin.«list.sort» #[[.ref a],[]]) P E s:=by
 obtain⟨e1,ho1⟩:∃e1,(s.heap.update a (Obj.mapSeq λ_=>(#v[]:AK))).get? a=some (seqObj "list" #v[] e1):=#[_,get?_update_seq ho λ_=>#v[]];rw[list_sort_plain];show aa (listItems_at ho BA ?_);show aa (gr ho BA ?_ (by rw[aY,cH];lia) (aL _));show aa (seqEpoch_at ho1 BA ?_);show aa (wpAny_newTuple ?_ (by change vs.length<=_;rw[cH];lia));show aa (wpAny_newList ?_ (aL _));show bn ?_;change Ag prog w A _ P E { s with heap:=((s.heap.update a (Obj.mapSeq λ_=>(#v[]:AK))).push (seqObj "tuple" vs.toArray 0)).push (seqObj "list" #v[] 0) };dsimp only;have hn2:vs.toArray.size<2:=by rw[aY];lia
 rw[if_pos hn2,if_pos hn2];show aa (af ?_);show aa (m:=(pure ():StateT SortSt _ _).run _) (af ?_);have hsnd:(arrOf (SortSt.mk' general' (vs.toArray.zip vs.toArray) #v[] 7 none)).map (λx=>x.snd)=vs.toArray:=by change (vs.toArray.zip vs.toArray).map (λx=>x.snd)=vs.toArray;apply fg.mp;rw[gx,Array.toList_zip];show List.map_snd_zip (ai _)
 have ha:a<s.heap.objs.size:=ax ho;have g3:(((s.heap.update a (Obj.mapSeq λ_=>(#v[]:AK))).push (seqObj "tuple" vs.toArray 0)).push (seqObj "list" #v[] 0)).get? a=some (seqObj "list" #v[] e1):=ae _ (ae _ ho1);show aa (seqEpoch_at g3 BA ?_);show aa (gr g3 BA ?_ (aL _) ?_);change wpAny _ _ _ _ _ _;dsimp only;rw[hsnd];simp only[gd,aN,if_false];show af (h _ _ (λb o hb e=>?_) (get?_update_seq g3 λ_=>vs.toArray));rw[Heap.get?_update_ne _ _ _ _ hb];show ae _ (ae _ ?_);rw[Heap.get?_update_ne _ _ _ _ hb];show e;dsimp only;rw[hsnd,aY,cH];lia
section
variable {X:Cx}
end
def Ris (xs:Array Nat):Prop:=∀i j:Nat,i<j->j<xs.size->xs.getD i 0<xs.getD j 0
theorem zdw {xs:Array Nat}(F:Ris xs){j:Nat}:∀ (B lo hi:Nat),lo<=hi->hi<=xs.size->hi - lo<=B->(∀i,i<lo->xs.getD i 0<j)->(∀i,hi<=i->i<xs.size->j<=xs.getD i 0)->
  ∃p,SetTable.below.go xs j B lo hi=p/\p<=xs.size/\(∀i,i<p->xs.getD i 0<j)/\(∀i,p<=i->i<xs.size->j<=xs.getD i 0)
 | 0,lo,hi,h1,h2,h3,I,J=>by
  have:lo=hi:=by lia
  subst this;show#[lo,BA,h2,I,J]
 | B+1,lo,hi,h1,h2,h3,I,J=>by
  change ∃p,(if lo<hi then if xs.getD ((lo+hi) / 2) j<j then SetTable.below.go xs j B ((lo+hi) / 2+1) hi else SetTable.below.go xs j B lo ((lo+hi) / 2) else lo)=p/\_;by_cases Y:lo<hi;rw[if_pos Y];have Z:(lo+hi) / 2<xs.size:=by lia
  have e:xs.getD ((lo+hi) / 2) j=xs.getD ((lo+hi) / 2) 0:=by simp[Z]
  rw[e];by_cases O:xs.getD ((lo+hi) / 2) 0<j;rw[if_pos O];show zdw F B _ hi (by lia) h2 (by lia) (λi U=>?_) J;by_cases q:i=(lo+hi) / 2;rw[q];show O;have:=F i ((lo+hi) / 2) (by lia) Z;lia;rw[if_neg O];show zdw F B lo _ (by lia) (by lia) (by lia) I (λi U hs=>?_);by_cases q:i=(lo+hi) / 2;rw[q];lia;have:=F ((lo+hi) / 2) i (by lia) hs;lia;rw[if_neg Y];have:lo=hi:=by lia
  subst this;show#[lo,BA,h2,I,J]
def xU(q:Ris xs)(j:Nat):SetTable.below xs j<=xs.size/\(∀i,i<SetTable.below xs j->xs.getD i 0<j)/\(∀i,SetTable.below xs j<=i->i<xs.size->j<=xs.getD i 0):=by obtain⟨p,e,h⟩:=zdw q (j:=j) xs.size 0 xs.size (aL _) (ai _) (ai _) (λi h=>absurd h (cE _)) (λi h1 h2=>by lia);have B:SetTable.below xs j=p:=e;rw[B];show h
def xM{xs:Array Nat}(h:xs[i]?=some j):i<xs.size/\xs.getD i 0=j:=by
 obtain⟨h1,h2⟩:=cV.mp h;right
def zgd{xs:Array Nat}(h:i<xs.size):xs[i]?=some (xs.getD i 0):=by simp[h]
def zls(B:Ris xs)(h:xs[i]?=some j):SetTable.below xs j=i:=by
 obtain⟨h1,h2⟩:=xM h;obtain⟨J,F,I⟩:=xU B j;rcases cQ (SetTable.below xs j) i with q | q | q;have:=I _ (ai _) (by lia);have:=B _ i q h1;lia;show q;have:=F i q;lia
def za3{t:SetTable}(q:Ris t.place)(h:t.place[i]?=some j):t.slot j = .live i:=by unfold SetTable.slot;rw[zls q h];simp[h]
def zkV {t:SetTable}(q:t.dummies = #v[]){j:Nat}(h:∀i:Nat,t.place[i]?≠some j):t.slot j = .empty:=by
 unfold SetTable.slot;have e:(t.place[SetTable.below t.place j]?==some j)=false:=by grind
 have B:SetTable.has t.dummies j=false:=by rw[q];rfl
 right
def zqI {t:SetTable}(q:Ris t.place)(B:t.dummies = #v[])(j:Nat):(t.slot j = .empty/\∀i:Nat,t.place[i]?≠some j)\/∃i,t.slot j = .live i/\t.place[i]?=some j:=by
 by_cases h:∃i:Nat,t.place[i]?=some j;obtain⟨i,hi⟩:=h;show .inr #[i,za3 q hi,hi];have h':∀i:Nat,t.place[i]?≠some j:=λi e=>h #[i,e];show .inl #[zkV B h',h']
def tm (q:Nat):SetTable:=#[q,#v[],#v[],0,true,0,true]
def stp (q:Nat)(h:Int):Nat->SetTable.Probe
 | 0=>(tm q).probeStart h
 | n+1=>(tm q).advance (stp q h n)
def wk (q:Nat)(h:Int)(n:Nat):Nat:=(stp q h n).j
def ziO (q:Nat)(p:SetTable.Probe):((tm q).advance p).dummy=p.dummy:=by unfold SetTable.advance;split <;> rfl
theorem zfL (q:Nat)(h:Int):∀n,(stp q h n).dummy=none
 | 0=>rfl
 | n+1=>by change ((tm q).advance _).dummy=none;rw[ziO,zfL q h n]
def zgS (q:Nat)(p:SetTable.Probe)(h:0<p.more):(tm q).advance p={ p with j:=p.j+1,more:=p.more - 1 }:=by unfold SetTable.advance;rw[if_pos h]
def zdv (q:Nat)(p:SetTable.Probe)(h:p.more=0):(tm q).advance p={ p with j:=(p.i * 5+1+p.perturb / 32) % (q+1),more:=SetTable.runEnd q ((p.i * 5+1+p.perturb / 32) % (q+1)) - (p.i * 5+1+p.perturb / 32) % (q+1),i:=(p.i * 5+1+p.perturb / 32) % (q+1),perturb:=p.perturb / 32 }:=by unfold SetTable.advance;rw[if_neg (by lia)];rfl
def lp (q:Nat)(h:Int):Nat->Nat×Nat
 | 0=>(SetTable.bits h % (q+1),SetTable.bits h)
 | n+1=>SetTable.leap q (lp q h n).1 (lp q h n).2
def zn7 (q i:Nat):SetTable.runEnd q i - i<=9:=by unfold SetTable.runEnd;split <;> lia
theorem zex (B:Nat)(h:Int){T i q:Nat}(e:stp B h T=#[i,SetTable.runEnd B i - i,i,q,none]):∀k,k<=SetTable.runEnd B i - i->stp B h (T+k)=#[i+k,SetTable.runEnd B i - i - k,i,q,none]
 | 0,_=>e
 | k+1,F=>by
  change (tm B).advance (stp B h (T+k))=_;rw[zex B h e k (by lia),zgS B _ (by lia)];grind
theorem zjR (q:Nat)(h:Int):∀k,∃T,T<=10 * k/\stp q h T=#[(lp q h k).1,SetTable.runEnd q (lp q h k).1 - (lp q h k).1,(lp q h k).1,(lp q h k).2,none]
 | 0=>#[0,ai _,BA]
 | k+1=>by obtain⟨T,B,e⟩:=zjR q h k;have F:=zn7 q (lp q h k).1;show#[T+(SetTable.runEnd q (lp q h k).1 - (lp q h k).1)+1,by lia,?_];change (tm q).advance (stp q h (T+_))=_;rw[zex q h e _ (ai _),zdv q _ (fU _)];rfl
theorem zc8 (q:Nat)(h:Int):∀k,(lp q h k).2=SetTable.bits h / 32 ^ k
 | 0=>by change SetTable.bits h=_;simp
 | k+1=>by change (lp q h k).2 / 32=_;rw[zc8 q h k,Nat.div_div_eq_div_mul,Nat.pow_succ]
def zop (h:Int):SetTable.bits h<2 ^ 64:=by
 unfold SetTable.bits;grind
def lcg (m i:Nat):Nat:=(i * 5+1) % m
def orb (m:Nat):Nat->Nat->Nat
 | 0,i=>i
 | k+1,i=>lcg m (orb m k i)
theorem zjZ (q:Nat)(h:Int):∀k,(lp q h (13+k)).1=orb (q+1) k (lp q h 13).1
 | 0=>rfl
 | k+1=>by
  change ((lp q h (13+k)).1 * 5+1+(lp q h (13+k)).2 / 32) % (q+1)=lcg (q+1) (orb (q+1) k _);rw[<- zjZ q h k,zc8];have B:=zop h
  have e:SetTable.bits h / 32 ^ (13+k)=0:=by
   show gv (a9 B ?_)
   calc 2 ^ 64<=32 ^ 13:=by ext
    _<=32 ^ (13+k):=dL (by ext) (by lia)
  rw[e];rfl
theorem zcs (m:Nat)(a:Nat):∀ (b i:Nat),orb m (a+b) i=orb m b (orb m a i)
 | 0,i=>rfl
 | b+1,i=>by change lcg m (orb m (a+b) i)=lcg m (orb m b _);rw[zcs m a b i]
def zre (m:Nat):Nat->Nat->AR
 | 0,_=>[]
 | n+1,i=>i::zre m n (lcg m i)
def zms (m:Nat)(k i:Nat):orb m (k+1) i=orb m k (lcg m i):=by rw[Nat.add_comm,zcs];rfl
theorem zee (m:Nat):∀ (n i k:Nat),k<n->(zre m n i)[k]?=some (orb m k i)
 | n+1,i,0,_=>rfl
 | n+1,i,k+1,h=>by rw[zms];show zee m n (lcg m i) k (by lia)
theorem zhw (m:Nat):∀ (n i:Nat),(zre m n i).length=n
 | 0,_=>rfl
 | n+1,i=>by change (zre m n _).length+1=n+1;rw[zhw m n]
structure Ring (m:Nat):Prop where
 pos:0<m
 all:∀v,v<m->v∈zre m m 0
 back:orb m m 0=0
def Ring.reach(r:Ring m)(hi:i<m)(J:j<m):∃k,k<m/\orb m k i=j:=by
 obtain⟨a,F,U⟩:=bt.mp (r.all i hi);obtain⟨b,I,Y⟩:=bt.mp (r.all j J);rw[zhw] at F I
 have q:orb m a 0=i:=by
  have:=zee m m 0 a F;right
 have B:orb m b 0=j:=by
  have:=zee m m 0 b I;right
 by_cases O:a<=b;show#[b - a,by lia,?_];rw[<- q,<- zcs,show a+(b - a)=b by lia];show B;show#[b+m - a,by lia,?_];rw[<- q,<- zcs,show a+(b+m - a)=m+b by lia,zcs,r.back];show B
def ztc (m:Nat):Bool:=((List.range m).all λv=>(zre m m 0).contains v)&&orb m m 0==0
def zeo(q:0<m)(h:ztc m=true):Ring m:=by
 unfold ztc at h;rw[bj] at h;show#[q,λv B=>?_,cm h.2];right
def zv1:Ring 8:=zeo (by ext) (by decide +kernel)
def ztb:Ring 32:=zeo (by ext) (by decide +kernel)
def zqu:Ring 128:=zeo (by ext) (by decide +kernel)
def zqv:Ring 512:=zeo (by ext) (by decide +kernel)
def zni(r:Ring (q+1))(h:Int)(B:j<=q):∃n,n<10 * SetTable.turns q/\wk q h n=j:=by have F:(lp q h 13).1<q+1:=ge _ (fW _);obtain⟨k,J,e⟩:=r.reach F (gf B);obtain⟨T,O,I⟩:=zjR q h (13+k);show#[T,by unfold SetTable.turns;lia,?_];change (stp q h T).j=j;rw[I];change (lp q h (13+k)).1=j;rw[zjZ,e]
def zqx {xs:Array Nat}(B:Ris xs){i j a b:Nat}(hi:xs[i]?=some a)(F:xs[j]?=some b)(h:a<b):i<j:=by
 obtain⟨h1,h2⟩:=xM hi;obtain⟨I,J⟩:=xM F;rcases cQ i j with q | q | q;show q;subst q;lia;have:=B j i q h1;lia
theorem zhF(q:Ris xs):∀ (M:Nat),(∀j,j<M->∃i:Nat,xs[i]?=some j)->∀ (j i:Nat),j<M->xs[i]?=some j->j<=i
 | _,_,0,_,_,_=>aL _
 | M,h,j+1,i,I,e=>by obtain⟨F,B⟩:=h j (by lia);have h1:=zqx q B e (cW j);have h2:=zhF q M h j F (by lia) B;lia
def zqw(q:Ris xs)(h:xs.size<M):∃j,j<M/\∀i:Nat,xs[i]?≠some j:=by show bG λhn=>?_;have all:∀j,j<M->∃i:Nat,xs[i]?=some j:=λj B=>bG λF=>hn #[j,B,λi e=>F #[i,e]];obtain⟨i,e⟩:=all (M - 1) (by lia);have h1:=zhF q M all (M - 1) i (by lia) e;have h2:=(xM e).1;lia
section
variable {t:SetTable}{hashAt:Nat->Int}{h:Int}
theorem zhA (F:Ris t.place)(I:t.dummies = #v[]):∀ (q n:Nat),(∃N,n<=N/\N<n+q/\∀i:Nat,t.place[i]?≠some (wk t.mask h N))->
  ∃N,n<=N/\(∀m,n<=m->m<N->∃i,t.place[i]?=some (wk t.mask h m)/\hashAt i≠h)/\
   (((∀i:Nat,t.place[i]?≠some (wk t.mask h N))/\SetTable.probe.go t hashAt h q (stp t.mask h n)=some (.empty (wk t.mask h N) none))\/
    ∃i,t.place[i]?=some (wk t.mask h N)/\hashAt i=h/\SetTable.probe.go t hashAt h q (stp t.mask h n)=some (.candidate (wk t.mask h N) i (stp t.mask h (N+1))))
 | 0,n,⟨N,h1,h2,_⟩=>by lia
 | q+1,n,⟨N,h1,h2,J⟩=>by
  rcases zqI F I (wk t.mask h n) with ⟨e,hn⟩ | ⟨i,e,hi⟩;show#[n,ai _,λm a b=>by lia,.inl #[hn,?_]];change (match t.slot (wk t.mask h n) with | .empty=>some (SetTable.Met.empty (wk t.mask h n) (stp t.mask h n).dummy) | .dummy=>_ | .live i=>_)=_;rw[e,zfL];by_cases B:hashAt i=h;show#[n,ai _,λm a b=>by lia,.inr #[i,hi,B,?_]];change (match t.slot (wk t.mask h n) with | .empty=>_ | .dummy=>_ | .live i=>if hashAt i==h then some (SetTable.Met.candidate (wk t.mask h n) i (t.advance (stp t.mask h n))) else _)=_;rw[e];change (if (hashAt i==h)=true then _ else _)=_;rw[if_pos (beq_iff_eq.mpr B)];rfl;have Z:n≠N:=λz=>by subst z;show J i hi
  obtain⟨N',a1,O,a3⟩:=zhA F I q (n+1) #[N,by lia,by lia,J];have e2:SetTable.probe.go t hashAt h (q+1) (stp t.mask h n)=SetTable.probe.go t hashAt h q (stp t.mask h (n+1)):=by change (match t.slot (wk t.mask h n) with | .empty=>_ | .dummy=>_ | .live i=>if hashAt i==h then _ else SetTable.probe.go t hashAt h q (t.advance (stp t.mask h n)))=_;rw[e];change (if (hashAt i==h)=true then _ else _)=_;rw[if_neg (λz=>B (beq_iff_eq.mp z))];rfl
  show#[N',by lia,λm b1 U=>?_,?_];by_cases Y:m=n;subst Y;show#[i,hi,B];show O m (by lia) U;right
variable {prog:Aa}{w:Ab}
abbrev tk (prog:Aa)(w:Ab):HeapKind prog w (List Key):=tupleKind (zT prog w)
def zuw (t:SetTable)(h:Int)(i:Nat):Prop:=∃n,n<10 * SetTable.turns t.mask/\t.place[i]?=some (wk t.mask h n)/\∀m,m<n->∃q:Nat,t.place[q]?=some (wk t.mask h m)
def zau (m:Nat):Prop:=m=7\/m=31\/m=127\/m=511
def zau.ring(h:zau m):Ring (m+1):=by
 rcases h with rfl | rfl | rfl | rfl;show zv1;show ztb;show zqu;show zqv
def zau.le(h:zau m):7<=m/\m<=511:=by rcases h with rfl | rfl | rfl | rfl <;> lia
def zau.odd(h:zau m):(m % 2==0)=false:=by rcases h with rfl | rfl | rfl | rfl <;> rfl
structure Tb (prog:Aa)(w:Ab)(t:SetTable)(es:Array (Int×Value))(xs:List (List Key×Addr)):Prop where
 eq:es.toList=xs.map λq=>((tk prog w).hash q.1,Value.ref q.2)
 nd:(xs.map (·.1)).Nodup
 dm:t.dummies = #v[]
 ris:Ris t.place
 le:∀ (i j:Nat),t.place[i]?=some j->j<=t.mask
 sz:t.place.size=xs.length
 msk:zau t.mask
 few:xs.length<=t.mask
 plain:t.plain=true
 led:t.led = !w.params.followText "set-order"
 reach:∀ (i:Nat) (q:List Key×Addr),xs[i]?=some q->zuw t ((tk prog w).hash q.1) i
variable {es:Array (Int×Value)}{xs:List (List Key×Addr)}
def Tb.size (T:Tb prog w t es xs):es.size=xs.length:=by rw[<- aO,T.eq,ab]
def Tb.get (T:Tb prog w t es xs){i:Nat}{q:List Key×Addr}(h:xs[i]?=some q):es[i]?=some ((tk prog w).hash q.1,Value.ref q.2):=by rw[<- b9,T.eq,aD,h];rfl
def Tb.at' (T:Tb prog w t es xs){i j:Nat}(h:t.place[i]?=some j):∃q,xs[i]?=some q:=by
 have:=(xM h).1;rw[T.sz] at this;right
def Tb.fits (T:Tb prog w t es xs):t.fits es.size=true:=by unfold SetTable.fits SetTable.fill;rw[T.size,T.sz,T.dm];have:=T.few;simp;lia
def Tb.empty (T:Tb prog w t es xs)(h:Int):∃N,N<10 * SetTable.turns t.mask/\∀i:Nat,t.place[i]?≠some (wk t.mask h N):=by have:=T.few;obtain⟨j,q,hn⟩:=zqw T.ris (M:=t.mask+1) (by rw[T.sz];lia);obtain⟨N,h1,h2⟩:=zni T.msk.ring h (dj q);show#[N,h1,by rw[h2];show hn]
variable {A:Ae}{E:AA}{s:AZ}
def zf1(h:(zT prog w).is k v=true):(∃i t,v = .int i t)\/∃x t,v = .str x t:=by
 rcases zS h with ⟨i,t,_,e⟩ | ⟨x,t,_,e⟩;show .inl #[i,t,e];show .inr #[x,t,e]
theorem zb5:∀ {ks:List Key} {vs:AN},ItemsAre (zT prog w) ks vs->∀v∈vs,(∃i t,v = .int i t)\/∃x t,v = .str x t
 | _,_,.nil,v,h=>by simp at h
 | _,_,.cons h1 h2,v,h=>by
  rcases aA.mp h with rfl | h;show zf1 h1;show zb5 h2 v h
def zda(J:(tk prog w).is s.heap k b)(h:Q false s):Ag prog w A (ofAClassStatement 8 (.ref b)) Q E s:=by
 have B:IsTupleKey (zT prog w) s.heap k b:=J;have O:=B.typeIs;obtain⟨o,items,n,U,_,Y,hi⟩:=B;unfold ofAClassStatement;show aa (eV O ?_);dsimp only;rw[if_pos (by ext)];show aa (af ?_);simp only[gt,aN,if_false];show aa (cN U Y ?_);show aa ?_;change wpAny _ _ (forIn items _ _) _ _ s;rw[<- Array.forIn_toList];show gy _ (λzz r s'=>r.1=none/\s'=s/\∀v∈zz,(∃i t,v=Value.int i t)\/∃x t,v=Value.str x t) _ ?_ ?_ _ _ #[BA,BA,zb5 hi]
 ·rintro v zz r s' ⟨F,rfl,q⟩;have e:ofAClassStatement 7 v=pure false:=by rcases q v ao with ⟨i,t,rfl⟩ | ⟨x,t,rfl⟩ <;> rfl
  rw[e];show aa (af ?_);simp only[aN,if_false];show af #[BA,BA,λu I=>q u (av _ I)]
 rintro⟨Z,r2⟩ s' ⟨F,rfl,_⟩;simp only at F;subst F;show af h
def ztQ(U:(tk prog w).is s.heap k b):∀ (l:AN),(∀v∈l,∃F q,v = .ref q/\(tk prog w).is s.heap F q)->Q false s->Ag prog w A (searchCouldBeSeen (.ref b) l) Q E s:=by
 intro l Y h;unfold searchCouldBeSeen;show aa ?_;show gy _ (λzz r s'=>r.1=none/\s'=s/\∀v∈zz,∃F q,v=Value.ref q/\(tk prog w).is s.heap F q) _ ?_ ?_ _ _ #[BA,BA,Y]
 ·rintro v zz r s' ⟨J,rfl,B⟩;obtain⟨F,q,rfl,I⟩:=B v ao;have next:∀u∈zz,∃F q,u=Value.ref q/\(tk prog w).is s'.heap F q:=λu O=>B u (av _ O);dsimp only;split
  ·show af #[BA,BA,next]
  ·show aa ((tk prog w).quiet U ?_);simp only[gt,aN,if_false];show aa ((tk prog w).quiet I ?_);simp only[gt,aN,if_false];show aa (zda U ?_);simp only[aN,if_false];show aa (zda I ?_);simp only[aN,if_false];show af #[BA,BA,next]
 rintro⟨Z,r2⟩ s' ⟨J,rfl,_⟩;simp only at J;subst J;show af h
def zeH (t:SetTable)(xs:List (List Key×Addr))(h:Int)(k:List Key)(n:Nat):Prop:=∀m,m<n->∃ (i:Nat) (q:List Key×Addr),t.place[i]?=some (wk t.mask h m)/\xs[i]?=some q/\q.1≠k
theorem zcK {a b:Addr}{o:Obj}{ep:Nat}{k:List Key}{adding:Bool}{Q:SetFound->AZ->Prop}(hu:A.units<cLine)(T:Tb prog w t es xs)(hk:(tk prog w).is s.heap k b)(hel:∀q∈xs,(tk prog w).is s.heap q.1 q.2)
  (ho:s.heap.get? a=some o) (hd:o.data = .set es ep t)
  (found:∀r i q,xs[i]?=some q->q.1=k->(r=none/\adding=true\/r=some i)->Q (.there r) s)
  (free:∀N,N<10 * SetTable.turns t.mask->(∀i:Nat,t.place[i]?≠some (wk t.mask ((tk prog w).hash k) N))->zeH t xs ((tk prog w).hash k) k N->Q (.free (wk t.mask ((tk prog w).hash k) N) false) s) :
  ∀ (fuel n:Nat) (stand:Option SetTable.Probe),stand.getD (t.probeStart ((tk prog w).hash k))=stp t.mask ((tk prog w).hash k) n->10 * SetTable.turns t.mask<n+fuel->n<=10 * SetTable.turns t.mask->zeH t xs ((tk prog w).hash k) k n->
   Ag prog w A (setSearchFrom a (.ref b) ((tk prog w).hash k) adding fuel stand) Q E s
 | 0,n,stand,_,h2,h3,_=>by lia
 | fuel+1,n,stand,h1,h2,h3,h4=>by
  unfold setSearchFrom;show aa (bK ho hd T.fits ?_);dsimp only;rw[show t.gaveWay=false from T.msk.odd];simp only[aN,if_false];rw[h1];obtain⟨N0,hN0,eN0⟩:=T.empty ((tk prog w).hash k)
  have hn0:n<=N0:=by
   rcases Nat.lt_or_ge N0 n with q | q;obtain⟨i,_,e,_⟩:=h4 N0 q;show absurd e (eN0 i);show q
  have pass:∀N,n<=N->(∀m,n<=m->m<N->∃i:Nat,t.place[i]?=some (wk t.mask ((tk prog w).hash k) m)/\(es[i]?.map (·.1)).getD 0≠(tk prog w).hash k)->zeH t xs ((tk prog w).hash k) k N:=λN hN hh m hm=>by
   rcases Nat.lt_or_ge m n with q | q;show h4 m q;obtain⟨i,e1,e2⟩:=hh m q hm;obtain⟨q,hq⟩:=T.at' e1;show#[i,q,e1,hq,λz=>e2 ?_];rw[T.get hq,<- z];rfl
  obtain⟨N,hN,hp,hc⟩:=zhA (t:=t) (hashAt:=λi=>(es[i]?.map (·.1)).getD 0) (h:=(tk prog w).hash k) T.ris T.dm (10 * SetTable.turns t.mask) n #[N0,hn0,by lia,eN0]
  have hNle:N<=N0:=by
   rcases Nat.lt_or_ge N0 N with q | q;obtain⟨i,e,_⟩:=hp N0 hn0 q;show absurd e (eN0 i);show q
  rcases hc with ⟨he,hg⟩ | ⟨i,hi,hh,hg⟩;have hg':t.probe (λi=>(es[i]?.map (·.1)).getD 0) ((tk prog w).hash k) (stp t.mask ((tk prog w).hash k) n)=some (.empty (wk t.mask ((tk prog w).hash k) N) none):=hg;have fin:=free N (by lia) he (pass N hN hp);generalize hm:SetTable.probe t _ _ _=met;have:met=some (.empty (wk t.mask ((tk prog w).hash k) N) none):=hm.symm.trans hg';rw[this];dsimp only;show af fin;have hg':t.probe (λi=>(es[i]?.map (·.1)).getD 0) ((tk prog w).hash k) (stp t.mask ((tk prog w).hash k) n)=some (.candidate (wk t.mask ((tk prog w).hash k) N) i (stp t.mask ((tk prog w).hash k) (N+1))):=hg;generalize hm:SetTable.probe t _ _ _=met;have:met=some (.candidate (wk t.mask ((tk prog w).hash k) N) i (stp t.mask ((tk prog w).hash k) (N+1))):=hm.symm.trans hg';rw[this];dsimp only;obtain⟨q,hq⟩:=T.at' hi;have hqe:=T.get hq;have hqk:=hel q (az hq);have stl:t.slot (wk t.mask ((tk prog w).hash k) N) = .live i:=za3 T.ris hi
  have core:Ag prog w A (do
    let some (_,y):=es[i]? | unsupported "internal:set-entry"
    let equal <- holding [y] (eqBool y (.ref b))
    let (es',_,t') <- setState a
    if adding&&equal then return .there none
    let some smem:=t'.sameMemory t.moves t.mask | unsupported "set.changed-during-lookup:is-the-new-block-at-the-old-address"
    let still <- match (if smem then t'.slot (wk t.mask ((tk prog w).hash k) N) else .empty) with
     | .live i'=>match es'[i']? with
      | some (_,y')=>do pure (if <- isSame y' y then some i' else none)
      | none=>pure none
     | _=>pure none
    match still with
    | none=>rule "set.search.anew";setSearchFrom a (.ref b) ((tk prog w).hash k) adding fuel none
    | some i'=>if equal then return .there (some i') else setSearchFrom a (.ref b) ((tk prog w).hash k) adding fuel (some (stp t.mask ((tk prog w).hash k) (N+1)))) Q E s:=by
   rw[hqe];dsimp only;show aa (bn ((tk prog w).eqBool hu hqk hk ?_));show aa (bK ho hd T.fits ?_);dsimp only;by_cases hkk:q.1=k;rw[a8 hkk]
   cases adding with
   | true=>
    simp only[Bool.and_self,if_true];show af (found none i q hq hkk (.inl #[BA,BA]))
   | false=>
    simp only[Bool.false_and,aN,if_false];have e1:t.sameMemory t.moves t.mask=some true:=by unfold SetTable.sameMemory;simp
    rw[e1];dsimp only;simp only[if_true];rw[stl];dsimp only;rw[hqe];dsimp only;show aa (wpAny_isSame_ref_self (aa (af ?_)));simp only[if_true];show af (found (some i) i q hq hkk (.inr BA))
   rw[bE hkk];simp only[Bool.and_false,aN,if_false];have e1:t.sameMemory t.moves t.mask=some true:=by unfold SetTable.sameMemory;simp
   rw[e1];dsimp only;simp only[if_true];rw[stl];dsimp only;rw[hqe];dsimp only;show aa (wpAny_isSame_ref_self (aa (af ?_)));simp only[if_true];show zcK hu T hk hel ho hd found free fuel (N+1) _ BA (by lia) (by lia) λm hm=>?_;rcases Nat.lt_succ_iff_lt_or_eq.mp hm with z | z;show pass N hN hp m z;subst z;show#[i,q,hi,hq,hkk]
  split;show aa (ztQ hk _ (λv hv=>?_) ?_);obtain⟨e,he,rfl⟩:=au.mp hv;have he':e∈es.toList:=by have:=bZ.mp he;show bZ.mpr (Array.mem_filter.mp this).1
  rw[T.eq] at he';obtain⟨q',hq',rfl⟩:=au.mp he';show#[_,_,BA,hel q' hq'];simp only[aN,if_false];show core;show core
end
def ze6 {α:Type}(l:List α)(p:Nat)(x:α):List α:=l.take p++x::l.drop p
def zgh {α:Type}{l:List α}{p i:Nat}{x:α}(q:p<=l.length)(h:i<p):(ze6 l p x)[i]?=l[i]?:=by unfold ze6;rw[aC (by grind),b8 h]
def zgf{α:Type}{l:List α}{x:α}(q:p<=l.length):(ze6 l p x)[p]?=some x:=by
 unfold ze6;right
def zgg {α:Type}{l:List α}{p i:Nat}{x:α}(q:p<=l.length)(h:p<=i):(ze6 l p x)[i+1]?=l[i]?:=by unfold ze6;rw[aW (by grind),bq,show i+1 - min p l.length=(i - p)+1 by lia,bL,eC,show p+(i - p)=i by lia]
def zdG {α:Type}{l:List α}{p:Nat}{x:α}(q:p<=l.length):(ze6 l p x).length=l.length+1:=by
 unfold ze6;grind
def zlT {α q:Type}(f:α->q)(l:List α)(p:Nat)(x:α):(ze6 l p x).map f=ze6 (l.map f) p (f x):=by
 unfold ze6;right
def zjy {α:Type}(l:List α)(p:Nat)(x:α):(ze6 l p x).Perm (x::l):=by
 unfold ze6;show List.perm_middle.trans ?_;right
def yr{α:Type}(xs:Array α)(x:α):(SetTable.insertAt xs p x).toList=ze6 xs.toList p x:=by
 unfold SetTable.insertAt ze6;rw[br,bY,Array.toList_extract,Array.toList_extract,List.extract_eq_take_drop,List.extract_eq_take_drop];rw[Nat.sub_zero,dN,aE];congr 1;change x::_=_;congr 1;change []++List.take _ (List.drop p xs.toList)=_;rw[List.nil_append];show bg ?_;right
def zbx {α:Type}(xs:Array α)(i:Nat):xs[i]?=xs.toList[i]?:=by right
def zgi{xs:Array Nat}(B:p<=xs.size)(h:xs[i]?=some v):(SetTable.insertAt xs p j)[if i<p then i else i+1]?=some v:=by
 rw[zbx,yr];rw[zbx] at h;have q:p<=xs.toList.length:=by rw[aO];show B
 split
 ·rename_i hi;rw[zgh q hi,h]
 ·rename_i hi;rw[zgg q (by lia),h]
def zaG{xs:Array Nat}(I:p<=xs.size)(h:(SetTable.insertAt xs p j)[i]?=some v):(i=p/\v=j)\/(i<p/\xs[i]?=some v)\/∃B,i=B+1/\p<=B/\xs[B]?=some v:=by
 rw[zbx,yr] at h;have F:p<=xs.toList.length:=by rw[aO];show I
 rcases cQ i p with q | q | q;rw[zgh F q,<- zbx] at h;right;subst q;rw[zgf F] at h;right;obtain⟨B,rfl⟩:∃B,i=B+1:=#[i - 1,by lia];rw[zgg F (by lia),<- zbx] at h;show .inr (.inr #[B,BA,by lia,h])
def zio(hr:Ris xs)(hn:∀i:Nat,xs[i]?≠some j):Ris (SetTable.insertAt xs (SetTable.below xs j) j):=by
 obtain⟨O,b2,b3⟩:=xU hr j;intro i I Y h2;have e1:=zgd (xs:=SetTable.insertAt xs (SetTable.below xs j) j) (i:=i) (by lia);have J:=zgd h2;generalize (SetTable.insertAt xs (SetTable.below xs j) j).getD i 0=v at e1;generalize (SetTable.insertAt xs (SetTable.below xs j) j).getD I 0=U at J
 have Z:∀i v,SetTable.below xs j<=i->xs[i]?=some v->j<v:=λi v h e=>by
  obtain⟨a1,a2⟩:=xM e;grind
 have F:∀i v,i<SetTable.below xs j->xs[i]?=some v->v<j:=λi v h e=>by obtain⟨a1,a2⟩:=xM e;have:=b2 i h;lia
 have B:∀i I v U,i<I->xs[i]?=some v->xs[I]?=some U->v<U:=λi I v U h e J=>by
  obtain⟨a1,a2⟩:=xM e;obtain⟨a3,a4⟩:=xM J;have:=hr i I h a3
  omega
 rcases zaG O e1 with ⟨rfl,rfl⟩ | ⟨q,e⟩ | ⟨i',rfl,q,e⟩;rcases zaG O J with ⟨rfl,rfl⟩ | ⟨q',e'⟩ | ⟨i'',rfl,q',e'⟩;lia;lia;show Z _ _ q' e';rcases zaG O J with ⟨rfl,rfl⟩ | ⟨q',e'⟩ | ⟨i'',rfl,q',e'⟩;show F _ _ q e;show B _ _ _ _ Y e e';show B _ _ _ _ (by lia) e e';rcases zaG O J with ⟨rfl,rfl⟩ | ⟨q',e'⟩ | ⟨i'',rfl,q',e'⟩;lia;lia;show B _ _ _ _ (by lia) e e'
section
variable {prog:Aa}{w:Ab}{t:SetTable}{es:Array (Int×Value)}{xs:List (List Key×Addr)}
def zoQ:SetTable.has #v[] j=false:=rfl
def Tb.put(T:Tb prog w t es xs)(hN:N<10 * SetTable.turns t.mask)(he:∀i:Nat,t.place[i]?≠some (wk t.mask ((tk prog w).hash k) N))(hp:zeH t xs ((tk prog w).hash k) k N)(hk:k∉xs.map (·.1))(hf:xs.length+1<=t.mask)(ac:wk t.mask ((tk prog w).hash k) N<=t.mask) :
  ∃O,Tb prog w (t.put (wk t.mask ((tk prog w).hash k) N)).1 (SetTable.insertAt es (t.put (wk t.mask ((tk prog w).hash k) N)).2 ((tk prog w).hash k,.ref b)) O/\O.Perm ((k,b)::xs):=by
 generalize hj:wk t.mask ((tk prog w).hash k) N=j at *;obtain⟨U,b2,b3⟩:=xU T.ris j;have ad:(t.put j).2=SetTable.below t.place j:=rfl
 have ht:(t.put j).1={ t with place:=SetTable.insertAt t.place (SetTable.below t.place j) j }:=by
  unfold SetTable.put;dsimp only;rw[T.dm,zoQ];grind
 generalize ag:SetTable.below t.place j=p at *;have F:p<=xs.length:=by rw[<- T.sz];show U
 have B:∀ {i v:Nat},t.place[i]?=some v->∃I:Nat,(SetTable.insertAt t.place p j)[I]?=some v:=λ{i v} h=>#[_,zgi U h];have Y:=zjy xs p (k,b);show#[ze6 xs p (k,b),?_,Y];rw[ad,ht];show#[?_,?_,T.dm,?_,?_,?_,T.msk,?_,T.plain,T.led,?_];rw[yr,T.eq,zlT];rw[(Y.map (·.1)).nodup_iff,aB,cC];show#[hk,T.nd];have:=zio T.ris he;right;intro i v e;rcases zaG U e with ⟨_,rfl⟩ | ⟨_,e'⟩ | ⟨_,_,_,e'⟩;show ac;show T.le _ _ e';show T.le _ _ e';change (SetTable.insertAt t.place p j).size=_;rw[<- aO,yr,zdG (by right),zdG F,aO,T.sz];change (ze6 xs p (k,b)).length<=t.mask;rw[zdG F];show hf;intro i q J;rcases cQ i p with z | z | z;rw[zgh F z] at J;obtain⟨n,h1,h2,h3⟩:=T.reach i q J;show#[n,h1,?_,λm Z=>?_];have:=zgi (j:=j) U h2;right;obtain⟨I,e⟩:=h3 m Z;show B e;subst z;rw[zgf F] at J;cases J;show#[N,hN,?_,λm Z=>?_];change (SetTable.insertAt t.place i j)[i]?=_;rw[zbx,yr,zgf (by right)];right;obtain⟨I,q',e,_⟩:=hp m Z;show B e;obtain⟨I,rfl⟩:∃I,i=I+1:=#[i - 1,by lia];rw[zgg F (by lia)] at J;obtain⟨n,h1,h2,h3⟩:=T.reach I q J;show#[n,h1,?_,λm Z=>?_];have:=zgi (j:=j) U h2;rw[if_neg (by lia)] at this;show this;obtain⟨I,e⟩:=h3 m Z;show B e
end
theorem zdZ:∀ (n:Nat) {l:AR},l.Nodup->(∀x∈l,x<n)->l.length<=n
 | 0,l,_,h=>by
  cases l with
  | nil=>show ai _
  | cons a _=>show absurd (h a ao) (cE _)
 | n+1,l,hn,h=>by
  by_cases B:n∈l
  have h1:=zdZ n (hn.erase n) λx q=>by
   grind
  grind
  have:=zdZ n hn λx q=>by
   grind
  lia
theorem zeg {α:Type}[BEq α][LawfulBEq α]:∀ {l l':List α},l.Nodup->l'.Nodup->(∀x,x∈l↔x∈l')->l.Perm l'
 | [],l',_,_,h=>by
  cases l' with
  | nil=>show .nil
  | cons a _=>show absurd ((h a).mpr ao) (by simp)
 | a::l,l',hn,q,h=>by grind
def St0 (q:Nat)(h:Int)(K:Nat):SetTable.Probe:=#[(lp q h K).1,SetTable.runEnd q (lp q h K).1 - (lp q h K).1,(lp q h K).1,(lp q h K).2,none]
def zjS {q:Nat}{h:Int}{T K:Nat}(e:stp q h T=St0 q h K):stp q h (T+(SetTable.runEnd q (lp q h K).1 - (lp q h K).1)+1)=St0 q h (K+1):=by change (tm q).advance (stp q h (T+_))=_;rw[zex q h e _ (ai _),zdv q _ (fU _)];rfl
theorem zr5 (q:Nat)(h:Int):∀K,(lp q h K).1<=q
 | 0=>dj (ge _ (fW _))
 | K+1=>dj (ge _ (fW _))
def zcy {q i:Nat}(h:i<=q):SetTable.runEnd q i<=q/\i<=SetTable.runEnd q i:=by unfold SetTable.runEnd;split <;> lia
theorem zeZ{h:Int}{owner:Array (Option Nat)}(hs:owner.size=q+1):∀ (B K T:Nat),T<=10 * K->stp q h T=St0 q h K->(∀m,m<T->∃F,owner[wk q h m]?=some (some F))->
  (∃K',K<=K'/\K'<K+B/\owner[(lp q h K').1]?=some none)->
  ∃N,SetTable.layClean.free q owner B (lp q h K).1 (lp q h K).2=some (wk q h N)/\N<10 * (K+B)/\wk q h N<=q/\owner[wk q h N]?=some none/\∀m,m<N->∃F,owner[wk q h m]?=some (some F)
 | 0,K,T,_,_,_,⟨K',h1,h2,_⟩=>by lia
 | B+1,K,T,hT,eT,ad,⟨K',h1,h2,h3⟩=>by
  have as:=zr5 q h K;obtain⟨r1,r2⟩:=zcy as;have r9:=zn7 q (lp q h K).1;have I:∀k,k<=SetTable.runEnd q (lp q h K).1 - (lp q h K).1->wk q h (T+k)=(lp q h K).1+k:=λk Y=>by change (stp q h (T+k)).j=_;rw[zex q h eT k Y]
  have inR:∀k,k<=SetTable.runEnd q (lp q h K).1 - (lp q h K).1->∃u,owner[(lp q h K).1+k]?=some u/\owner.getD ((lp q h K).1+k) (some 0)=u:=λk Y=>by
   have a4:(lp q h K).1+k<owner.size:=by lia
   right
  change ∃N,(match (List.range (SetTable.runEnd q (lp q h K).1+1 - (lp q h K).1)).find? λk=>(owner.getD ((lp q h K).1+k) (some 0)).isNone with
   | some k=>some ((lp q h K).1+k)
   | none=>SetTable.layClean.free q owner B (lp q h (K+1)).1 (lp q h (K+1)).2)=some (wk q h N)/\_
  cases hf:(List.range (SetTable.runEnd q (lp q h K).1+1 - (lp q h K).1)).find? λk=>(owner.getD ((lp q h K).1+k) (some 0)).isNone with
  | some k=>
   obtain⟨hp,i,hi,ag,al⟩:=List.find?_eq_some_iff_getElem.mp hf;rw[cF] at ag;subst ag;rw[aG] at hi;have Y:i<=SetTable.runEnd q (lp q h K).1 - (lp q h K).1:=by lia
   obtain⟨u,J,O⟩:=inR i Y;rw[O] at hp
   have a0:u=none:=by
    cases u with
    | none=>rfl
    | some z=>show absurd hp (by simp)
   subst a0;show#[T+i,by rw[I i Y],by lia,by rw[I i Y];lia,by rw[I i Y];show J,λm hm=>?_];by_cases ac:m<T;show ad m ac;obtain⟨U,rfl⟩:∃U,m=T+U:=#[m - T,by lia];obtain⟨u,J,O⟩:=inR U (by lia);have:=al U (by lia);rw[cF,O] at this;rw[I U (by lia),J]
   cases u with
   | none=>simp at this
   | some F=>show#[F,BA]
  | none=>
   have an:=List.find?_eq_none.mp hf
   have Z:∀k,k<=SetTable.runEnd q (lp q h K).1 - (lp q h K).1->∃F,owner[(lp q h K).1+k]?=some (some F):=λk Y=>by
    obtain⟨u,J,O⟩:=inR k Y;have:=an k (aM.mpr (by lia));rw[O] at this
    cases u with
    | none=>simp at this
    | some F=>show#[F,J]
   have a5:K≠K':=λz=>by
    subst z;obtain⟨F,e⟩:=Z 0 (aL _);grind
   have ap:∀m,m<T+(SetTable.runEnd q (lp q h K).1 - (lp q h K).1)+1->∃F,owner[wk q h m]?=some (some F):=λm hm=>by
    by_cases ac:m<T;show ad m ac;obtain⟨U,rfl⟩:∃U,m=T+U:=#[m - T,by lia];rw[I U (by lia)];show Z U (by lia)
   obtain⟨N,a1,a2,a3⟩:=zeZ hs B (K+1) _ (by lia) (zjS eT) ap #[K',by lia,by lia,h3];show#[N,a1,by lia,a3]
structure Own (mask:Nat)(hs:AG)(n:Nat)(owner:Array (Option Nat)):Prop where
 size:owner.size=mask+1
 lt:∀ (j i:Nat),owner[j]?=some (some i)->i<n
 inj:∀ (j j' i:Nat),owner[j]?=some (some i)->owner[j']?=some (some i)->j=j'
 reach:∀ (i:Nat) (h:Int),i<n->hs[i]?=some h->∃N,N<10 * SetTable.turns mask/\owner[wk mask h N]?=some (some i)/\∀m,m<N->∃i',owner[wk mask h m]?=some (some i')
def Own.gap{hs:AG}(o:Own q hs n owner)(hn:n<=q):∃j,j<=q/\owner[j]?=some none:=by
 show bG λJ=>?_
 have all:∀j,j<q+1->∃i,owner[j]?=some (some i):=λj F=>by
  have O:j<owner.size:=by rw[o.size];show F
  cases e:owner[j] with
  | none=>show absurd #[j,dj F,by right] J
  | some i=>show#[i,by right]
 have U:=zdZ n (l:=(List.range (q+1)).map λj=>((owner[j]?).join).getD 0) ?_ ?_;rw[ab,aG] at U;lia;show cz.mpr (List.Pairwise.imp_of_mem ?_ dU);intro a b Y Z I e;show I ?_;obtain⟨i,hi⟩:=all a (aM.mp Y);obtain⟨i',B⟩:=all b (aM.mp Z);rw[hi,B] at e;have:i=i':=e;subst this;show o.inj _ _ _ hi B;intro x hx;obtain⟨j,F,rfl⟩:=au.mp hx;obtain⟨i,hi⟩:=all j (aM.mp F);rw[hi];show o.lt _ _ hi
def Own.step{hs:AG}{h:Int}(o:Own B hs n owner)(hr:Ring (B+1))(hn:n<=B)(hh:hs[n]?=some h) :
  ∃j,SetTable.layClean.free B owner (SetTable.turns B) (SetTable.bits h % (B+1)) (SetTable.bits h)=some j/\Own B hs (n+1) (owner.setIfInBounds j (some n)):=by
 obtain⟨g,hg,eg⟩:=o.gap hn;have hb:(lp B h 13).1<B+1:=gf (zr5 B h 13);obtain⟨k,hk,e⟩:=hr.reach hb (gf hg);obtain⟨N,h1,h2,h3,h4,h5⟩:=zeZ o.size (SetTable.turns B) 0 0 (ai _) (h:=h) BA (λm Y=>absurd Y (cE _)) #[13+k,aL _,by unfold SetTable.turns;lia,by rw[zjZ,e];show eg];have hj:wk B h N<owner.size:=by rw[o.size];lia
 have I:(owner.setIfInBounds (wk B h N) (some n))[wk B h N]?=some (some n):=by right
 have F:∀j,j≠wk B h N->(owner.setIfInBounds (wk B h N) (some n))[j]?=owner[j]?:=λj ac=>by rw[Array.getElem?_setIfInBounds];rw[if_neg (λz=>ac z.symm)]
 have J:∀j i,owner[j]?=some (some i)->(owner.setIfInBounds (wk B h N) (some n))[j]?=some (some i):=λj i e=>by
  by_cases q:j=wk B h N;rw[q,h4] at e;cases e;rw[F j q];show e
 show#[wk B h N,h1,by simp[o.size],λj i e=>?_,λj j' i e U=>?_,λi h' hi O=>?_];by_cases q:j=wk B h N;right;rw[F j q] at e;have:=o.lt _ _ e;lia;by_cases q:j=wk B h N;subst q;rw[I] at e;cases e;by_cases Z:j'=wk B h N;show Z.symm;rw[F j' Z] at U;have:=o.lt _ _ U;lia;rw[F j q] at e;by_cases Z:j'=wk B h N;subst Z;rw[I] at U;cases U;have:=o.lt _ _ e;lia;rw[F j' Z] at U;show o.inj _ _ _ e U;by_cases q:i=n;subst q;rw[hh] at O;cases O;show#[N,by lia,I,λm Y=>?_];obtain⟨i',e⟩:=h5 m Y;show#[i',J _ _ e];obtain⟨M,m1,m2,m3⟩:=o.reach i h' (by lia) O;show#[M,m1,J _ _ m2,λm Y=>?_];obtain⟨i',e⟩:=m3 m Y;show#[i',J _ _ e]
def zmu (q:Nat)(hs:AG):Own q hs 0 (Array.replicate (q+1) none):=by
 have B:∀j i,(Array.replicate (q+1) (none:Option Nat))[j]?≠some (some i):=λj i e=>by
  rw[Array.getElem?_replicate] at e;grind
 show#[by simp,λj i e=>absurd e (B j i),λj F i e=>absurd e (B j i),λi h hi=>absurd hi (cE _)]
theorem zg9(J:Ring (B+1)):∀ (zz q:AG) (owner:Array (Option Nat)),(q++zz).length<=B->Own B (q++zz) q.length owner->
  ∃F,zz.foldl (λ(acc:Option (Array (Option Nat)×Nat)) h=>acc.bind λx=>(SetTable.layClean.free B x.1 (SetTable.turns B) (SetTable.bits h % (B+1)) (SetTable.bits h)).bind λj=>some (x.1.setIfInBounds j (some x.2),x.2+1)) (some (owner,q.length))=some (F,(q++zz).length)/\Own B (q++zz) (q++zz).length F
 | [],q,owner,_,o=>by right
 | h::zz,q,owner,I,o=>by
  have U:q.length+(zz.length+1)<=B:=by rw[am,aK] at I;show I
  obtain⟨j,e,o'⟩:=o.step J (by lia) (h:=h) (by simp);have O:q++h::zz=(q++[h])++zz:=by rw[aE];rfl
  have Y:q.length+1=(q++[h]).length:=by rw[am];rfl
  rw[O,Y] at o';obtain⟨F,Z,f2⟩:=zg9 J zz (q++[h]) _ (by rw[<- O];show I) o';grind
def zfi(B:Ring (q+1))(hs:Array Int)(F:hs.size<=q):∃owner,SetTable.layClean q hs=some owner/\Own q hs.toList hs.size owner:=by
 obtain⟨owner,h1,h2⟩:=zg9 B hs.toList [] (Array.replicate (q+1) none) (by right) (zmu q _);rw[List.nil_append,aO] at h2;show#[owner,?_,h2];unfold SetTable.layClean;right
def yU (q:Nat)(owner:Array (Option Nat)):List (Nat×Nat):=(List.range (q+1)).filterMap λj=>(owner.getD j none).map (j,·)
def xD{hs:AG}(o:Own q hs n owner):(j,i)∈yU q owner↔owner[j]?=some (some i):=by
 unfold yU;rw[dC];constructor;rintro⟨O,F,e⟩;obtain⟨U,I,J⟩:=aJ.mp e;cases J;have B:j<owner.size:=by rw[o.size];show aM.mp F
 right;intro e;obtain⟨B,I⟩:=cV.mp e;show#[j,aM.mpr (by rw[<- o.size];show B),?_];right
def zjV (q:Nat)(owner:Array (Option Nat)):(yU q owner).Pairwise λa b=>a.1<b.1:=by
 unfold yU;show List.pairwise_filterMap.mpr ((List.pairwise_lt_range).imp ?_);right
def zjU{hs:AG}(o:Own q hs hs.length owner):((yU q owner).map (·.2)).Perm (List.range hs.length):=by
 show zeg ?_ dU λi=>?_;show cz.mpr (List.Pairwise.imp_of_mem ?_ (zjV q owner));intro a b B F I e;have h1:=(xD o).mp B;have h2:=(xD o).mp F;rw[e] at h1;have:=o.inj _ _ _ h1 h2;lia;rw[aM];constructor;intro h;obtain⟨⟨j,J⟩,h1,rfl⟩:=au.mp h;show o.lt _ _ ((xD o).mp h1);intro h;obtain⟨N,_,e,_⟩:=o.reach i hs[i] h (ak h);show au.mpr #[(_,i),(xD o).mpr e,BA]
def zcx {α:Type}(l:List α):(List.range l.length).filterMap (λi=>l[i]?)=l:=by
 have:∀ (n:Nat) (l:List α),n=l.length->(List.range n).filterMap (λi=>l[i]?)=l:=by
  intro n
  induction n with
  | zero=>intro l h;cases l with | nil=>rfl | cons _ _=>simp at h
  | succ n q=>
   intro l h
   cases l with
   | nil=>simp at h
   | cons a l=>
    rw[List.range_succ_eq_map,cq];change a::_=_;rw[fT];congr 1;show q l (by simpa using h)
 show this _ l BA
section
variable {prog:Aa}{w:Ab}{t:SetTable}{es:Array (Int×Value)}{xs:List (List Key×Addr)}
def Tb.laid(T:Tb prog w t es xs)(hm:zau B)(hl:xs.length<=B)(O Y:Nat) :
  ∃t' F ac,SetTable.laid B O Y t.led true (es.map (·.1))=some (t',F)/\(F.filterMap (es[·]?)).size=es.size/\Tb prog w t' (F.filterMap (es[·]?)) ac/\ac.Perm xs/\t'.mask=B:=by
 obtain⟨owner,e,o⟩:=zfi hm.ring (es.map (·.1)) (by rw[Array.size_map,T.size];show hl);have hh:(es.map (·.1)).toList=xs.map λq=>(tk prog w).hash q.1:=by rw[gx,T.eq,aI];rfl
 have hsz:(es.map (·.1)).size=xs.length:=by rw[Array.size_map,T.size]
 rw[hh,hsz] at o;have o':Own B (xs.map λq=>(tk prog w).hash q.1) (xs.map λq=>(tk prog w).hash q.1).length owner:=by rw[ab];show o
 have hp:=zjU o';rw[ab] at hp;have ad:((((yU B owner).map (·.2)).toArray).filterMap (es[·]?)).toList=((yU B owner).map (·.2)).filterMap (es.toList[·]?):=by right
 have J:(((yU B owner).map (·.2)).filterMap (xs[·]?)).Perm xs:=by have:=hp.filterMap (xs[·]?);rw[zcx] at this;show this
 have ag:((yU B owner).map (·.2)).filterMap (es.toList[·]?)=(((yU B owner).map (·.2)).filterMap (xs[·]?)).map λq=>((tk prog w).hash q.1,Value.ref q.2):=by rw[List.map_filterMap];congr 1;funext i;rw[T.eq,aD]
 have Z:∀ {c:Nat} {q:List Key×Addr},(((yU B owner).map (·.2)).filterMap (xs[·]?))[c]?=some q->∃j i,(yU B owner)[c]?=some (j,i)/\xs[i]?=some q:=by
  have as:∀ (l:List (Nat×Nat)),(∀p∈l,p.2<xs.length)->∀ {c:Nat} {q:List Key×Addr},((l.map (·.2)).filterMap (xs[·]?))[c]?=some q->∃j i,l[c]?=some (j,i)/\xs[i]?=some q:=by
   intro l
   induction l with
   | nil=>intro _ c q h;simp at h
   | cons p l ih=>
    intro al c q h;have a0:=al p ao;rw[aB,cq,ak a0] at h
    cases c with
    | zero=>
     show#[p.1,p.2,BA,?_];right
    | succ c=>show ih (λp' a1=>al p' (av _ a1)) (by simpa using h)
  intro c q h;show as _ (λp hp=>?_) h;obtain⟨j,i⟩:=p;show o.lt _ _ ((xD o).mp hp)
 have I:∀ {c j i:Nat},(yU B owner)[c]?=some (j,i)->(((yU B owner).map (·.1)).toArray)[c]?=some j:=λ{c j i} h=>by right
 show#[_,_,((yU B owner).map (·.2)).filterMap (xs[·]?),by unfold SetTable.laid;rw[e];rfl,?_,#[?_,?_,BA,?_,?_,?_,hm,?_,BA,by show T.led,?_],J,BA];change ((((yU B owner).map (·.2)).toArray).filterMap (es[·]?)).size=es.size;rw[<- aO,ad,ag,ab,J.length_eq,T.size];show ad.trans ag;rw[(J.map (·.1)).nodup_iff];show T.nd;intro i j an hj
 have ap:j<(yU B owner).length:=by
  have:(((yU B owner).map (·.1)).toArray).size=(yU B owner).length:=by simp
  rw[<- this];show hj
 have a2:i<(yU B owner).length:=Nat.lt_trans an ap;have:=bN.mp (zjV B owner) i j a2 ap an;change (((yU B owner).map (·.1)).toArray).getD i 0<(((yU B owner).map (·.1)).toArray).getD j 0;right;intro c j hc;have U:((yU B owner).map (·.1))[c]?=some j:=by rw[zbx] at hc;show hc
 rw[aD] at U;obtain⟨⟨j',i'⟩,h1,rfl⟩:=aJ.mp U;have h2:=(xD o).mp (az h1);have:=(cV.mp h2).1;rw[o.size] at this;change j'<=B;lia;change (((yU B owner).map (·.1)).toArray).size=_;have h1:(((yU B owner).map (·.1)).toArray).size=(yU B owner).length:=by simp
 rw[h1,J.length_eq];have:=hp.length_eq;grind;rw[J.length_eq];show hl;intro c q hq;obtain⟨j,i,h1,h2⟩:=Z hq;have hi:=(ah.mp h2).1;obtain⟨N,n1,n2,n3⟩:=o.reach i ((tk prog w).hash q.1) hi (by right);have hj:=o.inj _ _ _ ((xD o).mp (az h1)) n2;subst hj;show#[N,n1,I h1,λm a3=>?_];obtain⟨i',e'⟩:=n3 m a3;obtain⟨c',U,a4⟩:=bt.mp ((xD o).mpr e');show#[c',I (by rw[ak U,a4])]
variable {A:Ae}{E:AA}{s:AZ}
def xl (prog:Aa)(w:Ab)(h:Heap)(a:Addr)(xs:List (List Key×Addr)):Prop:=∃o es q t,h.get? a=some o/\o.ExactSet/\o.data = .set es q t/\Tb prog w t es xs/\xs.length * 5<t.mask * 3
def zbC{ns:AG}(Z:(tk prog w).is s.heap (ns.map Sum.inl) b)(h:Q true s):Ag prog w A (hashByValue 8 (.ref b)) Q E s:=by
 have I:IsTupleKey (zT prog w) s.heap (ns.map Sum.inl) b:=Z;have hT:=I.typeIs;obtain⟨o,items,n,ho,_,hd,hi⟩:=I
 have B:∀ {ns:AG} {vs:AN},ItemsAre (zT prog w) (ns.map Sum.inl) vs->∀v∈vs,∃i t,v=Value.int i t:=by
  intro ns
  induction ns with
  | nil=>intro vs h v J;cases h;simp at J
  | cons n ns ih=>
   intro vs h v J
   cases h with
   | cons h1 h2=>
    rcases aA.mp J with rfl | J
    ·have O:zgp (Sum.inl n) v=true:=h1;rcases zS O with ⟨i,t,_,e⟩ | ⟨x,t,z,_⟩
     all_goals right
    show ih h2 v J
 unfold hashByValue;show aa (ef hT F.slot_tuple_hash.lookup ?_);dsimp only;show aa (cN ho hd ?_);show aa ?_;change wpAny _ _ (forIn items _ _) _ _ s;rw[<- Array.forIn_toList];show gy _ (λzz r s'=>r.1=none/\s'=s/\∀v∈zz,∃i t,v=Value.int i t) _ ?_ ?_ _ _ #[BA,BA,B hi];rintro v zz r s' ⟨U,rfl,q⟩;obtain⟨i,t,rfl⟩:=q v ao;have e:hashByValue 7 (Value.int i t)=pure true:=rfl;rw[e];show aa (af ?_);simp only[gt,aN,if_false];show af #[BA,BA,λu Y=>q u (av _ Y)];rintro⟨r1,r2⟩ s' ⟨U,rfl,_⟩;simp only at U;subst U;show af h
def zdf{h:Heap}{a:Addr}{o:Obj}{es:Array (Int×Value)}{es':Array (Int×Value)}(F:h.get? a=some o)(B:o.data = .set es q t) :
  (h.update a (Obj.putSet es' t')).get? a=some { o with data:=.set es' (q+1) t' }:=by
 have:=bF (Obj.putSet es' t') F (by rw[putSet_of es' t' B];rfl);rw[putSet_of es' t' B] at this;show this
def zmU(T:Tb prog w t es xs)(ho:s.heap.get? a=some o)(hx:o.ExactSet)(hd:o.data = .set es ep t)(hw:SetTable.sizeAbove wanted=mask+1)(hm:zau mask)(hl:xs.length * 5<mask * 3)(h:∀h' xs',Heap.SameBut a s.heap h'->xl prog w h' a xs'->xs'.Perm xs->Q () { s with heap:=h' }):Ag prog w A (setRelay a wanted) Q E s:=by
 unfold setRelay;show aa (bK ho hd T.fits ?_);dsimp only;have:=hm.le;rw[if_neg (by rw[hw,cH];lia)];obtain⟨t',order,xs',e,hsz,T',hp,hmk⟩:=T.laid hm (by lia) t.finger (t.movedTo mask);have e':t.relaid (es.map (·.1)) wanted=some (t',order):=by unfold SetTable.relaid;rw[hw,T.plain];show e
 have core:∀ {R:Array (Int×Value)×SetTable->AZ->Prop},R (order.filterMap (es[·]?),t') s->Ag prog w A (do
   let some (t,order):=t.relaid (es.map (·.1)) wanted | unsupported "internal:set-table-without-room"
   let es':=order.filterMap (es[·]?)
   if es'.size != es.size then unsupported "internal:set-table-lost-an-element"
   pure (es',t)) R E s:=λ{R} hR=>by
  rw[e'];dsimp only;rw[hsz];simp only[gd,aN,if_false]
  first | show af hR | show aa (by grind)
 show aa (core ?_);show wpAny_storeSet_of ho hd ?_ (by rw[hsz,T.size,cH];lia);show h _ xs' (bz _ a _) #[_,_,_,t',zdf ho hd,hx,BA,T',?_] hp;rw[hp.length_eq,hmk];show hl
def Tb.out(T:Tb prog w t es xs)(Z:N<10 * SetTable.turns t.mask)(J:∀i:Nat,t.place[i]?≠some (wk t.mask ((tk prog w).hash k) N))(O:zeH t xs ((tk prog w).hash k) k N):k∉xs.map (·.1):=λz=>by
 obtain⟨q,U,B⟩:=au.mp z;obtain⟨i,hi⟩:=List.mem_iff_getElem?.mp U;obtain⟨n,h1,h2,I⟩:=T.reach i q hi;rw[B] at h2 I;rcases cQ N n with z | z | z;obtain⟨F,e⟩:=I N z;show J F e;right;obtain⟨F,q',Y,e2,e3⟩:=O n z
 have:F=i:=by
  have a1:=za3 T.ris Y;have a2:=za3 T.ris h2;right
 grind
def znp{ns:AG}(hu:A.units<cLine)(S:xl prog w s.heap a xs)(hk:(tk prog w).is s.heap (ns.map Sum.inl) b)(a0:∀q∈xs,(tk prog w).is s.heap q.1 q.2)(hn:xs.length<300)(h:∀r h' n Y,Heap.SameBut a s.heap h'->xl prog w h' a Y->((ns.map Sum.inl)∈xs.map (·.1)->Y=xs)->((ns.map Sum.inl)∉xs.map (·.1)->Y.Perm ((ns.map Sum.inl,b)::xs))->Q r { s with heap:=h',toks:=n }) :
  Ag prog w A (setAdd a (.ref b)) Q E s:=by
 obtain⟨o,es,ep,t,ho,hx,hd,T,B⟩:=S;unfold setAdd;show bn (aa ((tk prog w).pyHash hu hk ?_));unfold setAddHashed;show bn ?_;rw[show (100000:Nat)=99999+1 from rfl];unfold setAddHashedIn;show aa (bK (s:={ s with toks:=s.toks+(tk prog w).draws (ns.map Sum.inl) }) ho hd T.fits ?_);dsimp only;rw[show byScan (.ref b) es=false from rfl];simp only[aN,if_false];unfold setSearch;have hm:=T.msk.le;have ba:t.fill=xs.length:=by unfold SetTable.fill;rw[T.sz,T.dm];rfl
 show aa (zcK (s:={ s with toks:=s.toks+(tk prog w).draws (ns.map Sum.inl) }) hu T hk a0 ho hd ?found ?free 100000 0 none BA (by unfold SetTable.turns;lia) (aL _) (λm hm=>absurd hm (cE _)))
 case found=>
  intro r i q hq a1 _;dsimp only;have ag:(ns.map Sum.inl)∈xs.map (·.1):=au.mpr #[q,az hq,a1];show af (h false s.heap _ xs (Heap.SameBut.refl a s.heap) #[o,es,ep,t,ho,hx,hd,T,B] (λ_=>rfl) (λz=>absurd ag z))
 case free=>
  intro N hN he hp;have Z:=T.out hN he hp;dsimp only;show aa (bK (s:={ s with toks:=s.toks+(tk prog w).draws (ns.map Sum.inl) }) ho hd T.fits ?_);dsimp only
  have al:wk t.mask ((tk prog w).hash (ns.map Sum.inl)) N<=t.mask:=by
   have:∀ (h:Int) (n:Nat),wk t.mask h n<=t.mask/\(stp t.mask h n).j+(stp t.mask h n).more<=t.mask:=by
    intro h n
    induction n with
    | zero=>
     have h0:SetTable.bits h % (t.mask+1)<=t.mask:=dj (ge _ (fW _));obtain⟨r1,r2⟩:=zcy h0;show#[h0,?_];change SetTable.bits h % (t.mask+1)+(SetTable.runEnd t.mask (SetTable.bits h % (t.mask+1)) - SetTable.bits h % (t.mask+1))<=t.mask;lia
    | succ n ih=>
     change ((tm t.mask).advance (stp t.mask h n)).j<=t.mask/\((tm t.mask).advance (stp t.mask h n)).j+((tm t.mask).advance (stp t.mask h n)).more<=t.mask;by_cases a2:0<(stp t.mask h n).more;rw[zgS _ _ a2];grind;rw[zdv _ _ (by lia)];have h0:((stp t.mask h n).i * 5+1+(stp t.mask h n).perturb / 32) % (t.mask+1)<=t.mask:=dj (ge _ (fW _));obtain⟨r1,r2⟩:=zcy h0;grind
   show (this _ _).1
  obtain⟨a3,T1,ac⟩:=T.put (b:=b) hN he hp Z (by lia) al;generalize an:t.put (wk t.mask ((tk prog w).hash (ns.map Sum.inl)) N)=tp at T1;obtain⟨J,p⟩:=tp;dsimp only at T1 ⊢
  have ap:J.mask=t.mask:=by
   have:J=(t.put (wk t.mask ((tk prog w).hash (ns.map Sum.inl)) N)).1:=by rw[an]
   rw[this];rfl
  rw[T1.plain];simp only[if_true];show aa (zbC (s:={ s with toks:=s.toks+(tk prog w).draws (ns.map Sum.inl) }) hk ?_);simp only[if_true];have ad:=ac.length_eq;rw[aK] at ad;show aa (wpAny_storeSet_of (s:={ s with toks:=s.toks+(tk prog w).draws (ns.map Sum.inl) }) ho hd ?_ (by rw[T1.size,cH];lia));have g1:=zdf (es':=SetTable.insertAt es p ((tk prog w).hash (ns.map Sum.inl),.ref b)) (t':=J) ho hd;have as:=bz s.heap a (Obj.putSet (SetTable.insertAt es p ((tk prog w).hash (ns.map Sum.inl),.ref b)) J);simp only[Bool.not_false,Bool.true_and];have O:J.fill=xs.length+1:=by unfold SetTable.fill;rw[T1.sz,T1.dm,ad];rfl
  by_cases U:J.tooFull=true
  ·rw[if_pos U];unfold SetTable.tooFull at U;rw[O,ap] at U;have I:=bp U;rw[T.size]
   have next:∃F,SetTable.sizeAbove (SetTable.grown (xs.length+1))=F+1/\zau F/\(xs.length+1) * 5<F * 3:=by
    rcases T.msk with e | e | e | e;rw[e] at I B;have:xs.length=4:=by lia
    rw[this];show#[31,by ext,.inr (.inl rfl),by lia];rw[e] at I B;have:xs.length=18:=by lia
    rw[this];show#[127,by ext,.inr (.inr (.inl rfl)),by lia];rw[e] at I B;have:xs.length=76:=by lia
    rw[this];show#[511,by ext,.inr (.inr (.inr rfl)),by lia];rw[e] at I B;lia
   obtain⟨F,m1,m2,m3⟩:=next;show aa (zmU (s:={ s with heap:=s.heap.update a (Obj.putSet (SetTable.insertAt es p ((tk prog w).hash (ns.map Sum.inl),.ref b)) J),toks:=s.toks+(tk prog w).draws (ns.map Sum.inl) }) T1 g1 hx BA m1 m2 (by rw[ad];show m3) λh' a4 a5 S2 a7=>?_);show af (h true h' _ a4 (as.trans a5) S2 (λz=>absurd z Z) λ_=>a7.trans ac)
  rw[if_neg U];unfold SetTable.tooFull at U;rw[O,ap] at U;have I:¬ ((xs.length+1) * 5 ≥ t.mask * 3):=λz=>U (a8 z);show af (h true _ _ a3 as #[_,_,_,J,g1,hx,BA,T1,?_] (λz=>absurd z Z) λ_=>ac);right
end
open PySem.W
def zP:Slot "set_iterator" "__next__" "set_iterator.__next__" :=
 .of (owner := "set_iterator") (n := "__next__") (by rw[typeLookup_type,builtinLookup_eq_fast];kernel_rfl) (by decide +kernel) (by decide +kernel) (by decide +kernel)
  (by first | show .inl (by decide +kernel) | show .inr (by decide +kernel)) (by rw[isSubtype_type];kernel_rfl)
def uf:Slot "set_iterator" "__iter__" "set_iterator.__iter__" :=
 .of (owner := "set_iterator") (n := "__iter__") (by rw[typeLookup_type,builtinLookup_eq_fast];kernel_rfl) (by decide +kernel) (by decide +kernel) (by decide +kernel)
  (by first | show .inl (by decide +kernel) | show .inr (by decide +kernel)) (by rw[isSubtype_type];kernel_rfl)
def xC:entryFor table "set_iterator.__next__" = some Builtin.«set_iterator.__next__»:=entryFor_of_tree (by kernel_rfl)
def zaF:entryFor table "set_iterator.__iter__" = some Builtin.«dict_keyiterator.__iter__»:=entryFor_alias (id' := "dict_keyiterator.__iter__") (by kernel_rfl) BA (by decide +kernel) (by kernel_rfl)
def zcR:entryFor table "set.__iter__" = some Builtin.«frozenset.__iter__»:=entryFor_alias (id' := "frozenset.__iter__") (by kernel_rfl) BA (by decide +kernel) (by kernel_rfl)
def xS (a:Value):argsOk "set_iterator.__next__" #[[a],[]]:=by unfold argsOk;kernel_rfl
def za8 (a:Value):argsOk "set_iterator.__iter__" #[[a],[]]:=by unfold argsOk;kernel_rfl
theorem zju {α:Type}(next:Nat->Nat):∀ (n k:Nat) (left:List α) (out:Array α),left.length=n->(pickOrder.go next n k left out).toList.Perm (out.toList++left)
 | 0,k,left,out,h=>by
  have:left=[]:=bf h;subst this;change out.toList.Perm (out.toList++[]);right
 | n+1,k,left,out,h=>by
  have q:next k % left.length<left.length:=ge _ (by lia)
  change (match left[next k % left.length]? with
   | some x=>pickOrder.go next n (k+1) (left.eraseIdx (next k % left.length)) (out.push x)
   | none=>out).toList.Perm _
  rw[ak q];show (zju next n (k+1) _ _ (by grind)).trans ?_;rw[bY,aE];show eW _ ?_;have e:left=left.take (next k % left.length)++left[next k % left.length]::left.drop (next k % left.length+1):=by right
  rw[List.eraseIdx_eq_take_drop_succ];show List.Perm.trans ?_ (List.Perm.of_eq e.symm);rw[List.singleton_append];show List.perm_middle.symm
def zfw {α:Type}(next:Nat->Nat)(xs:Array α):(pickOrder next xs).toList.Perm xs.toList:=by
 change (pickOrder.go next xs.size 0 xs.toList #v[]).toList.Perm _;have:=zju next xs.size 0 xs.toList #v[] (aO);grind
section
variable {prog:Aa}{w:Ab}{t:SetTable}{es:Array (Int×Value)}{xs:List (List Key×Addr)}{A:Ae}{E:AA}{s:AZ}
def zmt (w:Ab)(a:Addr)(q:Nat)(es:Array (Int×Value)):Array (Int×Value):=if w.params.followText "set-order" then pickOrder (w.params.setOrder a q) es else es
def zfu (a:Addr)(q:Nat):(zmt w a q es).toList.Perm es.toList:=by
 unfold zmt;split;show zfw _ _;right
def yq (h:Heap)(B a:Addr)(q i n F:Nat):Prop:=∃o,h.get? B=some o/\o.cls = .type "set_iterator" /\ o.data = .fields #v[.int q 0,.int i 0,.ref a,.int n 0,.int F 0]
def yq.typeIs(x:yq s.heap B a q i n F):s.TypeIs (.ref B) "set_iterator" := let ⟨o,ho,hc,_⟩:=x;#[o,ho,hc]
structure SetIs (prog:Aa)(w:Ab)(h:Heap)(a:Addr)(es:Array (Int×Value))(ep:Nat)(t:SetTable)(xs:List (List Key×Addr)):Prop where
 ob:∃o,h.get? a=some o/\o.ExactSet/\o.data = .set es ep t
 tb:Tb prog w t es xs
def zke{e:Int×Value}(hit:yq s.heap it a slot i es.size ep)(S:SetIs prog w s.heap a es ep t xs)(hs:w.params.followText "set-order" = true\/SetTable.below t.place slot=i)(hx:(zmt w a ep es)[i]?=some e)(hQ:∀h' slot',yq h' it a slot' (i+1) es.size ep->(w.params.followText "set-order" = true\/SetTable.below t.place slot'=i+1)->Heap.SameBut it s.heap h'->Q (some e.2) { s with heap:=h' }):Ag prog w A (pyNext (.ref it)) Q E s:=by
 obtain⟨o,ho,hc,hd⟩:=id hit;obtain⟨⟨os,hos,_,hds⟩,T⟩:=S;have hf:=T.fits;unfold pyNext
 show aa (cL (wpAny_callSpecial?_slot (name:=Str.ofString "__next__") hit.typeIs zP
  (aZ zP hit.typeIs xC ?_ (xS _))))
 show aa (af ?_);show aa (fZ ho hd ?_);dsimp only;show aa (fN hos hds hf ?_);rw[if_neg (by simp)]
 have upd2:∀slot':Nat,∃h',yq h' it a slot' (i+1) es.size ep/\Heap.SameBut it s.heap h'/\∀ {A':Ae} {E':AA} {α:Type} {f:Sem α} {R:α->AZ->Prop},Ag prog w A' f R E' { s with heap:=h' }->Ag prog w A' (do setField (.ref it) 0 (rawInt slot');setField (.ref it) 1 (rawInt ((i:Int)+1));f) R E' s:=by
  intro slot';have h1:(s.heap.update it (Obj.mapFields (·.setIfInBounds 0 (rawInt slot')))).get? it=some (Obj.mapFields (·.setIfInBounds 0 (rawInt slot')) o):=bF _ ho (dD (cj hd _));have hd1:(Obj.mapFields (·.setIfInBounds 0 (rawInt slot')) o).data = .fields #v[.int slot' 0,.int i 0,.ref a,.int es.size 0,.int ep 0]:=by rw[cj hd];simp[rawInt]
  show#[(s.heap.update it (Obj.mapFields (·.setIfInBounds 0 (rawInt slot')))).update it (Obj.mapFields (·.setIfInBounds 1 (rawInt ((i:Int)+1)))),#[_,bF _ h1 (dD (cj hd1 _)),?_,?_],(bz ..).trans (bz ..),λ{A' E' α f R} hR=>?_];rw[eK,eK];show hc;rw[cj hd1];simp[rawInt];show aa (bT ho hd (by simp) (aa (bT (s:={ s with heap:=s.heap.update it (Obj.mapFields (·.setIfInBounds 0 (rawInt slot'))) }) h1 hd1 (by simp) hR)))
 unfold setNext
 cases hb:w.params.followText "set-order" with
 | true=>
  have hx':(pickOrder (w.params.setOrder a ep) es)[i]?=some e:=by
   unfold zmt at hx;right
  obtain⟨h',hi',sb',step⟩:=upd2 slot;show aa ?_;show aa (bK hos hds hf ?_);dsimp only;unfold setsByText;show aa (aa (bV (af ?_)));rw[show (model prog w).w=w from rfl,hb];simp only[if_true];rw[if_neg (by simp)];unfold setWalk;show aa ?_;show aa (bK hos hds hf ?_);dsimp only;unfold setsByText;show aa (aa (bV (af ?_)));rw[show (model prog w).w=w from rfl,hb];simp only[if_true];show aa (bV (af ?_));show af ?_;rw[show (model prog w).w=w from rfl];simp only[aS];rw[hx'];dsimp only[Option.map];show step (af #[_,BA,af (hQ h' slot hi' (.inl hb) sb')])
 | false=>
  have hx':es[i]?=some e:=by
   unfold zmt at hx;grind
  have hsl:SetTable.below t.place slot=i:=by grind
  have hi:i<es.size:=(cV.mp hx').1;have hpl:t.place[i]?=some (t.place.getD i 0):=zgd (by rw[T.sz,<- T.size];show hi);obtain⟨h',hi',sb',step⟩:=upd2 (t.place.getD i 0+1);show aa ?_;show aa (bK hos hds hf ?_);dsimp only;unfold setsByText;show aa (aa (bV (af ?_)));rw[show (model prog w).w=w from rfl,hb];simp only[aN,if_false];rw[if_neg (by change ¬ ((!t.plain&&decide (es.size > 1))=true);rw[T.plain];simp)];show aa ?_;change wpAny _ _ (if (!t.led&&!es.isEmpty)=true then unsupported "set:maker-not-led" else pure ()) _ _ s;rw[if_neg (by rw[T.led,hb];simp)];show af ?_;simp only[aS];rw[hsl,hx',hpl];show af ?_;dsimp only;show step (af #[_,BA,af (hQ h' _ hi' (.inr ?_) sb')]);obtain⟨b1,b2,b3⟩:=xU T.ris (t.place.getD i 0+1);have hi2:=(xM hpl).1;rcases cQ (SetTable.below t.place (t.place.getD i 0+1)) (i+1) with z | z | z;have:=b3 i (by lia) hi2;lia;show z;have h1:=b2 (i+1) z;have h2:=T.ris i (i+1) (cW i) (by lia);lia
def zmm(hh:A.handled=none)(B:yq s.heap J a q es.size es.size O)(S:SetIs prog w s.heap a es O t xs)(hs:w.params.followText "set-order" = true\/SetTable.below t.place q=es.size)(hQ:∀h',Heap.ExtBut J s.heap h'->Q none { s with heap:=h' }):Ag prog w A (pyNext (.ref J)) Q E s:=by
 obtain⟨o,U,hc,Y⟩:=id B;obtain⟨⟨os,F,_,I⟩,T⟩:=S;have Z:=T.fits;unfold pyNext
 show aa (cL (wpAny_callSpecial?_slot (name:=Str.ofString "__next__") B.typeIs zP
  (aZ zP B.typeIs xC ?_ (xS _))))
 show aa (af ?_);show aa (fZ U Y ?_);dsimp only;show aa (fN F I Z ?_);rw[if_neg (by simp)];unfold setNext;show aa ?_;show aa (bK F I Z ?_);dsimp only;unfold setsByText;show aa (aa (bV (af ?_)))
 cases hb:w.params.followText "set-order" with
 | true=>
  rw[show (model prog w).w=w from rfl,hb];simp only[if_true];rw[if_neg (by simp)];unfold setWalk;show aa ?_;show aa (bK F I Z ?_);dsimp only;unfold setsByText;show aa (aa (bV (af ?_)));rw[show (model prog w).w=w from rfl,hb];simp only[if_true];show aa (bV (af ?_));show af ?_;rw[show (model prog w).w=w from rfl];simp only[aS];have hn:(pickOrder (w.params.setOrder a O) es)[es.size]?=none:=by rw[zbx];show List.getElem?_eq_none ?_;rw[(zfw _ es).length_eq,aO];show ai _
  rw[hn];dsimp only[Option.map];show aa (bT U Y (by simp) ?_);show wpAny _ _ (newExc (.type "StopIteration") [] >>= _) _ _ _;show aa ?_;simp only[newExc,newTuple];show aa (bC ?_ (by size_fits));show aa (m:=firstArgMember _ _) (gn (a:=Value.none) (by first | rfl | (simp only[firstArgMember];rfl)) ?_);show bC ?_ (by size_fits);simp only[raiseNew];show aa (gq ?_);rw[show A.in1.handled=none from hh];show aa (af (wpAny_throw ?_));show aa (cY (T := "StopIteration") (b:=true) #[_,ar _ BA,BA] dM ?_);show af (hQ _ (((bz ..).extBut.push _).push _))
 | false=>
  have ac:SetTable.below t.place q=es.size:=by grind
  rw[show (model prog w).w=w from rfl,hb];simp only[aN,if_false];rw[if_neg (by change ¬ ((!t.plain&&decide (es.size > 1))=true);rw[T.plain];simp)];show aa ?_;change wpAny _ _ (if (!t.led&&!es.isEmpty)=true then unsupported "set:maker-not-led" else pure ()) _ _ s;rw[if_neg (by rw[T.led,hb];simp)];show af ?_;simp only[aS];rw[ac,Array.getElem?_eq_none (ai _)];show af ?_;dsimp only;show aa (bT U Y (by simp) ?_);show wpAny _ _ (newExc (.type "StopIteration") [] >>= _) _ _ _;show aa ?_;simp only[newExc,newTuple];show aa (bC ?_ (by size_fits));show aa (m:=firstArgMember _ _) (gn (a:=Value.none) (by first | rfl | (simp only[firstArgMember];rfl)) ?_);show bC ?_ (by size_fits);simp only[raiseNew];show aa (gq ?_);rw[show A.in1.handled=none from hh];show aa (af (wpAny_throw ?_));show aa (cY (T := "StopIteration") (b:=true) #[_,ar _ BA,BA] dM ?_);show af (hQ _ (((bz ..).extBut.push _).push _))
def zjH(q:yq s.heap F a B i n I)(h:Q (.ref F) s):Ag prog w A (pyIter (.ref F)) Q E s:=by show gg q.typeIs uf (aZ uf q.typeIs zaF ?_ (za8 _));change wpAny _ _ (ret (.ref F)) _ _ s;show af #[_,BA,"set_iterator",_,q.typeIs,zP.lookup,h]
def SetIs.typeIs(S:SetIs prog w s.heap a es q t xs):s.TypeIs (.ref a) "set" := let ⟨o,ho,hc,_⟩:=S.ob;#[o,ho,hc.1]
def zlV(S:SetIs prog w s.heap a es J t xs)(h:Q (.ref s.heap.objs.size) { s with heap:=s.heap.push { cls:=.type "set_iterator",data:=.fields #v[.int 0 0,.int 0 0,.ref a,.int es.size 0,.int J 0] } }):Ag prog w A (pyIter (.ref a)) Q E s:=by
 have O:=S.typeIs;obtain⟨⟨U,q,Y,B⟩,T⟩:=S;have I:=T.fits;show gg O F.slot_set_iter (aZ F.slot_set_iter O zcR ?_ (F.args_set_iter_1 _));unfold Builtin.«frozenset.__iter__»;show aa (m:=Builtin.Frozenset.slot0 "__iter__" #[[.ref a],[]]) (af ?_);show aa ?_;unfold Builtin.Frozenset.sizeOf;show aa (fN q B I (af ?_));show aa ?_;unfold setDrawn;show aa (bK q B I ?_);dsimp only;unfold setsByText;show aa (aa (bV (af ?_)));show af ?_;rw[if_neg (by change ¬ ((!_&&(!t.plain&&decide (es.size > 1)))=true);rw[T.plain];simp)];show aa (af ?_);show aa (wpAny_setEpoch_of q B I ?_);show aa (bC (af #[_,BA,"set_iterator",_,#[_,ar _ BA,BA],zP.lookup,?_]));simpa [rawInt] using h
open PySem.W PySem.Calls
def zm1(I:s.TypeIs (.ref r) "set")(h:Q false s):Ag prog w A (Builtin.List.listLengthHint (.ref r)) Q E s:=by
 unfold Builtin.List.listLengthHint;show aa (ef I PySem.F.slot_set_len.lookup ?_);generalize B:("set.__len__" : String)=id0
 wp_delta
 rw[show splitId id0=some ("set","__len__") from by subst B;decide +kernel];subst B;show aa (cY (T := "set") (b:=true) I (by rw[isSubtype_type];kernel_rfl) ?_);show wpAny_ite_split (λq=>absurd q (by ext)) (λ_=>?_);show wpAny_ite_split (λ_=>?_) (λq=>absurd (by decide +kernel) q);show aa (eV I ?_);show af h
def SetIs.keep(S:SetIs prog w h a es q t xs)(k:∀o,h.get? a=some o->h'.get? a=some o):SetIs prog w h' a es q t xs:=let ⟨⟨o,ho,r⟩,T⟩:=S;#[#[o,k o ho,r],T]
def yq.keep(S:yq h B a q i n F)(k:∀o,h.get? B=some o->h'.get? B=some o):yq h' B a q i n F:=let ⟨o,ho,r⟩:=S;#[o,k o ho,r]
def SetIs.lt(S:SetIs prog w h a es q t xs):a<h.objs.size:=let ⟨⟨o,ho,_⟩,_⟩:=S;ax ho
def zkU (hh:A.handled=none)(I a:Addr)(ac:a≠I)(J:Nat) :
  Walks prog w A I [I,a] [I] es.size (λi v=>∃e,(zmt w a J es)[i]?=some e/\v=e.2) (λi h=>(∃q,yq h I a q i es.size J/\(w.params.followText "set-order" = true\/SetTable.below t.place q=i))/\SetIs prog w h a es J t xs) where
 sub:=λb O=>by simp at O;simp[O]
 frame:=λ_ _ _ st hk=>#[let ⟨sl,x,y⟩:=st.1;#[sl,x.keep λo e=>hk I (by simp) o e,y],st.2.keep λo e=>hk a (by simp) o e]
 item:=λi s Q E hi st U=>by
  obtain⟨⟨sl,B,hs⟩,S⟩:=st
  have Y:i<(zmt w a J es).size:=by
   have:=(zfu (w:=w) (es:=es) a J).length_eq;grind
  show zke B S hs (e:=(zmt w a J es)[i]) (aT Y) λh' F Z ad sb=>?_;show U _ h' s.toks #[_,aT Y,BA] #[#[F,Z,ad],S.keep λo e=>(sb.2 a ac).trans e] λb o O e=>sb.extBut b o (λh=>O (by simp[h])) e
 done:=λs Q E st U=>by obtain⟨⟨sl,B,hs⟩,S⟩:=st;show zmm hh B S hs λh' ag=>U h' s.toks λb o O e=>ag b o (λh=>O (by simp[h])) e
 self:=λ_ _ _ _ st U=>let ⟨sl,x,_⟩:=st.1;zjH x U
def zqF (a:Addr)(q:Nat):KdlSrc prog w "set" a a es.size (λi v=>∃e,(zmt w a q es)[i]?=some e/\v=e.2) (λh=>SetIs prog w h a es q t xs) where
 type:=λs S=>S.typeIs
 there:=λ_ S=>#[S.lt,S.lt]
 keep:=λ_ _ S F=>S.keep λo e=>F a (.inl BA) o e
 notList:=by ext
 notTuple:=by ext
 hint:=λ_ _ _ _ S B=>zm1 S.typeIs B
 iter:=λA s I S=>#[_,_,(λ_ _ B=>zlV S B),zkU I _ a (aQ S.lt) q,#[#[0,#[_,ar _ BA,BA,BA],.inr ?_],S.keep λo e=>ae _ e]]
where finally
 have b:=xU S.tb.ris 0;rcases Nat.eq_zero_or_pos (SetTable.below t.place 0) with z | z;show z;show absurd (b.2.1 0 z) (cE _)
end
def zcO (h:Heap)(L BG:Addr)(v:Value)(st:AG):Prop:=∃ (a:Addr) (items:AN),v = .ref a/\IsTup h a items.toArray/\yb (st.map V.int) items/\a≠L/\a≠BG
def zcO.keep{st:AG}(r:zcO h L BG v st)(q:∀b o,b≠L->b≠BG->h.get? b=some o->h'.get? b=some o):zcO h' L BG v st:=by obtain⟨a,items,e,⟨o,B,F⟩,I,h1,h2⟩:=r;show#[a,items,e,#[o,q a o h1 h2 B,F],I,h1,h2]
theorem zc6:∀ {vs:AN} {BE:AF},Paired (zcO h L BG) vs BE->(∀st∈BE,1<=st.length)->∃fs,W.KatTups h vs fs/\fs.length=BE.length/\∀f∈fs,∃a t,f=Value.int a t
 | _,_,.nil,_=>#[[],trivial,BA,λ_ h=>by simp at h]
 | _,_,.cons (b:=st) r rr,h1=>by
  obtain⟨a,items,rfl,⟨o,I,J,n,O⟩,q,_⟩:=r;obtain⟨fs,U,f2,f3⟩:=zc6 rr λz Y=>h1 z (av _ Y);have B:=h1 st ao
  match st,q,B with
  | z::zs,q,_=>
   cases q with
   | cons Z qq=>
    obtain⟨t,rfl⟩:=Z;show#[_::fs,#[#[a,o,_,n,BA,I,J,O,BA],U],by right,λf F=>?_];rcases aA.mp F with rfl | F
    all_goals right
theorem ud {α q:Type}{R:α->q->Prop}:∀ {l:List α} {l':List q},Paired R l l'->∀ {i:Nat} (d:α) (d':q),i<l'.length->R (l.getD i d) (l'.getD i d')
 | _,_,.nil,i,_,_,h=>by simp at h
 | _,_,.cons r _,0,_,_,_=>r
 | _,_,.cons _ t,i+1,d,d',h=>by have:=ud t (i:=i) d d' (by simpa using h);simpa using this
theorem zde {α q:Type}{R:α->q->Prop}:∀ {l:List α} {l':List q},Paired R l l'->l.length=l'.length
 | _,_,.nil=>rfl
 | _,_,.cons _ t=>by rw[aK,aK,zde t]
section
variable {prog:Aa}{w:Ab}{A:Ae}{E:AA}{s:AZ}
def zhn{BE:AF}(ap:s.heap.Ns L m0)(as:BG≠L)(ho:s.heap.get? BG=some (seqObj "list" vs.toArray n))(hv:Paired (zcO s.heap L BG) vs BE)(hz:BE.length<=sizeLine)(a5:1<=m)(hm:∀st∈BE,st.length=m)(a0:BE.Nodup)(h:∀h' c p,List.Perm p (List.range BE.length)->((p.map λi=>BE.getD i []).Pairwise λa b=>HT.lexLt a b=true)->(∀b o,b≠L->b≠BG->s.heap.get? b=some o->h'.get? b=some o)->h'.Ns L m0->
   h'.get? BG=some (seqObj "list" (p.map λi=>vs.getD i .none).toArray c)->Q .none { s with heap:=h' }) :
  Ag prog w A (call (.builtin "list.sort") [.ref BG]) Q E s:=by
 have a7:=zde hv;by_cases h2:2<=BE.length
 ·have B:∀p∈(zbq s.heap L).filter (λq=>decide (q.1≠BG)),s.heap.get? p.1=some p.2/\p.1≠L/\p.1≠BG:=λp hp=>by
   have h1:=cR.mp hp;have h2:=z5.mp (show (p.1,p.2)∈zbq s.heap L from h1.1);right
  have J:∀b,(#[#v[],{}]:Heap).get? b=none:=λb=>by
   cases e:(#[#v[],{}]:Heap).get? b with
   | none=>rfl
   | some o'=>
    have:=ax e;simp at this
  show aZ slot_list_sort #[_,ho,BA] entry_list_sort ?_ (args_list_sort _);show zez (h₀:=(#[#v[],{}]:Heap)) (L:=L) (m:=m0) (news:=(zbq s.heap L).filter (λq=>decide (q.1≠BG))) #[ap,λb o e=>?_,aL _] (λp hp=>?_) ho as (J _) (λp hp=>(B p hp).2.2) (by lia) (by lia) λe1 h' F N=>?_;right;show#[(B p hp).1,(B p hp).2.1,J _]
  ·have kp:∀b o,b≠L->b≠BG->s.heap.get? b=some o->h'.get? b=some o:=λb o hb hD e=>(N (b,o) (av _ (cR.mpr #[z5.mpr #[hb,e],a8 hD]))).1;have O:Paired (zcO h' L BG) vs BE:=Paired.mapP hv λv st r=>r.keep kp;obtain⟨fs,k1,k2,k3⟩:=zc6 O λst ba=>by rw[hm st ba];show a5
   show W.kat_kind (T:=.type "int") (s:={ s with heap:=h' }) k1 (by lia) (λf hf=>?_) (by ext) ?_;obtain⟨a,t,rfl⟩:=k3 f hf;intro A' Q' E' s' _ hq;show eV (typeIs_int s' a t) hq
   ·have hu:zno BE.length (zfj BE):=λi j hi I e=>by
     have e1:=zaM hm hi I;have e2:=zaM hm I hi;rw[e,bE (Int.lt_irrefl _)] at e1;rw[e,bE (Int.lt_irrefl _)] at e2;have gi:BE.getD i []=BE[i]:=by simp[hi]
     have gj:BE.getD j []=BE[j]:=by simp[I]
     rcases zaN (a:=BE.getD i []) (b:=BE.getD j []) (by right) with h | h | h;rw[gi,gj] at h;show (ff a0).mp h
     all_goals grind
    have U:vs.length=BE.length:=by lia
    show#[zfj BE,by rw[U];show hu,λi j hi I e=>?_,λi j hi I C E hC=>?_,λp Y=>?_];rw[U] at hi I;obtain⟨a1,ad,b1,c1,d1,_⟩:=ud O .none [] hi;obtain⟨a2,ag,b2,c2,d2,_⟩:=ud O .none [] I;rw[b1,b2] at e;cases e;obtain⟨o1,al,_,n1,an⟩:=c1;obtain⟨o2,Z,_,n2,ac⟩:=c2;rw[al] at Z;cases Z;rw[an] at ac;have ei:ad=ag:=by injection ac with q1;show List.toArray_inj q1
    subst ei;have es:=zdt d1 d2;have gi:BE.getD i []=BE[i]:=by simp[hi]
    have gj:BE.getD j []=BE[j]:=by simp[I]
    rw[gi,gj] at es;show (ff a0).mp es;rw[U] at hi I;obtain⟨a1,ad,b1,c1,d1,_⟩:=ud O .none [] hi;obtain⟨a2,ag,b2,c2,d2,_⟩:=ud O .none [] I;obtain⟨o1,al,_,n1,an⟩:=c1;obtain⟨o2,Z,_,n2,ac⟩:=c2;rw[b1,b2];have gi:(BE.getD i []).length=m:=by right
    have gj:(BE.getD j []).length=m:=by right
    have l1:=d1.length;have l2:=d2.length;rw[ab] at l1 l2;show W.kat_lt (s:={ s with heap:=h' }) al an Z ac ?_;rw[show decide (ad.toArray.size<ag.toArray.size)=false from bE (by simp;lia)];show zhi 0 d1 d2 (by rw[gi,gj]) ?_;rw[zaM hm hi I] at hC;show hC;rw[U] at Y;have a3:p.toList.Perm (List.range BE.length):=by have:=Y.perm.toList;simpa using this
    have a4:∀i∈p.toList,i<BE.length:=λi hi=>aM.mp ((a3.mem_iff).mp hi);show W.KasFin.intro F N (W.UpdF.head λq' bb=>(B q' bb).2.2) λbc c F'' N''=>?_;show#[_,BA,h bc c p.toList a3 ?_ (λb o hb hD e=>(N'' (b,o) (av _ (cR.mpr #[z5.mpr #[hb,e],a8 hD]))).1) F''.ns (N'' (BG,_) ao).1];have be:p.size=BE.length:=zks Y.perm;rw[bN];intro i j hi I bd;rw[ab,aO] at hi I;have hk:=Y.lt_of bd (by lia);rw[dB,dB,Array.getElem_toList,Array.getElem_toList];have e1:p.getD i 0=p[i]:=by simp[hi]
    have e2:p.getD j 0=p[j]:=by simp[I]
    unfold key at hk;rw[e1,e2] at hk;rw[<- zaM hm (a4 _ (by simp)) (a4 _ (by simp))];right
 show aZ slot_list_sort #[_,ho,BA] entry_list_sort ?_ (args_list_sort _);show zcL ho (by lia) λh' c kp hD=>#[_,BA,?_];show h h' c (List.range BE.length) (fY _) ?_ (λb o _ hb e=>kp b o hb e) ?_ ?_;grind;obtain⟨o,es,ep,g,k⟩:=ap;show#[o,es,ep,kp _ _ (Ne.symm as) g,k];rw[<- a7,zbh];show hD
end
def uY {α O:Type}{f:α->O}{l m:List O}(h:l.Perm m):∀ {xs:List α},m=xs.map f->∃q:List α,q.Perm xs/\l=q.map f:=by
 induction h with
 | nil=>
  right
 | cons x _ U=>
  intro xs e
  cases xs with
  | nil=>cases e
  | cons y ys=>
   rw[aB] at e;injection e with Y F;obtain⟨q,h1,h2⟩:=U F;show#[y::q,h1.cons y,by right]
 | swap x y l=>
  intro xs e
  match xs,e with
  | [],e=>cases e
  | [_],e=>cases e
  | a::b::r,e=>
   rw[aB,aB] at e;injection e with Y F;injection F with F e3;show#[b::a::r,.swap _ _ _,by grind]
 | trans _ _ I J=>
  intro xs e;obtain⟨q,h1,h2⟩:=J e;obtain⟨B,Z,h4⟩:=I h2;show#[B,Z.trans h1,h4]
def zhL (P:Aa)(w:Ab)(a:Addr)(xs:List (List Key×Addr)):HO:=.ext λh=>xl P w h a xs
def yF (xs:AE):List (List Key×Addr):=xs.map λq=>(q.1.map Sum.inl,q.2)
def zgL(S:xl P w h a xs):yd P w H h a (zhL P w a xs):=by
 show#[S,?_,λh1 h2 q k=>?_];obtain⟨o,_,_,_,B,_⟩:=S;show#[o,B];obtain⟨o,es,F,t,B,r⟩:=q;show#[o,es,F,t,k o B,r]
def zqt(h:(#[Array.replicate (n+1) o,{}]:Heap).get? d=some u):u=o:=by
 unfold Heap.get? at h;simp only[Array.getElem?_replicate] at h;split at h;cases h;split at h;show (ce h).symm;cases h
def zqE(hs:∃h:Heap,h.get? d=some ob):(λh=>xl P w h a xs)≠λh=>h.get? d=some ob:=λe=>by
 obtain⟨B,F⟩:=hs;have h1:xl P w B a xs:=by rw[show xl P w B a xs=_ from congrFun e B];show F
 obtain⟨o,es,O,t,U,I,Y,T,J⟩:=h1;have k:∀q:Nat,({ o with data:=.set es q t }:Obj)=ob:=λq=>by have h2:xl P w (#[Array.replicate (a+1) { o with data:=.set es q t },{}]:Heap) a xs:=#[{ o with data:=.set es q t },es,q,t,by simp[Heap.get?],I,BA,T,J];rw[show xl P w _ a xs=_ from congrFun e _] at h2;show (zqt h2).symm
 have:=congrArg Obj.data ((k 0).trans (k 1).symm);cases this
def zhr:∀BC,pnK (zhL P w a xs)=some BC->xK BC (Sum.inr "at" : Key)=none:=λBC e=>by
 unfold zhL pnK at e;dsimp only at e;rw[if_neg] at e;cases e;rintro⟨d,ob,hs,z⟩;show zqE hs z
def zcP (P:Aa)(w:Ab)(H:Hp)(a:Addr)(ks:AF):Prop:=∃xs:AE,H a=some (zhL P w a (yF xs))/\(∀q∈xs,H q.2=some (.tup (q.1.map V.int)))/\ks=xs.map (·.1)/\ks.Nodup
def zcP.stay{ks:AF}(S:zcP P w H a ks)(h:zA H H'):zcP P w H' a ks:=by obtain⟨xs,h1,h2,B,F⟩:=S;show#[xs,h _ _ h1 zhr,λq I=>h.tup (h2 q I),B,F]
theorem zbc:∀ns:AG,(ns.map Sum.inl).map kV=ns.map V.int
 | []=>rfl
 | n::ns=>by rw[aB,aB,aB,zbc ns];rfl
section
variable {X:Cx}
def zb8{BB:AB}{G:St}{H:Hp}{s:AZ}(I:Inv X BB G H s){ns:AG}(h:H b=some (.tup (ns.map V.int))):(tk X.prog X.w).is s.heap (ns.map Sum.inl) b:=by
 obtain⟨q,F,⟨o,J,O,n,U⟩,_⟩:=I.tuple (.of h);show#[o,q.toArray,n,J,O,U,?_]
 have B:∀ {ns:AG} {q:AN},yb (ns.map V.int) q->ItemsAre (zT X.prog X.w) (ns.map Sum.inl) q:=by
  intro ns
  induction ns with
  | nil=>intro q r;cases r;show .nil
  | cons n ns Y=>
   intro q r
   cases r with
   | cons Z r2=>
    obtain⟨t,rfl⟩:=Z;show .cons (zff n t) (Y r2)
 show B F
def zn2 (P:Aa)(w:Ab):AT->Hp->VK->Prop:=λxs H Q=>∃ (a:Addr) (ks:AF) (m:Nat),xs=[.ref a]/\zcP P w H a ks/\ks.length<64/\1<=m/\(∀st∈ks,st.length=m)/\
 ∀ (ys:AT) (q:AF),IsL H (q.map stD) ys->q.Perm ks->(q.Pairwise λa b=>HT.lexLt a b=true)->New H (.lst ys) Q
theorem zdK:∀ {xs:AE},(∀q∈xs,H q.2=some (.tup (q.1.map V.int)))->IsL H ((xs.map (·.1)).map stD) (xs.map λq=>V.ref q.2)
 | [],_=>rfl
 | q::xs,h=>#[_,_,BA,#[q.2,_,BA,h q ao,IsL.ints],zdK λr B=>h r (av _ B)]
theorem zcN:∀ (xs:AE),yb (xs.map λq=>V.ref q.2) (xs.map λq=>Value.ref q.2)
 | []=>.nil
 | q::xs=>.cons BA (zcN xs)
def zg2 (hc:X.calm=true):CallQ X (.builtin "sorted") (zn2 X.prog X.w):=#[by
 intro BB s G H xs us Q I r h;obtain⟨a,ks,m,rfl,⟨xs,hH,a4,rfl,a5⟩,a7,ba,hm,q⟩:=h;obtain⟨u,rfl,ru⟩:=zbI r;cases ru;obtain⟨⟨o,es,ep,t,ho,hx,hd,T,_⟩,_⟩:=(show yd X.prog X.w H s.heap a (zhL X.prog X.w a (yF xs)) from I.hok a _ hH);have S:SetIs X.prog X.w s.heap a es ep t (yF xs):=#[#[o,ho,hx,hd],T];obtain⟨m0,al,_⟩:=id I.loc;have hsz:es.size=xs.length:=by rw[T.size];unfold yF;rw[ab]
 rw[ab] at a7
 have bb:∀b,(#[#v[],{}]:Heap).get? b=none:=λb=>by
  cases e:(#[#v[],{}]:Heap).get? b with
  | none=>rfl
  | some o'=>
   have:=ax e;simp at this
 have an:=zfu (w:=X.w) (es:=es) a ep;have bc:es.toList=xs.map λq=>((tk X.prog X.w).hash (q.1.map Sum.inl),Value.ref q.2):=by rw[T.eq];unfold yF;rw[aI];rfl
 rw[bc] at an;obtain⟨B,J,bd⟩:=uY an BA;show kdu_sorted (h₀:=(#[#v[],{}]:Heap)) (L:=X.env.locals) (m:=m0) (news:=zbq s.heap X.env.locals) (zqF (t:=t) (xs:=yF xs) a ep) (I.ok.hd hc) #[al,λb o e=>(by right),aL _] (λp hp=>?_) S (by rw[hsz,cH];lia) λBG h' ap vs F N be hl hP=>?_;obtain⟨b,o⟩:=p;have:=z5.mp hp;right
 have bk:vs=B.map λq=>Value.ref q.2:=by
  have b4:=J.length_eq;show dS (by right) λj h1 h2=>?_;obtain⟨e,he,hv⟩:=hP j vs[j] (ak h1);rw[zbx,bd,aD] at he;rw[ab] at h2;rw[ak h2] at he;rw[hv,dB,<- ce he]
 have kp:∀b o,b≠X.env.locals->s.heap.get? b=some o->h'.get? b=some o:=λb o hb e=>(N (b,o) (av _ (z5.mpr #[hb,e]))).1;have as:BG≠X.env.locals:=(N (BG,_) ao).2.1
 have bl:s.heap.get? BG=none:=by
  cases e:s.heap.get? BG with
  | none=>rfl
  | some o=>show absurd (be (BG,o) (z5.mpr #[as,e])) (cZ _)
 have Y:H BG=none:=by
  cases e:H BG with
  | none=>rfl
  | some o=>
   obtain⟨o',a0⟩:=zci (I.hok BG o e);grind
 have U:∀q∈B,H q.2=some (.tup (q.1.map V.int)):=λq Z=>a4 q ((J.mem_iff).mp Z)
 have rows:Paired (zcO h' X.env.locals BG) vs (B.map (·.1)):=by
  rw[bk]
  have bo:∀ (l:AE),(∀q∈l,H q.2=some (.tup (q.1.map V.int)))->Paired (zcO h' X.env.locals BG) (l.map λq=>Value.ref q.2) (l.map (·.1)):=by
   intro l
   induction l with
   | nil=>intro _;show .nil
   | cons q l ih=>
    intro hl;have Z:=hl q ao;obtain⟨items,rv,⟨o',a0,bs⟩,_⟩:=I.tuple (.of Z);have a1:=zc Z I.free;show .cons #[q.2,items,BA,#[o',kp _ _ a1 a0,bs],rv,a1,zc Z Y] (ih λr hr=>hl r (av _ hr))
  show bo B U
 have ac:=J.map (·.1);show zhn (s:={ s with heap:=h',toks:=ap }) F.ns as (N (BG,_) ao).1 rows (by rw[ab,J.length_eq,cH];lia) ba (λst bx=>hm st ((ac.mem_iff).mp bx)) (ac.nodup_iff.mpr a5) λca c p hp a2 b0 b1 a3=>?_;have b2:∀i∈p,i<B.length:=λi hi=>by have:=aM.mp ((hp.mem_iff).mp hi);rwa[ab] at this
 have O:(p.map λi=>(B.map (·.1)).getD i [])=(p.map λi=>B.getD i ([],0)).map (·.1):=by right
 have ad:(p.map λi=>vs.getD i .none)=(p.map λi=>B.getD i ([],0)).map λq=>Value.ref q.2:=by right
 have b3:∀q∈(p.map λi=>B.getD i ([],0)),H q.2=some (.tup (q.1.map V.int)):=λq Z=>by
  obtain⟨i,hi,rfl⟩:=au.mp Z;have h1:=b2 i hi;have:B.getD i ([],0)=B[i]:=by simp[h1]
  rw[this];show U _ (bD h1)
 rw[ad] at a3;rw[O] at a2;have ag:p.length=xs.length:=by rw[hp.length_eq,aG,ab,J.length_eq]
 have I':=zgj I al (ys:=(p.map λi=>B.getD i ([],0)).map λq=>V.ref q.2) (λb o hb e=>b0 b o hb (by grind) (kp b o hb e)) b1 bl Y a3 (zcN _) (by rw[ab,ab,ag,cH];lia) ap;show#[.ref BG,_,I',BA,(q _ ((p.map λi=>B.getD i ([],0)).map (·.1)) (zdK b3) ?_ a2).at Y];show List.Perm.trans ?_ ac;rw[<- O];have:=hp.map λi=>(B.map (·.1)).getD i [];rwa[zbh] at this]
end
def zeQ (elt target iter:Expr)(ifs:AO)(scope:Scope)(pos:Pos)(it acc:Value)(env:Env) :
  compTurn (.SetComp elt [#[target,iter,ifs,0]] scope pos) 0 it acc env=(do
   standAt iter.pos
   match <- pyNext it with
   | none=>pure (.done .next)
   | some v=>
    letOwnedTupleGo target it v
    assign target env v
    let mut ok:=true
    for c in ifs do
     if ok then ok <- isTrue c env (eval c env)
    if ok then
     (do let v <- eval elt env;standAt elt.pos;let _ <- call (.builtin "set.add") [acc,v])
    again (.compLoop (.SetComp elt [#[target,iter,ifs,0]] scope pos) 0 it acc env)):=by rfl
section
variable {prog:Aa}{w:Ab}{A:Ae}{E:AA}{R:Result->AZ->Prop}{s:AZ}
def uN {elt target iter ifs zz scope pos it acc env}
  (h0:codeAny (model prog w) A (.compLoop (.SetComp elt (#[target,iter,ifs,0]::zz) scope pos) 0 it acc env) R s)
  (h:Ag prog w A (pyIter it) (λit' s'=>codeAny (model prog w) A (.compLoop (.SetComp elt (#[target,iter,ifs,0]::zz) scope pos) 0 it' acc env) R s')
   (notedBy (model prog w) A env λx s'=>R (.error x) s') s) :
  codeAny (model prog w) A (.compStart (.SetComp elt (#[target,iter,ifs,0]::zz) scope pos) 0 it acc env) R s:=by
 show codeAny_of_tree ?_;change wpAny _ _ ((compStart (.SetComp elt (#[target,iter,ifs,0]::zz) scope pos) 0 it acc env).onRaise (λx=>do noteFrame x env;standAt theWindowsPlace)) _ _ s;show wpAny_notedAt ?_;unfold compStart;change wpAny _ _ (ask >>= _) _ _ s;show aa (bV (wpAny_ite ?_));split
 first
  | show aa (by grind)
  | show af (And.intro BA h0)
 first
  | show aa (by grind)
  | (show aa (dg ?_);change wpAny _ _ (standAt iter.pos >>= _) _ _ s;show aa (c8 (aa (bM h (λit' s' h'=>af (And.intro BA h')) λ_ _ x=>x))))
def zbz(I:Nat->AZ->Prop)(turn:∀n s,I n s->Ag prog w A (pyNext it) (λr s₁=>match r with
   | none=>R (.ok .next) s₁
   | some v=>Ag prog w A (letOwnedTupleGo target it v) (λ_ s₂=>Ag prog w A (assign target env v) (λ_ s₃=>
     Ag prog w A (forIn ifs true λc r=>if r=true then do let ok <- isTrue c env (eval c env);pure (ForInStep.yield ok) else pure (ForInStep.yield r)) (λok s₄=>
      if ok=true then Ag prog w A (eval elt env) (λx s₅=>
       Ag prog w A (call (.builtin "set.add") [acc,x]) (λ_ s₆=>∃m,m<n/\I m s₆) (λ_ _=>False) s₅) (λ_ _=>False) s₄
      else ∃m,m<n/\I m s₄) (λ_ _=>False) s₃) (λ_ _=>False) s₂) (λ_ _=>False) s₁) (λ_ _=>False) s)(n:Nat)(h:I n s) :
  codeAny (model prog w) A (.compLoop (.SetComp elt [#[target,iter,ifs,0]] scope pos) 0 it acc env) R s:=by
 show codeAny_loop BA I (λn s hI=>?_) n h;change wpAny _ A ((compTurn (.SetComp elt [#[target,iter,ifs,0]] scope pos) 0 it acc env).onRaise (λx=>do noteFrame x env;theTreesLotGoes x)) _ _ s;show wpAny_noted ?_;rw[zeQ];show aa (c8 (aa (bM (turn n s hI) (λr s₁ h₁=>?_) λ_ _ h'=>h'.elim)))
 cases r with
 | none=>show af h₁
 | some v=>
  show aa (bM h₁ (λ_ s₂ h₂=>?_) λ_ _ h'=>h'.elim);show aa (bM h₂ (λ_ s₃ h₃=>aa (bM h₃ (λok s₄ h₄=>?_) λ_ _ h'=>h'.elim)) λ_ _ h'=>h'.elim)
  cases ok with
  | false=>show af #[BA,h₄]
  | true=>
   show aa (aa (bM h₄ (λx s₅ h₅=>aa (c8 (aa (bM h₅ (λ_ s₆ h₆=>af (af #[BA,h₆])) λ_ _ h'=>h'.elim)))) λ_ _ h'=>h'.elim))
def zkb(h:Q (.ref s.heap.objs.size) { s with heap:=s.heap.push { cls:=.type "set",dict:=none,data:=.set #v[] 0 (.fresh 0 0 (!w.params.followText "set-order")) } }):Ag prog w A (newSet (.type "set")) Q E s:=by unfold newSet setsByText;show aa (aa (bV (af ?_)));dsimp only;simp only[newObj];show aa (wpAny_alloc (af h))
def zfH (h:Heap):xl prog w (h.push { cls:=.type "set",dict:=none,data:=.set #v[] 0 (.fresh 0 0 (!w.params.followText "set-order")) }) h.objs.size []:=by
 show#[_,#v[],0,_,ar _ BA,#[BA,BA,BA],BA,#[BA,fX,BA,λi j _ B=>?_,λi j e=>?_,BA,.inl BA,aL _,BA,BA,λi q e=>?_],by change 0 * 5<7 * 3;decide];show absurd B (cE _);simp[SetTable.fresh] at e;simp at e
end
theorem xw:∀ {ns q:AG},ns.map (Sum.inl:Int->Key)=q.map Sum.inl->ns=q
 | [],[],_=>rfl
 | [],_::_,e=>by cases e
 | _::_,[],e=>by cases e
 | n::ns,m::q,e=>by rw[aB,aB] at e;injection e with B F;rw[Sum.inl.inj B,xw F]
section
variable {X:Cx}
def zit {BB:AB}{G:St}{H:Hp}{s:AZ}{acc b:Addr}{ns:AG}{ks:AF}{Q:AA}(hu:X.A.units+1<cLine)(I:Inv X BB G H s)(S:zcP X.prog X.w H acc ks)(hb:H b=some (.tup (ns.map V.int)))(hn:ks.length<300)
  (h:∀o ks' s',zcP X.prog X.w (upd H acc o) acc ks'->(∀x,x∈ks'↔x=ns\/x∈ks)->ks'.length<=ks.length+1->Inv X BB G (upd H acc o) s'->Q .none s') :
  Af X (call (.builtin "set.add") [.ref acc,.ref b]) Q X.xe s:=by
 obtain⟨xs,hH,hel,rfl,hnd⟩:=S;have hS:=(show yd X.prog X.w H s.heap acc (zhL X.prog X.w acc (yF xs)) from I.hok acc _ hH).1;obtain⟨o,es,ep,t,ho,hx,hd,T,hroom⟩:=id hS;show aZ F.slot_set_add #[o,ho,hx.1] F.entry_set_add ?_ (F.args_set_add_2 _ _);unfold Builtin.«set.add»;show aa (m:=Builtin.Frozenset.oneOther "add" #[[.ref acc,.ref b],[]]) (af ?_);have hba:b≠acc:=zml hb hH (by intro z;cases z);have hea:∀q∈xs,q.2≠acc:=λq hq=>zml (hel q hq) hH (by intro z;cases z);rw[ab] at hn;show aa (znp (A:=X.A.in1) (xs:=yF xs) (ns:=ns) (a6 (ai _) hu) hS (zb8 I hb) (λq hq=>?_) (by unfold yF;rw[ab];show hn) λr h' n xs' sb S' hin hout=>?_);unfold yF at hq;obtain⟨q',hq',rfl⟩:=au.mp hq;show zb8 I (hel q' hq')
 ·
  have mem_key:∀ {l:AE},(ns.map Sum.inl)∈(yF l).map (·.1)↔ns∈l.map (·.1):=by
   intro l;unfold yF;rw[aI,au,au];constructor;rintro⟨q,hq,e⟩;show#[q,hq,?_];have e':q.1.map (Sum.inl:Int->Key)=ns.map Sum.inl:=e;show xw e';rintro⟨q,hq,rfl⟩;show#[q,hq,BA]
  have fin:∀xs2:AE,xs'=yF xs2->(∀q∈xs2,q∈xs\/q=(ns,b))->(∀x,x∈xs2.map (·.1)↔x=ns\/x∈xs.map (·.1))->(xs2.map (·.1)).Nodup->xs2.length<=xs.length+1->wpAny (model X.prog X.w) X.A.in1 (do ret .none) (λfin s'=>∃v,fin = .done (.ret v)/\Q v s') X.xe { s with heap:=h',toks:=n }:=by
   rintro xs2 rfl hsub hmem hnd2 hlen
   have hel2:∀q∈xs2,H q.2=some (.tup (q.1.map V.int)):=λq hq=>by
    rcases hsub q hq with z | z;show hel q z;rw[z];show hb
   have hea2:∀q∈xs2,q.2≠acc:=λq hq=>zml (hel2 q hq) hH (by intro z;cases z);show af #[.none,BA,h (zhL X.prog X.w acc (yF xs2)) (xs2.map (·.1)) _ #[xs2,zh,λq hq=>by rw[zf (hea2 q hq)];show hel2 q hq,BA,hnd2] hmem (by right) ?_];show I.write (e:=acc) (by rw[hH];trivial) (.inl BA) (λc u hc q=>sb.extBut c u hc q) ?_ (zgL S');obtain⟨o',_,_,_,ho',_⟩:=S';show#[o',ho']
  by_cases hm:ns∈xs.map (·.1);have:=hin (mem_key.mpr hm);show fin xs this (λq hq=>.inl hq) (λx=>#[.inr,λz=>z.elim (λe=>e ▸ hm) id]) hnd (eJ _);have hp:=hout λz=>hm (mem_key.mp z);have hk:((ns.map Sum.inl,b)::yF xs)=yF ((ns,b)::xs):=rfl;rw[hk] at hp;obtain⟨xs2,hp2,e2⟩:=uY hp BA;show fin xs2 e2 (λq hq=>?_) (λx=>?_) ?_ ?_;grind;rw[(hp2.map (·.1)).mem_iff,aB,aA];rw[(hp2.map (·.1)).nodup_iff,aB,cC];show#[hm,hnd];rw[hp2.length_eq,aK];show ai _
end
def zeW(elt gens scope pos):eval (.SetComp elt gens scope pos) env=comprehension (.SetComp elt gens scope pos) scope env (firstIterPos gens pos) (newSet (.type "set")) (firstAsync gens) (firstIter gens env):=rfl
def setT (P:Aa)(w:Ab)(g:TG)(ti:TT)(te:TE)(acc:Addr)(N:St->Hp->Prop)(x:V)(G:St)(H:Hp):Prop:=
 g x G H λq H3=>ti q H3 λF H4=>if F=true then te q H4 λv H5=>∃b ns ks,v = .ref b/\H5 b=some (.tup (ns.map V.int))/\zcP P w H5 acc ks/\ks.length<300/\
  (∀o B,zcP P w (upd H5 acc o) acc B->(∀x,x∈B↔x=ns\/x∈ks)->B.length<=ks.length+1->N q (upd H5 acc o)) else N q H4
def setG (P:Aa)(w:Ab)(J:It)(g:TG)(ti:TT)(te:TE)(acc:Addr)(Q:VK)(G:St)(H:Hp):Prop:=∃W:Nat->Nat->St->Hp->Prop,(∃m,W 0 m G H)/\
 ∀i m q H',W i m q H'->(J.stop i H'/\Q (.ref acc) H')\/(J.go i H'/\∃N:St->Hp->Prop,(∀ B H2,N B H2->∃F,F<m/\W (i+1) F B H2)/\∀x H2,J.yld i H' x H2->setT P w g ti te acc N x q H2)
def ztB (P:Aa)(w:Ab)(wi:TI)(g:TG)(ti:TT)(te:TE)(BD:List (Option Nat)):TE:=λG H Q=>wi G H λJ H1=>∀acc,H1 acc=none->zcP P w (upd H1 acc (zhL P w acc [])) acc []->setG P w J g ti te acc Q (zeO G BD) (upd H1 acc (zhL P w acc []))
section
variable {X:Cx}{Fam:Cx->Prop}{scope:Scope}{N:AM}{BD:List (Option Nat)}{z:Str}{use:Option (Value->Sem Unit)}{Qp:AA}{elt ke ve tg iter tg2 iter2:Expr}{ifs ifs2:AO}{pos ipos spos px:Pos}{wi wi2:TI}{g g2:TG}{ti ti2:TT}{te tk tv:TE}{BB:AB}{G:St}{H:Hp}{s:AZ}{Q:VK}{o0:HO}
def zm0 (hu:X.A.units+1<cLine)(O:Opn X scope BD Fam)(hc:X.calm=true)(hi:PI X tg iter wi)(hg:∀X',Fam X'->PG X' tg g)(ht:∀X',Fam X'->PTs X' ifs ti)(he:∀X',Fam X'->PE X' elt te)(hs:∀x,foldedSetIterable iter X.env x=pure x)(I:Inv X BB G H s)
  (h:ztB X.prog X.w wi g ti te BD G H Q) (U:EndK X BB G use Qp Q) :
  Af X (comprehension (.SetComp elt [#[tg,iter,ifs,0]] scope pos) scope X.env ipos (newSet (.type "set")) false (eval iter X.env) use) Qp X.xe s:=
 zeR (ob:={ cls:=.type "set",dict:=none,data:=.set #v[] 0 (.fresh 0 0 (!X.w.params.followText "set-order")) }) (o0:=λa=>zhL X.prog X.w a []) (Fin:=λacc H=>Q (.ref acc) H) (B:=λX' acc P s=>wpAny (model X'.prog X'.w) X'.A (eval elt X'.env) (λx s5=>wpAny (model X'.prog X'.w) X'.A (call (.builtin "set.add") [.ref acc,x]) (λ_ s6=>P s6) (λ_ _=>False) s5) (λ_ _=>False) s) (tb:=λacc Nx G H=>te G H λv H5=>∃ (b:Addr) (ns:AG) (ks:AF),v = .ref b/\H5 b=some (.tup (ns.map V.int))/\zcP X.prog X.w H5 acc ks/\ks.length<300/\(∀o F,zcP X.prog X.w (upd H5 acc o) acc F->(∀x,x∈F↔x=ns\/x∈ks)->F.length<=ks.length+1->Nx G (upd H5 acc o))) O hc BA hs (λ_ _ _ _ _ h0 h1=>uN h0 h1) (λ_ _ _ _ _ _ I Y n h=>zbz I Y n h) (λs Q h=>zkb h) (λ_ _=>zgL (zfH _)) hi hg ht (λX' hF pX wX AX _ xX acc pl s G H Nx P I q k=>by have e9:=he X' hF pl s G H _ I q;rw[xX] at e9;show thn e9 ?_;rintro u2 ad ⟨v,H10,I10,ac,b,ns,ks,rfl,hb,S,hn,nx⟩;cases ac;have Z:=zit (X:=X') (Q:=λ_ s'=>P s') (by rw[AX];show hu) I10 (by right) hb hn λo F s' S' hm hl I'=>k _ _ _ I' (nx o F (by right) hm hl);rw[xX] at Z;show Z) I h (λJ H1 acc q hn=>q acc hn #[[],zh,λq hq=>by simp at hq,BA,fX]) U
end
def zin(B:X.A.units+1<cLine)(F:X.calm=true)(c:CompOk X scope N BD)(hi:QI X tg iter wi)(J:∀C s H ex,QG (zW X scope N C s H ex) tg g)(O:∀C s H ex,QTs (zW X scope N C s H ex) ifs ti)(U:∀C s H ex,QE (zW X scope N C s H ex) elt te)(hs:∀x,foldedSetIterable iter X.env x=pure x:=by intro _;rfl):QE X (.SetComp elt [#[tg,iter,ifs,0]] scope pos) (ztB X.prog X.w wi g ti te BD):=#[λBB s G H Q I h=>by
 rw[zeW];show zm0 B (zcq c) F hi.run (zlM λC s H ex=>(J C s H ex).run) (zlM λC s H ex=>(O C s H ex).run) (zlM λC s H ex=>(U C s H ex).run) hs I h λ_ _ _ _ _ Y Z q=>zg8 Y Z q]
section
variable {P:Aa}{w:Ab}{K:AH}{a acc:Addr}{xs:AT}{g:TG}{ti:TT}{te:TE}{G:St}{H:Hp}{Q:VK}
def zm4(B:H acc=none)(S0:zcP P w (upd H acc o) acc [])(Pv:Nat->St->Hp->Prop)(I:∀H',zcP P w H' acc []->yZ H H'->Pv 0 G H')(J:∀i G H,i<=xs.length->Pv i G H->SqT K H a xs)(hs:∀i x G H,xs[i]?=some x->Pv i G H->setT P w g ti te acc (Pv (i+1)) x G H)(O:∀ G H,Pv xs.length G H->Q (.ref acc) H):setG P w (Itt K a) g ti te acc Q G (upd H acc o):=by
 show#[λi m G H=>m=xs.length - i/\i<=xs.length/\Pv i G H,#[xs.length,by simp,aL _,I _ S0 (yZ.upd B)],?_];rintro i m G H ⟨rfl,hi,p⟩;have q:=J i G H hi p;by_cases F:i<xs.length;show .inr #[#[xs,xs[i],q,by simp[F]],Pv (i+1),λU H' Y=>#[xs.length - (i+1),by lia,BA,F,Y],λx H' y=>?_];obtain⟨e,y⟩:=y;subst e;show hs i x G _ (y xs q) p;have e:i=xs.length:=by lia
 subst e;show .inl #[#[xs,q,ai _],O G H p]
end
def zq0(s:yZ A B)(h:A b=some o):B b=some o:=s _ _ h
def zle(s:zA A B)(h:A b=some (.tup xs)):B b=some (.tup xs):=s.tup h
def zlc(s:zA A B)(h:A b=some (.lst xs)):B b=some (.lst xs):=s.lst h
def uI(s:zA A B)(h:A b=some o)(n:∀BC,pnK o=some BC->xK BC (Sum.inr "at" : Key)=none):B b=some o:=s _ _ h n
def ziF(s:zA A B)(h:Is A d v):Is B d v:=h.stay s
def zdr(s:zA A B)(h:IsL A d v):IsL B d v:=h.stay s
def zbk(s:zA A B){rm:AG}(h:RoomAt A ra rm):RoomAt B ra rm:=h.stay s
def zbj(s:zA A B){rm:AG}(h:BookAt A rm q xs bk):BookAt B rm q xs bk:=h.stay s
def zdq(s:zA A B)(h:ziL A R xs):ziL B R xs:=h.stay s
def zds(s:zA A B){ks:AF}(h:zcP P w A a ks):zcP P w B a ks:=h.stay s
def zld(s:yZ A B){ns:AG}(h:Pen A p c ns n):Pen B p c ns n:=h.same s
def xj(h:yZ A B):zA A B:=zA.same h
def zpv:∀BC,pnK (HO.dT xs)=some BC->xK BC (Sum.inr "at" : Key)=none:=by grind
def zkf:∀BC,pnK (zhL P w a xs)=some BC->xK BC (Sum.inr "at" : Key)=none:=zhr
def zkg:∀BC,pnK (HO.ins C dx fs)=some BC->xK BC (Sum.inr "at" : Key)=none:=by grind
def zfE (H:Hp):yZ H H:=λ_ _ z=>z
structure FunD (K:AH)(x qual:Str)(st:Stmt)(f:Addr)(fd:Ac):Prop where
 ex:∃ (oc:Value) (od:Option Addr) (dV kV doc pm:Value) (an:Option Addr) (cdv ct:Value) (osl:Array AJ),
  fd=PySem.W.fnOf x qual (z9 st) (zB st) (zd st) dV kV doc pm an cdv ct/\K.lookup f=some #[oc,od,.func fd,osl]/\PySem.W.codeIn K cdv qual=true
 kp:PySem.W.keepIn K (.ref f)=true
def FunD.okQ{P:Aa}{w:Ab}{K:AH}{mg:AI}{base:Heap}{x I:Str}{st:Stmt}{f:Addr}{fd:Ac}{N ps:AM}{sp:Sp}(F:FunD K x I st f fd)(S:FnScope N ps (zd st))(U:∀vs H Q E,sp vs H Q E->vs.length=ps.length)(O:∀ (J:Value) (A:Ae) (B:List Env) (s:AZ) (H:Hp) (vs:AT) (Q:VK) (E:XK),Room k (A.deeper (envOfC I (zd st) s.heap.objs.size f J))->sp vs H Q E->
   ∃t,QSs (zeG CX0 P w K mg base N I (zd st) f J A B s H E).nox (zB st) t/\t { nx:=λ_ H'=>Q .non H',rt:=Q } (xB N vs) H):FnOk P w K mg base CX0 (k+1) f fd ps sp:=by
 obtain⟨oc,od,dV,kV,ac,pm,an,J,ct,ad,rfl,lk,Y⟩:=F.ex;show zrK lk Y S U λA B s H vs Q E hr Z=>?_;obtain⟨t,h,q⟩:=O J A B s H vs Q E hr Z;show#[t,h.run.nox,q]
structure DfnD (K:AH)(mg:AI)(x:Str)(st:Stmt)(ps:AM)(ds:AN)(f:Addr)(fd:Ac):Prop where
 F:FunD K x x st f fd
 b:zal K fd ps []
 bd:zal K fd ps ds
 m:mg x=some (.ref f)
section
variable {X:Cx}
def znY{x:Str}{st:Stmt}{ps:AM}{ds:AN}{f:Addr}{fd:Ac}{sp:Sp}{es:AO}{p pos:Pos}(BG:DfnD X.K X.mg x st ps ds f fd)(BF:FnOk X.prog X.w X.K X.mg X.base CX0 j f fd ps sp)(J:Room k X.A)(O:QA X (e::es) t)(q:j<=k:=by ext)(U:Gl X x:=by rfl)(B:Ah x:=by ext)(Y:starEach (e::es) X.env=(false,eval e X.env)::starEach es X.env:=by rfl)(I:(backTo pos (starEach es X.env)).any (·.1)=false:=by rfl) :
  QE X (.Call (.Name x p) (e::es) [] pos) (zey sp [] E0 t):=
 #[zko BF (J.mono q) U BG.m BG.F.kp BG.b .nil zmv O.run B Y I]
end
def zjr{K:AH}{x q:Str}{st:Stmt}{f:Addr}{Z J:Option Addr}{O kV F U B ct:Value}(l:K.lookup f=some #[Y,Z,.func (PySem.W.fnOf x q (z9 st) (zB st) (zd st) O kV F U J B ct),I])(c:PySem.W.codeIn K B q=true)(k:PySem.W.keepIn K (.ref f)=true):FunD K x q st f (PySem.W.fnOf x q (z9 st) (zB st) (zd st) O kV F U J B ct):=#[#[Y,Z,O,kV,F,U,J,B,ct,I,BA,l,c],k]
def zgX{K:AH}{fd:Ac}{f:Addr}(l:K.lookup f=some #[F,q,.func fd,B]){ps:AM}{items:AK}{O:Array AJ}(U:fd.defaults = .ref T)(Y:K.lookup T=some #[I,J,.seq items n,O])(h:∀us:AN,(us++ds).length=ps.length->∃k:Option AK->Sem (List (Str×Value)),bindArgs fd #[us,[]]=seqItems? fd.defaults >>= k/\k (some items)=pure (ps.zip (us++ds))):zal K fd ps ds:=λs us KX Z=>by
 obtain⟨k,h1,h2⟩:=h us Z;show .of_defaults U (KX _ _ Y) BA h1 h2
open PySem.W PySem.Calls
section
variable {prog:Aa}{w:Ab}{A:Ae}{E:AA}{s:AZ}{es:Array DictEntry}
def zax (h:Heap)(d:Addr)(es:Array DictEntry)(q:Nat):Prop:=∃o,h.get? d=some o/\o.ExactDict/\o.data = .dict es q
def zax.keep(x:zax h d es q)(k:∀o,h.get? d=some o->h'.get? d=some o):zax h' d es q:=let ⟨o,ho,r⟩:=x;#[o,k o ho,r]
def zax.typeIs(x:zax s.heap d es q):s.TypeIs (.ref d) "dict" := let ⟨o,ho,hc,_⟩:=x;#[o,ho,hc.1]
def zax.lt(x:zax h d es q):d<h.objs.size:=let ⟨o,ho,_⟩:=x;ax ho
def zjG(Y:(d==sysModules)=false)(J:zax s.heap d es I)(U:Q (.ref s.heap.objs.size) { s with heap:=s.heap.push { cls:=.type "dict_keyiterator",data:=.fields #v[.ref d,.int 0 0,.int es.size 0,.int I 0] } }) :
  Ag prog w A (pyIter (.ref d)) Q E s:=by
 obtain⟨o,O,Z,q⟩:=id J;have B:=J.typeIs;show gg B PySem.F.slot_dict_iter (aZ PySem.F.slot_dict_iter B PySem.F.entry_dict_iter ?_ (PySem.F.args_dict_iter_1 _));unfold Builtin.«dict.__iter__»;show aa ?_;unfold Builtin.Dict.dictSlotNone;show aa (wpAny_notOrdered_dict B ?_);change wpAny _ _ (pure (Value.ref d)) _ _ s;show af ?_;change wpAny _ _ (Builtin.Dict.showsAll d >>= _) _ _ s;unfold Builtin.Dict.showsAll;rw[if_neg (by right)];show aa (af ?_);show aa (gh O q ?_);show aa (wpAny_dictEpoch O q ?_);show aa (bC (af #[_,BA,"dict_keyiterator",_,#[_,ar _ BA,BA],PySem.F.slot_dict_keyiterator_next.lookup,?_]));simpa [rawInt] using U
def zl8(q:s.heap.IsKeyIter B d i es.size U)(hm:zax s.heap d es U)(hx:es[i]?=some e)(hQ:∀h',h'.IsKeyIter B d (i+1) es.size U->Heap.SameBut B s.heap h'->Q (.done (.ret e.key)) { s with heap:=h' }):Ag prog w A (Builtin.«dict_keyiterator.__next__» { pos:=[Value.ref B] }) Q E s:=by
 obtain⟨o,Z,hc,Y⟩:=id q;obtain⟨od,I,ac,J⟩:=id hm;show aa (af ?_);show aa ?_;show aa ?_
 first | show aa (cJ q.typeIs (af ?_)) | show aa (by grind)
 show aa (fZ Z Y ?_);have O:Builtin.Dict_items.ownsTuple "dict_keyiterator" = false:=by ext
 simp only[O,aN,if_false];show wpAny _ _ (if (Value.ref d==Value.none)=true then _ else _) _ _ s;rw[if_neg (by grind)];show aa (af ?_);show aa (gh I J ?_);rw[if_neg (by simp)];show aa (af ?_);show aa (wpAny_dictEpoch I J ?_);rw[if_neg (by simp)];show af ?_;simp only[show ¬ ((i:Int)<0) from by lia,if_false,aS,hx];show aa ?_
 first | show aa (cJ q.typeIs (af ?_)) | show aa (by grind)
 show aa (wpAny_isOneOf_keyiter q.typeIs ?_);change wpAny _ _ (setField (.ref B) 1 (rawInt ((i:Int)+1)) >>= _) _ _ s;show aa (bT Z Y (by simp) ?_)
 have F:(s.heap.update B (Obj.mapFields (·.setIfInBounds 1 (rawInt ((i:Int)+1))))).IsKeyIter B d (i+1) es.size U:=
  #[_,bF _ Z (dD (cj Y _)),(eK ..).trans hc,by rw[cj Y];simp[rawInt]]
 show aa (bn ?_);show aa (wpAny_isOneOf_keyiter (s:={ s with heap:=s.heap.update B (Obj.mapFields (·.setIfInBounds 1 (rawInt ((i:Int)+1)))) }) F.typeIs ?_);change wpAny _ _ (pure e.key) _ _ _;show af (af (hQ _ F (bz ..)))
def zie(q:s.heap.IsKeyIter B d i es.size F)(I:zax s.heap d es F)(J:es[i]?=some e)(O:∀h',h'.IsKeyIter B d (i+1) es.size F->Heap.SameBut B s.heap h'->Q (some e.key) { s with heap:=h' }):Ag prog w A (pyNext (.ref B)) Q E s:=by
 unfold pyNext
 show aa (cL (wpAny_callSpecial?_slot (name:=Str.ofString "__next__") q.typeIs cb
  (aZ cb q.typeIs dX (zl8 q I J λh' a b=>#[_,BA,af (O h' a b)]) (dO _))))
def zo9(Z:A.handled=none)(q:s.heap.IsKeyIter J d es.size es.size O)(hm:zax s.heap d es O)(hE:∀h' x,Heap.ExtBut J s.heap h'->(∃o,h'.get? x=some o/\o.cls = .type "StopIteration")->E (.ref x) { s with heap:=h' }):Ag prog w A (Builtin.«dict_keyiterator.__next__» { pos:=[Value.ref J] }) Q E s:=by
 obtain⟨o,U,hc,Y⟩:=id q;obtain⟨od,B,ac,F⟩:=id hm;show aa (af ?_);show aa ?_;show aa ?_
 first | show aa (cJ q.typeIs (af ?_)) | show aa (by grind)
 show aa (fZ U Y ?_);have I:Builtin.Dict_items.ownsTuple "dict_keyiterator" = false:=by ext
 simp only[I,aN,if_false];show wpAny _ _ (if (Value.ref d==Value.none)=true then _ else _) _ _ s;rw[if_neg (by grind)];show aa (af ?_);show aa (gh B F ?_);rw[if_neg (by simp)];show aa (af ?_);show aa (wpAny_dictEpoch B F ?_);rw[if_neg (by simp)];show af ?_;simp only[show ¬ ((es.size:Int)<0) from by lia,if_false,aS,Array.getElem?_eq_none (ai es.size)];show aa ?_
 first | show aa (cJ q.typeIs (af ?_)) | show aa (by grind)
 change wpAny _ _ (setField (.ref J) 0 .none >>= _) _ _ s;show aa (bT U Y (by simp) ?_);change wpAny _ _ (newExc (.type "StopIteration") [] >>= _) _ _ _;show aa ?_;simp only[newExc,newTuple];show aa (bC ?_ (by size_fits));show aa (m:=firstArgMember _ _) (gn (a:=Value.none) (by first | rfl | (simp only[firstArgMember];rfl)) ?_);show bC ?_ (by size_fits);simp only[raiseNew];show aa (gq ?_);rw[Z];show aa (af (wpAny_throw ?_));show hE _ _ (((bz ..).extBut.push _).push _) #[_,ar _ BA,BA]
def zkc(I:A.handled=none)(q:s.heap.IsKeyIter B d es.size es.size F)(J:zax s.heap d es F)(O:∀h',Heap.ExtBut B s.heap h'->Q none { s with heap:=h' }):Ag prog w A (pyNext (.ref B)) Q E s:=by
 unfold pyNext
 show aa (cL (wpAny_callSpecial?_slot (name:=Str.ofString "__next__") q.typeIs cb
  (aZ cb q.typeIs dX (zo9 I q J λh' x a b=>?_) (dO _))))
 show aa (cY (T := "StopIteration") (b:=true) b dM (af (O _ a)))
def zh1 (hh:A.handled=none)(I d:Addr)(J:d≠I)(U:Nat) :
  Walks prog w A I [I,d] [I] es.size (λi v=>∃e,es[i]?=some e/\v=e.key) (λi h=>h.IsKeyIter I d i es.size U/\zax h d es U) where
 sub:=λb q=>by simp at q;simp[q]
 frame:=λ_ _ _ st Y=>#[let ⟨o,ho,r⟩:=st.1;#[o,Y I (by simp) o ho,r],st.2.keep λo e=>Y d (by simp) o e]
 item:=λi s Q E hi st B=>by show zie st.1 st.2 (aT hi) λh' F Z=>?_;show B _ h' s.toks #[_,aT hi,BA] #[F,st.2.keep λo e=>(Z.2 d J).trans e] λb o q e=>Z.extBut b o (λh=>q (by simp[h])) e
 done:=λs Q E st B=>zkc hh st.1 st.2 λh' O=>B h' s.toks λb o q e=>O b o (λh=>q (by simp[h])) e
 self:=λ_ _ _ _ st B=>wpAny_pyIter_keyiter st.1 B
def zlC (d:Addr)(B:Nat)(lo:(d==sysModules)=false):KdlSrc prog w "dict" d d es.size (λi v=>∃e,es[i]?=some e/\v=e.key) (λh=>zax h d es B) where
 type:=λs S=>S.typeIs
 there:=λ_ S=>#[S.lt,S.lt]
 keep:=λ_ _ S F=>S.keep λo e=>F d (.inl BA) o e
 notList:=by ext
 notTuple:=by ext
 hint:=λ_ _ _ _ S q=>kdl_hint_dict S.typeIs q
 iter:=λA s I S=>#[_,_,(λ_ _ q=>zjG lo S q),zh1 I _ d (aQ S.lt) B,#[#[_,ar _ BA,BA,BA],S.keep λo e=>ae _ e]]
variable {X:Cx}
end
def zcU (BC:List (AG×V)):List (List Key×V):=BC.map λq=>(q.1.map Sum.inl,q.2)
def dtO (BC:List (AG×V)):HO:=.dT (zcU BC)
def zdS (BC:List (AG×V))(st:AG):xK (zcU BC) (st.map Sum.inl)=xK BC st:=by
 unfold zcU
 induction BC with
 | nil=>rfl
 | cons q r B=>
  rw[aB];by_cases e:q.1=st;rw[z8 (p:=q) e,z8 (p:=(q.1.map Sum.inl,q.2)) (by rw[e])];rw[z7 (p:=q) e,z7 (p:=(q.1.map Sum.inl,q.2)) (λz=>e (xw z)),B]
def zl7 (BC:List (AG×V))(st:AG)(v:V):uZ (zcU BC) (st.map Sum.inl) v=zcU (uZ BC st v):=by
 have B:∀q:AG×V,decide ((q.1.map (Sum.inl:Int->Key))=st.map Sum.inl)=decide (q.1=st):=λq=>by rw[cA,cy,cy];show#[xw,λz=>by rw[z]]
 have F:((zcU BC).any λkv=>decide (kv.1=st.map Sum.inl))=BC.any λkv=>decide (kv.1=st):=by unfold zcU;rw[List.any_map];congr 1;funext q;show B q
 unfold uZ;rw[F];by_cases h:(BC.any λkv=>decide (kv.1=st))=true;rw[if_pos h,if_pos h];unfold zcU;rw[aI,aI];show bP λq _=>?_;grind;rw[if_neg h,if_neg h];unfold zcU;right
def zbv.i{BC:List (AG×V)}{st:AG}(e:H a=some (dtO BC))(q:H b=some (.tup (st.map V.int))):zbv H a (.ref b) (xK BC st):=by have:=zbv.t (k:=st.map Sum.inl) e (by rw[zbc];show q);rwa[zdS] at this
def zeE.i{BC:List (AG×V)}{st:AG}(e:H a=some (dtO BC))(q:H b=some (.tup (st.map V.int)))(B:BC.length<sizeLine):zeE H a (.ref b) v (upd H a (dtO (uZ BC st v))):=by have:=zeE.t (k:=st.map Sum.inl) (v:=v) e (by rw[zbc];show q) (by unfold zcU;rw[ab];show B);rwa[zl7] at this
section
variable {X:Cx}
def zlH {BB:AB}{G:St}{H:Hp}{s:AZ}(I:Inv X BB G H s){a:Addr}{BC:List (AG×V)}(h:Rd H a (dtO BC)) :
  (a==sysModules)=false/\∃ (es:Array DictEntry) (B:Nat) (ys:AE),zax s.heap a es B/\ys.map (·.1)=BC.map (·.1)/\(∀q∈ys,H q.2=some (.tup (q.1.map V.int)))/\es.toList.map (·.key)=ys.map (λq=>Value.ref q.2)/\BC.length<=sizeLine/\(BC.map (·.1)).Nodup:=by
 obtain⟨z,lo,xs,r,o,es,B,h1,h2,h3,h4,Y⟩:=(show yd X.prog X.w H s.heap a (.dT (zcU BC)) from zqr I.hok h)
 have F:∀ {BC:List (AG×V)} {xs:List (List Key×Addr×Value)},Paired (λ(p:List Key×V) (q:List Key×Addr×Value)=>p.1=q.1/\H q.2.1=some (.tup (p.1.map kV))/\yo p.2 q.2.2) (zcU BC) xs->
   ∃ys:AE,ys.map (·.1)=BC.map (·.1)/\(∀q∈ys,H q.2=some (.tup (q.1.map V.int)))/\xs.map (λq=>Value.ref q.2.1)=ys.map (λq=>Value.ref q.2)/\xs.map (·.1)=BC.map (λq=>q.1.map Sum.inl):=by
  intro BC
  induction BC with
  | nil=>intro xs r;cases r;show#[[],BA,λ_ h=>by simp at h,BA,BA]
  | cons q BC ih=>
   intro xs r
   cases r with
   | cons r1 r2=>
    rename_i x ac;obtain⟨ys,Z,J,e3,e4⟩:=ih r2;show#[(q.1,x.2.1)::ys,by right,λy O=>?_,by right,by right];rcases aA.mp O with rfl | O
    have:=r1.2.1;rwa[show ((q.1.map Sum.inl,q.2):List Key×V).1=q.1.map Sum.inl from rfl,zbc] at this;show J y O
 obtain⟨ys,Z,J,e3,e4⟩:=F r;show#[lo,es,B,ys,#[o,h1,h2,h3],Z,J,?_,?_,?_];rw[h4,aI,<- e3];rfl;unfold zcU at z;right;rw[e4] at Y;have U:((BC.map (·.1)).map λst:AG=>st.map (Sum.inl:Int->Key)).Nodup:=by rw[aI];show Y
 show (cz.mp U).imp λh z=>h (by rw[z])
end
abbrev Up' (l:AF):Prop:=l.Pairwise λa b=>HT.lexLt a b=true
def zoS (x:AG):AF->AF
 | []=>[x]
 | y::r=>if HT.lexLt x y then x::y::r else if x=y then y::r else y::zoS x r
def zgM (l:AF):AF:=l.foldr zoS []
theorem zdH {x z:AG}:∀ {l:AF},z∈zoS x l↔z=x\/z∈l
 | []=>by change z∈[x]↔_;simp
 | y::r=>by
  unfold zoS;split;simp;split;right;rw[aA,zdH,aA];grind
theorem yn {z:AG}:∀ {l:AF},z∈zgM l↔z∈l
 | []=>Iff.rfl
 | x::l=>by change z∈zoS x (zgM l)↔_;rw[zdH,yn,aA]
theorem zjz {x:AG}{m:Nat}(F:x.length=m):∀ {l:AF},(∀y∈l,y.length=m)->Up' l->Up' (zoS x l)
 | [],_,_=>List.pairwise_singleton _ _
 | y::r,I,B=>by
  have J:=I y ao;rw[Up',bi] at B;unfold zoS;split
  ·rename_i h;show bi.mpr #[λz q=>?_,bi.mpr B];rcases aA.mp q with rfl | q
   show h;show zaO (F.trans J.symm) (by grind) h (B.1 z q)
  ·rename_i h;split
   show bi.mpr B
   ·rename_i O;show bi.mpr #[λz q=>?_,zjz F (λz q=>I z (av _ q)) B.2];rcases zdH.mp q with rfl | q
    ·rcases zaN (a:=z) (b:=y) (F.trans J.symm) with e | e | e
     all_goals right
    show B.1 z q
def zkW{l:AF}(h:∀y∈l,y.length=m):∀y∈zgM l,y.length=m:=λy q=>h y (yn.mp q)
theorem zhM:∀ {l:AF},(∀y∈l,y.length=m)->Up' (zgM l)
 | [],_=>.nil
 | x::l,h=>zjz (h x ao) (zkW λy q=>h y (av _ q)) (zhM λy q=>h y (av _ q))
theorem zlf:∀ {l l':AF},(∀y∈l,y.length=m)->Up' l->Up' l'->(∀z,z∈l↔z∈l')->l=l'
 | [],[],_,_,_,_=>rfl
 | [],y::r,_,_,_,h=>absurd ((h y).mpr ao) (by simp)
 | x::l,[],_,_,_,h=>absurd ((h x).mp ao) (by simp)
 | x::l,y::r,F,I,q,h=>by
  rw[Up',bi] at I q;have B:∀z∈y::r,z.length=m:=λz J=>F z ((h z).mpr J)
  have e:x=y:=by
   rcases aA.mp ((h x).mp ao) with e | e;show e;rcases aA.mp ((h y).mpr ao) with O | O;show O.symm;have h1:=q.1 x e;have h2:=I.1 y O;have Y:=zaO ((F x ao).trans (B y ao).symm) ((B y ao).trans (F x ao).symm) h2 h1;rw[xk] at Y;cases Y
  subst e;have U:∀ {l:AF},(∀z∈l,HT.lexLt x z=true)->x∉l:=λZ z=>by have:=Z x z;rw[xk] at this;cases this
  congr 1;show zlf (λz J=>F z (av _ J)) I.2 q.2 λz=>?_;grind
def zet{l l':AF}(q:∀y∈l,y.length=m)(B:Up' l')(h:∀z,z∈l'↔z∈l):l'=zgM l:=
 zlf (λy F=>q y ((h y).mp F)) B (zhM q) λz=>(h z).trans yn.symm
def zcS (bk:AW)(st hs:AG):AF:=(bk.filter λx=>zbB st x&&!hs.contains x.b).map λx=>chg st x.b x.r
def yH (bk:AW)(st hs:AG):AF:=zgM (zcS bk st hs)
def yg{st hs z:AG}:z∈zcS bk st hs↔∃x∈bk,zbB st x=true/\x.b∉hs/\z=chg st x.b x.r:=by
 unfold zcS;grind
def zjv{rm:AG}{st hs:AG}(q:∀x∈bk,WishOk rm x)(F:st.length=rm.length):∀z∈zcS bk st hs,z.length=rm.length:=λz I=>by obtain⟨x,B,_,_,rfl⟩:=yg.mp I;have h1:=(q x B).b1;rw[zdz (q x B).b0 (by lia)];show F
def zaC (H:Hp)(v:V)(hs:AG):Prop:=(v = .non/\hs=[])\/∃p,v = .ref p/\H p=some (.tup (hs.map V.int))
def zaC.stay{hs:AG}(h:zaC H v hs)(s:zA H H'):zaC H' v hs:=by
 rcases h with h | ⟨p,e,h⟩;show .inl h;show .inr #[p,e,s.tup h]
def zaj(s:zA A B){hs:AG}(h:zaC A v hs):zaC B v hs:=h.stay s
def zhV (H:Hp)(l:Addr)(BE:AF):Prop:=∃ys,H l=some (.lst ys)/\IsL H (BE.map stD) ys
def zhV.stay{BE:AF}(h:zhV H l BE)(s:zA H H'):zhV H' l BE:=let ⟨ys,h1,h2⟩:=h;#[ys,s.lst h1,h2.stay s]
def zak(s:zA A B){BE:AF}(h:zhV A l BE):zhV B l BE:=h.stay s
def zoa:Sp:=λvs H Q _=>∃ (F q:V) (B a:Addr) (rm:AG) (xs:AT) (bk:AW) (st hs:AG),vs=[F,.ref B,.ref a,q]/\1<=rm.length/\rm.length<=8/\BookAt H rm B xs bk/\(∀r∈rm,2<=r/\r<=4)/\H a=some (.tup (st.map V.int))/\st.length=rm.length/\zaC H q hs/\
 ∀ (l:Addr) (H':Hp),H l=none->zhV H' l (yH bk st hs)->yZ H H'->Q (.ref l) H'
theorem yW {α:Type}[BEq α][LawfulBEq α]:∀ {l l':List α},l.Nodup->(∀x∈l,x∈l')->l.length<=l'.length
 | [],_,_,_=>aL _
 | a::l,l',hn,h=>by
  rw[cC] at hn;have q:=h a ao;have:=yW (l:=l) (l':=l'.erase a) hn.2 λx B=>by grind
  grind
def ze1{rm:AG}{st hs:AG}{ks:AF}(q:∀x∈bk,WishOk rm x)(U:rm.length<=8)(B:∀r∈rm,2<=r/\r<=4)(hn:ks.Nodup)(F:∀z∈ks,z∈zcS bk st hs):ks.length<=32:=by
 have:=yW (l':=(List.range 32).map λc=>chg st ((c / 4:Nat):Int) ((c % 4:Nat):Int)) hn λz I=>by obtain⟨x,J,_,_,rfl⟩:=yg.mp (F z I);have o:=q x J;have h1:=o.b1;have h2:=o.b0;have O:=o.r0;have Y:=o.r1;have Z:=(ue B h2 h1).2;show au.mpr #[4 * x.b.toNat+x.r.toNat,aM.mpr (by lia),?_];rw[show (4 * x.b.toNat+x.r.toNat) / 4=x.b.toNat by lia,show (4 * x.b.toNat+x.r.toNat) % 4=x.r.toNat by lia,fO h2,fO O]
 right
end L2
namespace L2
open PyProof.Rows PySem.SeqAt
theorem zbU:∀ds:AS,Dt.toWs ds=ds.map Dt.toW
 | []=>rfl
 | d::ds=>by rw[Dt.toWs,aB,zbU ds]
theorem zfh:∀ds:List PySem.W.Dat,PySem.W.kqdPs ds=ds.map PySem.W.kqdP
 | []=>by simp[PySem.W.kqdPs]
 | d::ds=>by rw[aB,<- zfh ds];simp[PySem.W.kqdPs]
def zvX (q:Bool):R2:=λx y H Q=>∃d ds,Is H d x/\(Is H (.lst ds) y\/Is H (.tup ds) y)/\d.eqOk/\(Dt.lst ds).eqOk/\∀b:Bool,(b=true↔d∈ds)->Q (.bl (if q then !b else b)) H
section
variable {X:Cx}
def zdL(h:(Dt.lst ds).eqOk):∀d∈ds,PySem.W.kqdOk 7 d.toW=true:=λd q=>by
 have h':PySem.W.kqdOk 8 (Dt.lst ds).toW=true:=h;simp only[Dt.toW,PySem.W.kqdOk,ck,zbU] at h';right
def zf0(q:d.eqOk)(hs:(Dt.lst ds).eqOk):((PySem.W.kqdPs (Dt.toWs ds)).any λy=>PyData.eqv y (PySem.W.kqdP d.toW))=true↔d∈ds:=by
 rw[zfh,zbU,aI,List.any_map,List.any_eq_true];constructor;rintro⟨e,B,h⟩;have:=(PySem.W.kqd_eqv 7 e.toW d.toW 8 (zdL hs e B) q).mp h;rw[<- zgQ this];show B;intro h;show#[d,h,(PySem.W.kqd_eqv 7 d.toW d.toW 8 (zdL hs d h) q).mpr BA]
def zma(h:PySem.W.kqdOk 7 d=true):PySem.W.kqdOk 8 d=true:=by
 have q:∀ (n:Nat) (d:PySem.W.Dat),PySem.W.kqdOk n d=true->PySem.W.kqdOk (n+1) d=true:=by
  intro n
  induction n with
  | zero=>intro d h;cases d <;> simp_all [PySem.W.kqdOk]
  | succ n B=>
   intro d h;cases d <;> simp_all [PySem.W.kqdOk]
 show q 7 d h
def znI {d:Dt}{ds:AS}{u:Nat}(I:d.eqOk)(hs:(Dt.lst ds).eqOk)(U:u+64<cLine):PyData.canLayAll0 (PySem.W.kqdPs (Dt.toWs ds))=true/\(PySem.W.kqdP d.toW).canLay0=true/\u+1+min (PyData.depthAll (PySem.W.kqdPs (Dt.toWs ds))) (PySem.W.kqdP d.toW).depth<cLine:=by
 have B:=PySem.W.kqd_lay 8 _ I;have J:=PySem.W.kqd_layL (ds:=Dt.toWs ds) λe F=>by rw[zbU] at F;obtain⟨O,q,rfl⟩:=au.mp F;show zma (zdL hs O q)
 show#[J.1,B.1,?_];have:min (PyData.depthAll (PySem.W.kqdPs (Dt.toWs ds))) (PySem.W.kqdP d.toW).depth<=8:=aH (Nat.min_le_right _ _) B.2;lia
def zfs (Z:X.A.units+64<cLine):OpQ X (compareOp .NotIn) (zvX true):=#[by
 intro BB s G H x y v u Q I rx J h;obtain⟨d,ds,hd,B,F,ks,q⟩:=h;obtain⟨as,ra⟩:=xc I.hok 8 hd rx F;obtain⟨O,U,Y⟩:=znI F ks Z;rcases B with B | B;obtain⟨bs,rb⟩:=xc I.hok 8 B J ks;show notIn_list_reads rb ra O U Y #[.bl _,H,I,BA,q _ (zf0 F ks)];obtain⟨bs,rb⟩:=xc I.hok 8 B J (show (Dt.tup ds).eqOk from ks);show notIn_tuple_reads rb ra O U Y #[.bl _,H,I,BA,q _ (zf0 F ks)]]
end
def zss (bk:AW)(q:Int)(st:AG):AF:=(bk.filter λx=>decide (x.b=q)&&uD st x.g).map λx=>[x.w,x.r]
def lpF (bk:AW)(q:Int)(st:AG):AF:=zgM (zss bk q st)
def znb (C:Nat->Nat->Bool)(w j:Nat):AF:=((List.range j).filter (C w)).map λb:Nat=>[(w:Int),(b:Int)]
def zv9 (C:Nat->Nat->Bool)(n:Nat):Nat->AF
 | 0=>[]
 | i+1=>zv9 C n i++znb C i n
def zbi {a b:AG}(h:stD a=stD b):a=b:=by have:=congrArg (List.map Dt.val) (Dt.tup.inj h);rwa[uB,uB] at this
open PySem.W PySem.Calls
section
variable {prog:Aa}{w:Ab}{A:Ae}{E:AA}{s:AZ}{R:Result->AZ->Prop}
def zcf {ns:AG}{l:AE}:(ns.map Sum.inl)∈(yF l).map (·.1)↔ns∈l.map (·.1):=by
 unfold yF;rw[aI,au,au];constructor;rintro⟨q,B,e⟩;show#[q,B,?_];have F:q.1.map (Sum.inl:Int->Key)=ns.map Sum.inl:=e;show xw F;rintro⟨q,B,rfl⟩;show#[q,B,BA]
def ziN{ns:AG}{xs:AE}(hu:A.units<cLine)(S:xl prog w s.heap a (yF xs))(Y:(tk prog w).is s.heap (ns.map Sum.inl) b)(Z:∀q∈xs,(tk prog w).is s.heap (q.1.map Sum.inl) q.2)(I:(xs.map (·.1)).Nodup)(hn:xs.length<300)(h:∀r h' n B,Heap.SameBut a s.heap h'->xl prog w h' a (yF B)->(∀q∈B,q∈xs\/q=(ns,b))->(∀x,x∈B.map (·.1)↔x=ns\/x∈xs.map (·.1))->(B.map (·.1)).Nodup->B.length<=xs.length+1->Q r { s with heap:=h',toks:=n }) :
  Ag prog w A (setAdd a (.ref b)) Q E s:=by
 show znp (xs:=yF xs) (ns:=ns) hu S Y (λq J=>?_) (by unfold yF;rw[ab];show hn) λr h' n ag sb S' ac O=>?_;unfold yF at J;obtain⟨q',ad,rfl⟩:=au.mp J;show Z q' ad;by_cases U:ns∈xs.map (·.1);obtain rfl:=ac (zcf.mpr U);show h r h' n xs sb S' (λq J=>.inl J) (λx=>#[.inr,λz=>z.elim (λe=>e ▸ U) id]) I (eJ _);have hp:=O λz=>U (zcf.mp z);have Y:((ns.map Sum.inl,b)::yF xs)=yF ((ns,b)::xs):=rfl;rw[Y] at hp;obtain⟨B,F,rfl⟩:=uY hp BA;show h r h' n B sb S' (λq J=>?_) (λx=>?_) ?_ ?_;grind;rw[(F.map (·.1)).mem_iff,aB,aA];rw[(F.map (·.1)).nodup_iff,aB,cC];show#[U,I];rw[F.length_eq,aK];show ai _
def xl.keep(S:xl prog w h a xs)(k:∀o,h.get? a=some o->h'.get? a=some o):xl prog w h' a xs:=by obtain⟨o,es,q,t,B,r⟩:=S;show#[o,es,q,t,k o B,r]
def zgP(x:(tk prog w).is h k b)(B:∀o,h.get? b=some o->h'.get? b=some o):(tk prog w).is h' k b:=by obtain⟨o,q,n,F,r⟩:=x;show#[o,q,n,B o F,r]
def zm3{ns:AE}(hh:A.in1.handled=none)(hu:A.in1.units<cLine)(as:items.toList=ns.map λq=>Value.ref q.2)(ag:S≠I)(ba:l≠S)(bb:l≠I)(hq:∀q∈ns,q.2≠S/\q.2≠I)(hn:∀ks:AF,ks.Nodup->(∀z∈ks,z∈ns.map (·.1))->ks.length<300) :
  ∀ (k i:Nat) (s:AZ) (xs:AE),ns.length - i=k->i<=ns.length->s.heap.IsListIter I l i->s.heap.IsList l items->(∀q∈ns,(tk prog w).is s.heap (q.1.map Sum.inl) q.2)->xl prog w s.heap S (yF xs)->
   (∀q∈xs,q∈ns)->(∀st,st∈xs.map (·.1)↔st∈(ns.take i).map (·.1))->(xs.map (·.1)).Nodup->xs.length<=i->
   (∀h' al F,xl prog w h' S (yF F)->(∀q∈F,q∈ns)->(∀st,st∈F.map (·.1)↔st∈ns.map (·.1))->(F.map (·.1)).Nodup->F.length<=ns.length->(∀b o,b≠S->b≠I->s.heap.get? b=some o->h'.get? b=some o)->R (.ok (.ret .none)) { s with heap:=h',toks:=al })->
   codeAny (model prog w) A (.builtin "set.update.loop" #[[.ref S,.ref I],[]]) R s:=by
 intro k
 induction k with
 | zero=>
  intro i s xs hk hi hI hl a0 hS B J U ad hR;have bc:i=ns.length:=by lia
  subst bc;show fP dP ?_;rw[fB cO _];change wpAny _ A.in1 (pyNext (.ref I) >>= _) _ _ s;show aa (eR hh hI hl ?_ λh' hx=>?_);rw[zbx,as,aD,List.getElem?_eq_none (ai _)];rfl;change wpAny _ A.in1 (ret Value.none) _ _ _;show af (hR h' s.toks xs (hS.keep λo e=>hx S o ag e) B (λst=>?_) U ad λb o _ hb e=>hx b o hb e);rw[J,bJ]
 | succ k ih=>
  intro i s xs hk hi hI hl a0 hS B J U ad hR;have Y:i<ns.length:=by lia
  show fP dP ?_;rw[fB cO _];change wpAny _ A.in1 (pyNext (.ref I) >>= _) _ _ s;have hx:items[i]?=some (Value.ref ns[i].2):=by rw[zbx,as,aD,ak Y];rfl
  have a5:ns[i]∈ns:=bD Y;show aa (eE hI hl hx λh1 bd be=>?_);change wpAny _ A.in1 (holding [Value.ref ns[i].2] (setAdd S (.ref ns[i].2)) >>= _) _ _ _;have Z:∀b o,b≠I->s.heap.get? b=some o->h1.get? b=some o:=λb o hb e=>by rw[be.2 b hb];show e
  have O:∀q∈ns,(tk prog w).is h1 (q.1.map Sum.inl) q.2:=λq z=>zgP (a0 q z) λo e=>Z _ _ (hq q z).2 e;show aa (bn ?_);show ziN (s:={ s with heap:=h1 }) (xs:=xs) (ns:=ns[i].1) hu (hS.keep λo e=>Z _ _ ag e) (O _ a5) (λq z=>O q (B q z)) U (by have:=hn _ U λz hz=>(by obtain⟨q,hq,rfl⟩:=au.mp hz;show au.mpr #[q,B q hq,BA]);rwa[ab] at this) λr h2 n bk sb S2 an ap a7 bl=>?_;have ac:∀b o,b≠S->h1.get? b=some o->h2.get? b=some o:=λb o hb e=>by rw[sb.2 b hb];show e
  show af #[plainId_quiet cO _,ih (i+1) _ bk (by lia) Y ?_ ?_ ?_ S2 ?_ ?_ a7 (by lia) ?_];obtain⟨o,ho,r⟩:=bd;show#[o,ac _ _ ag.symm ho,r];obtain⟨o,ho,r⟩:=hl;show#[o,ac _ _ ba (Z _ _ bb ho),r];show λq z=>zgP (O q z) λo e=>ac _ _ (hq q z).1 e;intro q z;rcases an q z with z | z;show B q z;rw[z];show a5
  ·intro st;rw[ap,J,List.take_succ,ak Y,aR,aF];constructor
   ·rintro (z | z)
    all_goals right
   rintro (z | z);show .inr z;show .inl (aq.mp z)
  intro h' al F S' a1 a2 a3 a4 kp;show hR h' al F S' a1 a2 a3 a4 λb o b1 b2 e=>kp b o b1 b2 (ac b o b1 (Z b o b2 e))
def zdB(a:Value)(h:Q₁ (.ref s.heap.objs.size) { s with heap:=s.heap.push { cls:=.type "set",dict:=none,data:=.set #v[] 0 (.fresh 0 0 (!w.params.followText "set-order")) } }) :
  codeAny (model prog w) A (.call (.builtin "set.__new__") #[[.type "set",a],[]]) (wants Q₁ E) s:=by
 show codeAny_of_tree ?_;change wpAny _ A.in1 (do checkBuiltinCall "set.__new__" #[[.type "set",a],[]];again (.builtin "set.__new__" #[[.type "set",a],[]])) _ _ s;show aa (gn (PySem.F.newCall_set_1 a) (af #[plainId_quiet PySem.F.plain_set_new _,fP PySem.F.entry_set_new ?_]));rw[fB PySem.F.plain_set_new _];unfold Builtin.«set.__new__» Builtin.Frozenset.newClass;have hsub:=sub_set_self;obtain⟨hp,g,d,tk,os⟩:=s;dsimp only
 wp_walk
 show bV (af ?_);dsimp only;simp only[newObj];show aa (wpAny_alloc (af ?_));show af h
def zdx{ns:AE}(hh:A.handled=none)(hu:A.units+10<cLine)(hl:s.heap.IsList l items)(ba:items.toList=ns.map λq=>Value.ref q.2)(ad:∀q∈ns,(tk prog w).is s.heap (q.1.map Sum.inl) q.2)(hn:∀ks:AF,ks.Nodup->(∀z∈ks,z∈ns.map (·.1))->ks.length<300)(h:∀ (h':Heap) (tk:Nat) (xs:AE),xl prog w h' s.heap.objs.size (yF xs)->(∀q∈xs,q∈ns)->(∀st,st∈xs.map (·.1)↔st∈ns.map (·.1))->(xs.map (·.1)).Nodup->xs.length<=ns.length->
   (∀b o,b<s.heap.objs.size->s.heap.get? b=some o->h'.get? b=some o)->Q (.ref s.heap.objs.size) { s with heap:=h',toks:=tk }) :
  Ag prog w A (call (.type "set") [.ref l]) Q E s:=by
 obtain⟨c,tl,bs⟩:=PySem.F.called_set.mro;have bb:=PySem.F.called_set.made;have bx:=PySem.F.called_set.sub;show wpAny_call (codeAny_of_tree ?_);change wpAny _ _ (callAny (.type "set") _) _ _ _;show af #[Code.quiet_builtin _ (by decide +kernel),fP PySem.F.entry_type_call ?_];rw[Around.under_plain (weight_type_call_type "set" [.ref l] []) rfl];have h1:=PySem.F.called_set.notType;have h2:=PySem.F.called_set.canCreate;have b3:=PySem.F.typeCall_set_1 (.ref l)
 repeat (any_goals (first | assumption | wp_step))
 generalize J:(!w.params.followText "set-order")=led at *;show eS (zdB (.ref l) (E:=E) (Q₁:=λag O=>ag = .ref s.heap.objs.size/\O={ s with heap:=s.heap.push { cls:=.type "set",dict:=none,data:=.set #v[] 0 (.fresh 0 0 led) } }) #[BA,by rw[J]]) λr O hr=>?_
 cases r with
 | error e=>show hr
 | ok fl=>
  cases fl with
  | ret ag=>
   obtain⟨rfl,rfl⟩:=hr;have hS:(s.heap.push { cls:=.type "set",dict:=none,data:=.set #v[] 0 (.fresh 0 0 led) }).get? s.heap.objs.size=some { cls:=.type "set",dict:=none,data:=.set #v[] 0 (.fresh 0 0 led) }:=ar _ BA;have hT:Shared.TypeIs { s with heap:=s.heap.push { cls:=.type "set",dict:=none,data:=.set #v[] 0 (.fresh 0 0 led) } } (.ref s.heap.objs.size) "set" := #[_,hS,BA];have b4:=PySem.F.called_set.init.lookup;have ca:=PySem.F.called_set.init.bind (.ref s.heap.objs.size)
   repeat (any_goals (first | assumption | wp_step))
   show eS (codeAny_call_builtin (R:=wants (λr U=>r = .none/\∃h' tk,U={ s with heap:=h',toks:=tk }/\
     ∃xs:AE,xl prog w h' s.heap.objs.size (yF xs)/\(∀q∈xs,q∈ns)/\(∀st,st∈xs.map (·.1)↔st∈ns.map (·.1))/\(xs.map (·.1)).Nodup/\xs.length<=ns.length/\
     (∀b o,b<s.heap.objs.size->s.heap.get? b=some o->h'.get? b=some o)) E) PySem.F.called_set.init.plain PySem.F.entry_set_init (check_set_init_1 hT ?_)) λal U B=>?_
   obtain⟨ol,an,ap,nl,as⟩:=hl;obtain⟨b0,Y,bc,I⟩:=ol;simp only at ap as;subst ap;subst as;have a0:(s.heap.push { cls:=.type "set",dict:=none,data:=.set #v[] 0 (.fresh 0 0 led) }).get? l=some { cls:=.type "list",dict:=Y,data:=.seq items nl,slots:=I }:=ae _ an;have b1:=PySem.F.sub_list_set;have b2:=PySem.F.sub_list_frozenset;have cc:(Value.type "list" == Value.type "dict")=false:=by ext
   have a5:(s.heap.push { cls:=.type "set",dict:=none,data:=.set #v[] 0 (.fresh 0 0 led) }).IsList l items:=#[_,a0,BA,nl,BA];unfold Builtin.«set.__init__» noKeywords Builtin.Frozenset.updateFrom;generalize bd:pyIter=PI
   wp_walk
   subst bd;show dE a5 ?_;show aa (wpAny_runValue ?_);have a7:l<s.heap.objs.size:=ax an;have be:∀q∈ns,q.2<s.heap.objs.size:=λq Z=>by obtain⟨o,_,_,ho,_⟩:=ad q Z;show ax ho
   show zm3 (items:=items) (ns:=ns) (l:=l) (by simp[hh]) (by simp;lia) ba ?_ ?_ ?_ ?_ hn (ns.length - 0) 0 _ [] (by lia) (aL _) #[_,ar _ BA,BA,BA] (a5.push _) ?_ ?_ ?_ ?_ ?_ ?_ ?_;rw[bS];show aQ (cW _);show aQ a7;rw[bS];show aQ (gk a7);intro q Z;have:=be q Z;rw[bS];show#[aQ this,aQ (gk this)];show λq Z=>zgP (ad q Z) λo e=>ae _ (ae _ e);show xl.keep (h:=s.heap.push { cls:=.type "set",dict:=none,data:=.set #v[] 0 (.fresh 0 0 led) }) ?_ λo e=>ae _ e;rw[<- J];show zfH _;show λq Z=>by simp at Z
   intro st;simp;show fX;show ai _;intro h' bk bl S' a1 a2 a3 a4 kp;change wpAny _ _ _ _ _ _;show af ?_;change wpAny _ _ (ret Value.none) _ _ _;show af #[BA,h',bk,BA,bl,S',a1,a2,a3,a4,λb o hb e=>?_];show kp b o (aQ hb) (by rw[bS];show aQ (gk hb)) (ae _ (ae _ e))
   ·cases al with
    | error e=>show B
    | ok ac=>
     cases ac with
     | ret r=>
      obtain⟨rfl,h',tk,rfl,xs,S',a1,a2,a3,a4,bo⟩:=B
      repeat (any_goals (first | assumption | wp_step))
      show h _ _ xs S' a1 a2 a3 a4 bo
     | _=>show B.elim
  | _=>show hr.elim
variable {X:Cx}
def zn1 (P:Aa)(w:Ab):AT->Hp->VK->Prop:=λxs H Q=>∃ (a:Addr) (ys:AT) (BE:AF),xs=[.ref a]/\H a=some (.lst ys)/\IsL H (BE.map stD) ys/\(∀ks:AF,ks.Nodup->(∀z∈ks,z∈BE)->ks.length<300)/\
 ∀ (l:Addr) (H':Hp) (ks:AF),H l=none->zcP P w H' l ks->(∀st,st∈ks↔st∈BE)->yZ H H'->Q (.ref l) H'
def zi2 (hu:X.A.units+64<cLine)(hc:X.calm=true):CallQ X (.type "set") (zn1 X.prog X.w):=#[by
 intro BB s G H xs us Q I r h;obtain⟨a,ys,BE,rfl,ha,O,hn,q⟩:=h;obtain⟨u,rfl,ru⟩:=zbI r;cases ru
 have U:∀ {BE:AF} {ys:AT},IsL H (BE.map stD) ys->∃ns:AE,ys=ns.map (λq=>V.ref q.2)/\ns.map (·.1)=BE/\∀q∈ns,H q.2=some (.tup (q.1.map V.int)):=by
  intro BE
  induction BE with
  | nil=>intro ys h;cases h;show#[[],BA,BA,λ_ h=>by simp at h]
  | cons st BE Y=>
   intro ys h;obtain⟨y,ac,rfl,h1,h2⟩:=h;obtain⟨ns,rfl,e2,J⟩:=Y h2;obtain⟨b,us,rfl,hb,Z⟩:=h1;obtain rfl:=Z.of_ints;show#[(st,b)::ns,BA,by right,λq F=>?_];rcases aA.mp F with rfl | F;show hb;show J q F
 obtain⟨ns,rfl,rfl,J⟩:=U O;obtain⟨hz,B,n,hv,hg⟩:=(show yd X.prog X.w H s.heap a (.lst _) from I.hok a _ ha)
 have ze2:B=ns.map λq=>Value.ref q.2:=by
  have g2:∀ {ns:AE} {B:AN},yb (ns.map λq=>V.ref q.2) B->B=ns.map λq=>Value.ref q.2:=by
   intro ns
   induction ns with
   | nil=>intro B r;cases r;rfl
   | cons q ns Y=>
    intro B r
    cases r with
    | cons r1 r2=>
     cases r1;rw[aB,<- Y r2]
  show g2 hv
 show zdx (items:=B.toArray) (ns:=ns) (I.ok.hd hc) (by lia) #[_,hg,BA,n,BA] (by simpa using ze2) (λq F=>zb8 I (J q F)) hn λh' tk xs S' a1 a2 a3 a4 kp=>?_;have hf:H s.heap.objs.size=none:=I.hok.fresh (ai _);show#[.ref s.heap.objs.size,_,I.laid (t':=tk) (o:=zhL X.prog X.w s.heap.objs.size (yF xs)) (λb o e=>kp b o (ax e) e) (ai _) (zgL S'),BA,?_];show q s.heap.objs.size _ (xs.map (·.1)) hf #[xs,zh,λz hz=>?_,BA,a3] (λst=>a2 st) (λb o e=>by rw[zf (zc e hf)];show e);have:=J z (a1 z hz);rw[zf (zc this hf)];show this]
variable {e st:Expr}{te tk:TE}{pos p2:Pos}
end
theorem zfT {one other:AG}:∀ {bk:AW} {i:Nat},zoh one other i bk=none↔∀x∈bk,ze2 one other x=false
 | [],i=>#[λ_ _ h=>by simp at h,λ_=>rfl]
 | x::bk,i=>by
  change (if ze2 one other x then some i else zoh one other (i+1) bk)=none↔_;by_cases h:ze2 one other x=true;grind;rw[if_neg h,zfT];grind
def zhd {one other:AG}{x:Wi}:ze2 one other x=true↔zbB one x=true/\chg one x.b x.r=other:=by
 unfold ze2;grind
def zoo{one other:AG}:other∈yH bk one []↔∃x∈bk,ze2 one other x=true:=by
 unfold yH;rw[yn,yg];constructor;rintro⟨x,q,h1,_,h2⟩;show#[x,q,zhd.mpr #[h1,h2.symm]];rintro⟨x,q,h⟩;obtain⟨h1,h2⟩:=zhd.mp h;show#[x,q,h1,bW,h2.symm]
def ziU{one other:AG}:other∈yH bk one []↔zoh one other i bk≠none:=by
 rw[zoo,Ne,zfT];grind
def zlu{rm:AG}{one other:AG}(q:∀x∈bk,WishOk rm x)(h1:one.length=rm.length)(h2:other.length=rm.length):one∈yH (bk.map zae) other []↔other∈yH bk one []:=by rw[ziU (i:=0),ziU (i:=0),zfU h1 h2 0 q]
def unlike (one z hs:AG):AG:=hs.filter λb=>decide (zQ one b≠zQ z b)
section
variable {X:Cx}{pos:Pos}
end
def zpt {z:AG}{l:AF}:stD z∈l.map stD↔z∈l:=by rw[au];show#[by rintro⟨y,q,e⟩;show zbi e ▸ q,λh=>#[z,h,BA]]
end L2
namespace L2
open PyProof.Rows
end L2
namespace L2
open PyProof.Rows
section
variable {M:Model}{A:Ae}{E:AA}{s:AZ}
variable {X:Cx}{BB:AB}{G:St}{H:Hp}{scope:Scope}{N:AM}{z:Str}{BD:List (Option Nat)}
end
end L2
namespace L2
open PyProof.Rows
end L2
namespace L2
open PyProof.Rows
section
variable {prog:Aa}{w:Ab}{A:Ae}{E:AA}{s:AZ}{R:Result->AZ->Prop}{Kt:Type}[DecidableEq Kt]{knd:KeyKind prog w Kt}{κ:Int->Kt}
end
end L2
namespace L2
open PyProof.Rows
def zaB {X:Cx}{BB:AB}{G:St}{H:Hp}{s:AZ}{a:Addr}{xs:AT}(I:Inv X BB G H s)(h:SqL X.K H a xs):∃q:AN,yb xs q/\s.heap.IsList a q.toArray/\xs.length<=sizeLine:=by obtain⟨q,r,⟨o,n,e,c,_,d⟩,z⟩:=I.list h;show#[q,r,#[o,e,c,n,d],z]
def Izl (K:AH)(a b:Addr):It:=
 #[λi H=>∃xs ys x y,SqL K H a xs/\SqL K H b ys/\xs[i]?=some x/\ys[i]?=some y,λi H v H'=>∃T x y,v = .ref T/\H T=none/\H'=upd H T (.tup [x,y])/\(∀xs,SqL K H a xs->xs[i]?=some x)/\∀ys,SqL K H b ys->ys[i]?=some y,λi H=>∃xs ys,SqL K H a xs/\SqL K H b ys/\(xs.length<=i\/ys.length<=i)]
def zk9{P:Aa}{w:Ab}{K:AH}{a5:AO}{x1}(z TI TO U Y a b:Addr)(BG:ZipApart z TI TO U Y a b) :
  Turn P w K (.Tuple a5 x1 tpos) (Izl K a b) [z,TI,TO,U,Y] z (λi h=>IsZip h z TI TO .none/\IsPair h TI (.ref U) (.ref Y)/\(∃c d,IsPair h TO c d)/\h.IsListIter U a i/\h.IsListIter Y b i) where
 mem:=by simp
 obj:=λi h st c J=>by
  obtain⟨hz,Z,⟨u,v,ad⟩,⟨o1,e1,c1,d1⟩,⟨o2,e2,c2,d2⟩⟩:=st;grind
 keep:=λi h h' st k=>by obtain⟨hz,Z,⟨u,v,ad⟩,⟨o1,e1,r1⟩,⟨o2,e2,r2⟩⟩:=st;show#[k z (by simp) _ hz,k TI (by simp) _ Z,#[u,v,k TO (by simp) _ ad],#[o1,k U (by simp) _ e1,r1],#[o2,k Y (by simp) _ e2,r2]]
 item:=by
  intro X hP hw hK J i BB s G H E I hf st hg;subst hP hw hK;obtain⟨xs,ys,x,y,an,ap,hx,hy⟩:=hg;obtain⟨a7,a1,p1,co⟩:=zaB I an;obtain⟨ba,a2,p2,cp⟩:=zaB I ap;obtain⟨u1,bs,bx⟩:=a1.get hx;obtain⟨u2,b0,b1⟩:=a2.get hy;have fz:=hf z (by simp);have B:=hf TO (by simp);have f1:=hf U (by simp);have f2:=hf Y (by simp);obtain⟨hz,Z,⟨c0,d0,ad⟩,as,a0⟩:=st;have hT:s.TypeIs (.ref z) "zip" := #[_,hz,BA];unfold pyNext
  show aa (cL (wpAny_callSpecial?_slot (name:=Str.ofString "__next__") hT cT
   (aZ cT hT fj (zip_next_item (A:=X.A.in1) BG hz Z ad as a0 p1 p2 (x:=u1) (y:=u2) (by simpa using bs) (by simpa using b0) λh' gz b2 b3 b4 gT cs hk=>?_) (eO _))))
  show af #[_,BA,?_];show wpAny_letOwnedTupleGo_zip (s:={ s with heap:=h' }) gz λal bb ac=>?_;have nz:∀b' o',s.heap.get? b'=some o'->s.heap.objs.size≠b':=λb' o' e=>dY (ax e);have bc:s.heap.objs.size≠z:=nz z _ hz;have bd:s.heap.objs.size≠TO:=nz TO _ ad;have ca:s.heap.objs.size≠U:=by obtain⟨o,ho,_⟩:=as;show nz U _ ho
  have cc:s.heap.objs.size≠Y:=by obtain⟨o,ho,_⟩:=a0;show nz Y _ ho
  have be:s.heap.objs.size≠TI:=nz TI _ Z;have F:=I.hok.fresh (ai s.heap.objs.size);have kp:∀c o,c≠z->c≠TO->c≠U->c≠Y->s.heap.get? c=some o->al.get? c=some o:=λc o h1 h2 h3 h4 hb=>(ac.2 c h1).trans (hk c o h1 h2 h3 h4 hb);have bk:al.get? s.heap.objs.size=some { cls:=.type "tuple",data:=.seq #v[u1,u2] }:=(ac.2 _ bc).trans gT;have cl:∀b' u',H b'=some u'->b'≠z/\b'≠TO/\b'≠U/\b'≠Y:=λb' u' hb=>#[zc hb fz.1,zc hb B.1,zc hb f1.1,zc hb f2.1]
  have bl:HOk X.prog X.w (upd H s.heap.objs.size (.tup [x,y])) al:=by
   intro b' u' hb;by_cases bo:b'=s.heap.objs.size;subst bo;rw[zh] at hb;cases hb;show#[by change 2<=sizeLine;decide,[u1,u2],.cons bx (.cons b1 .nil),_,bk,BA,#[0,BA],BA]
   ·rw[zf bo] at hb;show (I.hok b' u' hb).stay (λc v O q=>?_) (λc q=>?_) (λc ys q=>?_)
    ·have:c≠z/\c≠TO/\c≠U/\c≠Y:=by
      rcases O with rfl | O
      all_goals right
     right
    rw[zf (zc q F)];show q;rw[zf (zc q F)];show q
  have ag:∀c o,c∉[z,TO,U,Y]->s.heap.get? c=some o->al.get? c=some o:=λc o J e=>kp c o (λq=>J (by simp[q])) (λq=>J (by simp[q])) (λq=>J (by simp[q])) (λq=>J (by simp[q])) e
  have I1:Inv X BB G (upd H s.heap.objs.size (.tup [x,y])) { s with heap:=al,toks:=s.toks }:=by
   show Inv.step (ch:=[z,TO,U,Y]) (g':=s.gens) (d':=s.drawn) (t':=s.toks) I (λc J=>?_) (λc o h1 h2 h3 h4 h5=>?_) (λc o h1 h2 h3 h4 h5=>?_) (λc o h3 h4 h5=>?_) (λc o h3 h4=>?_) (λc ys q=>?_) (λc o u' q=>?_) (λc ps q=>?_) (λm hm=>?_) bl I.bare;simp only[aA,bW,or_false] at J;rcases J with rfl | rfl | rfl | rfl;show#[fz.2.2.2.1,fz.2.1,fz.2.2.2.2.1,fz.2.2.2.2.2];show#[B.2.2.2.1,B.2.1,B.2.2.2.2.1,B.2.2.2.2.2];show#[f1.2.2.2.1,f1.2.1,f1.2.2.2.2.1,f1.2.2.2.2.2];show#[f2.2.2.2.1,f2.2.1,f2.2.2.2.2.1,f2.2.2.2.2.2];show ag c o h3 h4;show#[o.slots,ag c o h3 h4];rw[zf (aQ (ax h4))];show h5;show#[o,ag c o h3 h4];rw[zf (zc q F)];show q;rw[zf (zc q F)];show q;show#[#v[],by rw[zf (zc q F),et];show q];obtain⟨o,es,ep,a3,r1⟩:=hm;show#[o,es,ep,kp _ o (Ne.symm fz.2.1) (Ne.symm B.2.1) (Ne.symm f1.2.1) (Ne.symm f2.2.1) a3,r1]
  show#[.ref s.heap.objs.size,_,I1,BA,#[s.heap.objs.size,x,y,BA,F,BA,λzs a4=>by rw[I.list_inj a4 an];show hx,λzs a4=>by rw[I.list_inj a4 ap];show hy],#[bb,?_,#[_,_,(ac.2 TO BG.TOz).trans b2],?_,?_],λc J=>?_];show kp TI _ BG.TIz BG.TITO BG.TIi1 BG.TIi2 Z;obtain⟨o,ho,r⟩:=b3;show#[o,(ac.2 U BG.i1z).trans ho,r];obtain⟨o,ho,r⟩:=b4;show#[o,(ac.2 Y BG.i2z).trans ho,r];simp only[aA,bW,or_false] at J;rcases J with rfl | rfl | rfl | rfl | rfl;rw[zf (Ne.symm bc)];show fz.1;rw[zf (Ne.symm be)];show (hf _ (by simp)).1;rw[zf (Ne.symm bd)];show B.1;rw[zf (Ne.symm ca)];show f1.1;rw[zf (Ne.symm cc)];show f2.1
 done:=by
  intro X hP hw hK J i BB s G H E I hf st hg;subst hP hw hK;obtain⟨xs,ys,an,ap,hx⟩:=hg;obtain⟨a7,a1,p1,cu⟩:=zaB I an;obtain⟨ba,a2,p2,cn⟩:=zaB I ap;have fz:=hf z (by simp);have B:=hf TO (by simp);have f1:=hf U (by simp);have f2:=hf Y (by simp);obtain⟨hz,Z,⟨c0,d0,ad⟩,as,a0⟩:=st;have cv:=a1.length;have cx:=a2.length;have hT:s.TypeIs (.ref z) "zip" := #[_,hz,BA];unfold pyNext
  show aa (cL (wpAny_callSpecial?_slot (name:=Str.ofString "__next__") hT cT
   (aZ cT hT fj (zip_next_end (A:=X.A.in1) (I.ok.hd J) BG hz Z ad as a0 p1 p2 (hx.elim (λz=>.inl (by simp;lia)) λz=>.inr (by simp;lia)) λh' e ko he=>?_) (eO _))))
  obtain⟨o,ho,cd⟩:=he;show aa (cY (T := "StopIteration") (b:=true) #[o,ho,cd] dM ?_);show af #[BA,?_];have ag:∀c o,c∉[z,TO,U,Y]->s.heap.get? c=some o->h'.get? c=some o:=λc o J e=>ko c o (λq=>J (by simp[q])) (λq=>J (by simp[q])) (λq=>J (by simp[q])) (λq=>J (by simp[q])) e;show Inv.step (ch:=[z,TO,U,Y]) (g':=s.gens) (d':=s.drawn) (t':=s.toks) I (λc J=>?_) (λc o h1 h2 h3 h4 h5=>ag c o h3 h4) (λc o h1 h2 h3 h4 h5=>#[o.slots,ag c o h3 h4]) (λc o h3 h4 h5=>h5) (λc o h3 h4=>#[o,ag c o h3 h4]) (λc ys q=>q) (λc o u' q=>q) (λc ps q=>#[#v[],by right]) (λm hm=>?_) (λb' u' hb=>?_) I.bare;simp only[aA,bW,or_false] at J;rcases J with rfl | rfl | rfl | rfl;show#[fz.2.2.2.1,fz.2.1,fz.2.2.2.2.1,fz.2.2.2.2.2];show#[B.2.2.2.1,B.2.1,B.2.2.2.2.1,B.2.2.2.2.2];show#[f1.2.2.2.1,f1.2.1,f1.2.2.2.2.1,f1.2.2.2.2.2];show#[f2.2.2.2.1,f2.2.1,f2.2.2.2.2.1,f2.2.2.2.2.2];obtain⟨o,es,ep,a3,r1⟩:=hm;show#[o,es,ep,ko _ o (Ne.symm fz.2.1) (Ne.symm B.2.1) (Ne.symm f1.2.1) (Ne.symm f2.2.1) a3,r1];show (I.hok b' u' hb).stay (λc v O q=>?_) (λc q=>q) (λc ys q=>q)
  have:c≠z/\c≠TO/\c≠U/\c≠Y:=by
   rcases O with rfl | O;show#[zc hb fz.1,zc hb B.1,zc hb f1.1,zc hb f2.1];show#[zc O fz.1,zc O B.1,zc O f1.1,zc O f2.1]
  show ko c v this.1 this.2.1 this.2.2.1 this.2.2.2 q
 self:=λA i s Q E st h=>by obtain⟨hz,_⟩:=st;show fm hz h
def zrP (K:AH)(ta:TA):TI:=λG H R=>ta G H λvs H1=>∃a b,vs=[.ref a,.ref b]/\(∃xs,SqL K H1 a xs)/\(∃ys,SqL K H1 b ys)/\R (Izl K a b) H1
def zpX {X:Cx}{F:AO}{x1}{tpos:Pos}{a b:Expr}{ta:TA}{p pos:Pos}(hg:Gl X "zip")(hm:X.mg "zip" = none)(ha:PA X [a,b] ta)(hs:starEach [a,b] X.env=[(false,eval a X.env),(false,eval b X.env)]:=by rfl)(J:starEach [b] X.env=[(false,eval b X.env)]:=by rfl) :
  PI X (.Tuple F x1 tpos) (.Call (.Name "zip" p) [a,b] [] pos) (zrP X.K ta):=by
 intro BB s G H R I h;show Call_ (zca I hg hm boot_zip (cg (thn (ha pos BB s G H _ I h) λus B ⟨vs,H1,I1,r1,q1⟩=>?_) (by rw[hs,J]) (by rw[J];rfl)));obtain⟨c,d,e,⟨xs,Y⟩,⟨ys,Z⟩,q⟩:=q1;subst e
 cases r1 with
 | cons r rr=>
  cases rr with
  | cons r' rr=>
   cases rr;cases r;cases r';obtain⟨O,as,p1,a0⟩:=zaB I1 Y;obtain⟨U,a1,p2,a2⟩:=zaB I1 Z;have ac:c<B.heap.objs.size:=by obtain⟨o,ho,_⟩:=id p1;show ax ho
   have ad:d<B.heap.objs.size:=by obtain⟨o,ho,_⟩:=id p2;show ax ho
   show call_zip_2 (show B.heap.IsList c O.toArray from p1) (show B.heap.IsList d U.toArray from p2) λh' gz ag al an ap hsz hk=>?_;have I2:Inv X BB G H1 { B with heap:=h',toks:=B.toks }:=I1.kept (t':=B.toks) hk;show fm gz ?_;show#[B.heap.objs.size+4,[B.heap.objs.size+4,B.heap.objs.size+2,B.heap.objs.size+3,B.heap.objs.size,B.heap.objs.size+1],_,_,H1,BA,I2,zk9 _ _ _ _ _ c d (zipApart_new ac ad),#[gz,ag,#[_,_,al],an,ap],λe he=>?_,q];simp only[aA,bW,or_false] at he;rcases he with rfl | rfl | rfl | rfl | rfl;show I1.fpOk (by lia) (I1.hok.fresh (by lia));show I1.fpOk (by lia) (I1.hok.fresh (by lia));show I1.fpOk (by lia) (I1.hok.fresh (by lia));show I1.fpOk (ai _) (I1.hok.fresh (ai _));show I1.fpOk (by lia) (I1.hok.fresh (by lia))
def zqk {X:Cx}{q:AO}{x1}{tpos:Pos}{a b:Expr}{ta:TA}{p pos:Pos}(F:Gl X "zip")(I:X.mg "zip" = none)(J:QA X [a,b] ta)(hs:starEach [a,b] X.env=[(false,eval a X.env),(false,eval b X.env)]:=by rfl)(B:starEach [b] X.env=[(false,eval b X.env)]:=by rfl) :
  QI X (.Tuple q x1 tpos) (.Call (.Name "zip" p) [a,b] [] pos) (zrP X.K ta):=#[zpX F I J.run hs B]
abbrev nmS (b:Bool):String:=match b with | true => "tuple" | false => "list"
abbrev nmI (b:Bool):String:=match b with | true => "tuple_iterator" | false => "list_iterator"
def SqH (b:Bool)(h:Heap)(l:Addr)(xs:AK):Prop:=∃o,h.get? l=some o/\o.cls = .type (nmS b)/\∃n,o.data = .seq xs n
def ItH (b:Bool)(h:Heap)(i l:Addr)(k:Nat):Prop:=∃o,h.get? i=some o/\o.cls = .type (nmI b)/\o.data = .fields #v[.ref l,.int k 0]
abbrev SqV (b:Bool) (K:AH) (H:Hp) (a:Addr) (xs:AT):Prop:=match b with | true=>SqT K H a xs | false=>SqL K H a xs
def zgy{X:Cx}{BB:AB}{G:St}{H:Hp}{s:AZ}{a:Addr}{xs:AT}(I:Inv X BB G H s)(h:SqV b X.K H a xs):∃q:AN,yb xs q/\SqH b s.heap a q.toArray:=by
 cases b;obtain⟨q,r,p,_⟩:=zaB I h;show#[q,r,p];obtain⟨q,r,p,_⟩:=I.tuple h;show#[q,r,p]
def zvc{X:Cx}{BB:AB}{G:St}{H:Hp}{a:Addr}(I:Inv X BB G H s)(h:SqV b X.K H a xs)(h':SqV b X.K H a ys):xs=ys:=by
 cases b;show I.list_inj h h';show I.tuple_inj h h'
section
variable {prog:Aa}{w:Ab}{A:Ae}{E:AA}{s:AZ}
def zif(q:ItH k s.heap B t i)(F:SqH k s.heap t items)(I:items[i]?=some x)(J:∀h',ItH k h' B t (i+1)->Heap.SameBut B s.heap h'->Q x { s with heap:=h' }):Ag prog w A (Builtin.SmallTypes.nextOf (.ref B)) Q E s:=by
 cases k;show wpAny_nextOf_list_item q F I J;show yQ q F I J
def zkd(F:A.handled=none)(q:ItH k s.heap B t i)(I:SqH k s.heap t items)(J:items[i]?=none)(O:∀h' e,Heap.ExtBut B s.heap h'->(∃o,h'.get? e=some o/\o.cls = .type "StopIteration")->E (.ref e) { s with heap:=h' }):Ag prog w A (Builtin.SmallTypes.nextOf (.ref B)) Q E s:=by
 cases k;show wpAny_nextOf_list_end F q I J O;show y9 F q I J O
def zvd(h:SqH k s.heap l items)(q:Q (.ref s.heap.objs.size) { s with heap:=s.heap.push { cls:=.type (nmI k),data:=.fields #v[.ref l,.int 0 0] } }):Ag prog w A (pyIter (.ref l)) Q E s:=by
 cases k;show dE h q;show c9 h q
def zc0{z TI TO Z F t1 t2:Addr}{xs ys:AK}{x y a b:Value}{Q:AA}(BG:ZipApart z TI TO Z F t1 t2)(hz:IsZip s.heap z TI TO .none)(b2:IsPair s.heap TI (.ref Z) (.ref F))(b3:IsPair s.heap TO a b)(h1:ItH kb s.heap Z t1 k1)(h2:s.heap.IsTupleIter F t2 k2)(hx:SqH kb s.heap t1 xs)(hy:s.heap.IsTuple t2 ys)(ex:xs[k1]?=some x)(ey:ys[k2]?=some y)(hQ:∀h',IsZip h' z TI TO (rawInt s.heap.objs.size)->IsPair h' TO x y->ItH kb h' Z t1 (k1+1)->h'.IsTupleIter F t2 (k2+1)->IsPair h' s.heap.objs.size x y->h'.objs.size=s.heap.objs.size+1->
   (∀c o,c≠z->c≠TO->c≠Z->c≠F->s.heap.get? c=some o->h'.get? c=some o)->Q (.ref s.heap.objs.size) { s with heap:=h' }) :
  Ag prog w A (Builtin.«zip.__next__» #[[.ref z],[]]) (λfin s'=>∃v,fin = .done (.ret v)/\Q v s') E s:=by
 change wpAny _ _ (field (.ref z) 2 >>= _) _ _ s;show aa (b7 hz BA (x:=.bool false) BA ?_);change wpAny _ _ (field (.ref z) 3 >>= _) _ _ s;show aa (b7 hz BA (x:=.ref TI) BA ?_);change wpAny _ _ (seqItems? (.ref TI) >>= _) _ _ s;show aa (cN b2 BA ?_);change wpAny _ _ (Builtin.SmallTypes.ownedTupleIsFree (.ref z) >>= _) _ _ s;show aa ?_;change wpAny _ _ (field (.ref z) 0 >>= _) _ _ s;show aa (b7 hz BA (x:=.none) BA ?_);show af ?_;change wpAny _ _ (rule "zip.__next__.owned-tuple-again" >>= _) _ _ s;show aa (dg ?_);change wpAny _ _ (field (.ref z) 4 >>= _) _ _ s;show aa (b7 hz BA (x:=.ref TO) BA ?_);change wpAny _ _ (setField (.ref z) 0 .ellipsis >>= _) _ _ s;show aa (bT hz BA (by simp) ?_);have a3:(s.heap.update z (Obj.mapFields λx=>x.setIfInBounds 0 Value.ellipsis)).get? z=some { cls:=.type "zip",data:=.fields #v[.ellipsis,.bool false,.bool false,.ref TI,.ref TO] }:=bF _ hz BA;have B:∀c,c≠z->(s.heap.update z (Obj.mapFields λx=>x.setIfInBounds 0 Value.ellipsis)).get? c=s.heap.get? c:=λc q=>bO _ _ (Ne.symm q);have a4:(s.heap.update z (Obj.mapFields λx=>x.setIfInBounds 0 Value.ellipsis)).objs.size=s.heap.objs.size:=by simp[Heap.update]
 generalize s.heap.update z (Obj.mapFields λx=>x.setIfInBounds 0 Value.ellipsis)=H1 at a3 B a4;change wpAny _ _ (forIn ([(Value.ref Z,0),(Value.ref F,1)]:List (Value×Nat)) ((none,()):Option PySem.Fin×Unit) _ >>= _) _ _ _;rw[en];show aa (aa ?_);show aa (wpAny_onRaise ?_);change wpAny _ _ (if (Value.bool false==Value.bool true)=true then _ else (Builtin.SmallTypes.nextOf (.ref Z) >>= λx=>pure (some x))) _ _ _;rw[if_neg (by ext)];have b4:ItH kb H1 Z t1 k1:=by obtain⟨o,I,r⟩:=h1;show#[o,(B _ BG.i1z).trans I,r]
 have ca:SqH kb H1 t1 xs:=by obtain⟨o,I,r⟩:=hx;show#[o,(B _ BG.l1z).trans I,r]
 show aa (zif (s:={ s with heap:=H1 }) b4 ca ex λH2 a5 a7=>?_);show af ?_;have J:∀c,c≠Z->H2.get? c=H1.get? c:=λc q=>a7.2 c q;have ag:IsPair H2 TO a b:=(J _ BG.TOi1).trans ((B _ BG.TOz).trans b3);change wpAny _ _ (seqItems? (.ref TO) >>= _) _ _ _;show aa (cN (s:={ s with heap:=H2 }) ag BA ?_);show aa (wpAny_updateSeq_pair (s:={ s with heap:=H2 }) ag λH3 ba bb=>?_);show aa (wpAny_letGo ?_);show af ?_;have ap:IsPair H3 TO x b:=ba;have O:∀c,c≠TO->H3.get? c=H2.get? c:=λc q=>bb.2 c q;change wpAny _ _ (forIn ([(Value.ref F,1)]:List (Value×Nat)) ((none,()):Option PySem.Fin×Unit) _) _ _ _;rw[en];show aa ?_;show aa (wpAny_onRaise ?_);change wpAny _ _ (if (Value.bool false==Value.bool true)=true then _ else (Builtin.SmallTypes.nextOf (.ref F) >>= λx=>pure (some x))) _ _ _;rw[if_neg (by ext)];have cc:H3.IsTupleIter F t2 k2:=by obtain⟨o,I,r⟩:=h2;show#[o,(O _ (Ne.symm BG.TOi2)).trans ((J _ (Ne.symm BG.i12)).trans ((B _ BG.i2z).trans I)),r]
 have cd:H3.IsTuple t2 ys:=by obtain⟨o,I,r⟩:=hy;show#[o,(O _ BG.l2TO).trans ((J _ BG.l2i1).trans ((B _ BG.l2z).trans I)),r]
 show aa (yQ (s:={ s with heap:=H3 }) cc cd ey λH4 bc bd=>?_);show af ?_;have ac:∀c,c≠F->H4.get? c=H3.get? c:=λc q=>bd.2 c q;have al:IsPair H4 TO x b:=(ac _ BG.TOi2).trans ap;change wpAny _ _ (seqItems? (.ref TO) >>= _) _ _ _;show aa (cN (s:={ s with heap:=H4 }) al BA ?_);show aa (wpAny_updateSeq_pair (s:={ s with heap:=H4 }) al λH5 be bk=>?_);show aa (wpAny_letGo ?_);show af ?_;have U:IsPair H5 TO x y:=be;have ad:∀c,c≠TO->H5.get? c=H4.get? c:=λc q=>bk.2 c q;change wpAny _ _ (forIn ([]:List (Value×Nat)) ((none,()):Option PySem.Fin×Unit) _) _ _ _;rw[List.forIn_nil];show af ?_;change wpAny _ _ (seqItems? (.ref TO) >>= _) _ _ _;show aa (cN (s:={ s with heap:=H5 }) U BA ?_);show aa (wpAny_newTuple ?_ (by change 2<=sizeLine;decide));have bl:H5.objs.size=s.heap.objs.size:=bk.1.trans (bd.1.trans (bb.1.trans (a7.1.trans a4)));have ko:∀c o,c≠z->c≠TO->c≠Z->c≠F->s.heap.get? c=some o->H5.get? c=some o:=λc o c1 c2 c3 c4 e=>(ad _ c2).trans ((ac _ c4).trans ((O _ c2).trans ((J _ c3).trans ((B _ c1).trans e))));have ch:H5.get? z=some { cls:=.type "zip",data:=.fields #v[.ellipsis,.bool false,.bool false,.ref TI,.ref TO] }:=(ad _ (Ne.symm BG.TOz)).trans ((ac _ (Ne.symm BG.i2z)).trans ((O _ (Ne.symm BG.TOz)).trans ((J _ (Ne.symm BG.i1z)).trans a3)));have Y:=ar H5 (o:={ cls:=.type "tuple",data:=.seq #v[x,y] }) BA;change wpAny _ _ (Builtin.SmallTypes.ownedTupleHandOut (.ref z) (.ref H5.objs.size) >>= _) _ _ { s with heap:=H5.push { cls:=.type "tuple",data:=.seq #v[x,y] } };have as:∀c o,H5.get? c=some o->(H5.push { cls:=.type "tuple",data:=.seq #v[x,y] }).get? c=some o:=λc o e=>ae _ e;have bo:(H5.push { cls:=.type "tuple",data:=.seq #v[x,y] }).objs.size=s.heap.objs.size+1:=by rw[bS,bl]
 rw[bl] at Y ⊢;generalize H5.push { cls:=.type "tuple",data:=.seq #v[x,y] }=H6 at Y as bo;have bs:=as _ _ ch;show aa ?_;change wpAny _ _ (setField (.ref z) 0 (rawInt s.heap.objs.size) >>= _) _ _ { s with heap:=H6 };show aa (bT bs BA (by simp) ?_);have a0:(H6.update z (Obj.mapFields λx=>x.setIfInBounds 0 (rawInt s.heap.objs.size))).get? z=some { cls:=.type "zip",data:=.fields #v[rawInt s.heap.objs.size,.bool false,.bool false,.ref TI,.ref TO] }:=bF _ bs BA;have a1:∀c,c≠z->(H6.update z (Obj.mapFields λx=>x.setIfInBounds 0 (rawInt s.heap.objs.size))).get? c=H6.get? c:=λc q=>bO _ _ (Ne.symm q);have bx:(H6.update z (Obj.mapFields λx=>x.setIfInBounds 0 (rawInt s.heap.objs.size))).objs.size=H6.objs.size:=by simp[Heap.update]
 generalize H6.update z (Obj.mapFields λx=>x.setIfInBounds 0 (rawInt s.heap.objs.size))=H7 at a0 a1 bx;show bT (s:={ s with heap:=H7 }) a0 BA (by simp) ?_;have b0:(H7.update z (Obj.mapFields λx=>x.setIfInBounds 1 (Value.bool false))).get? z=some { cls:=.type "zip",data:=.fields #v[rawInt s.heap.objs.size,.bool false,.bool false,.ref TI,.ref TO] }:=bF _ a0 BA;have a2:∀c,c≠z->(H7.update z (Obj.mapFields λx=>x.setIfInBounds 1 (Value.bool false))).get? c=H7.get? c:=λc q=>bO _ _ (Ne.symm q);have b1:(H7.update z (Obj.mapFields λx=>x.setIfInBounds 1 (Value.bool false))).objs.size=H7.objs.size:=by simp[Heap.update]
 generalize H7.update z (Obj.mapFields λx=>x.setIfInBounds 1 (Value.bool false))=H8 at b0 a2 b1;have kk:∀c o,c≠z->H5.get? c=some o->H8.get? c=some o:=λc o q e=>(a2 _ q).trans ((a1 _ q).trans (as _ _ e));have an:=ax hz;show af #[_,BA,hQ H8 b0 (kk _ _ BG.TOz U) ?_ ?_ ?_ (by rw[b1,bx,bo]) λc o c1 c2 c3 c4 e=>kk _ _ c1 (ko c o c1 c2 c3 c4 e)];obtain⟨o,I,r⟩:=a5;show#[o,kk _ _ BG.i1z ((ad _ (Ne.symm BG.TOi1)).trans ((ac _ BG.i12).trans ((O _ (Ne.symm BG.TOi1)).trans I))),r];obtain⟨o,I,r⟩:=bc;show#[o,kk _ _ BG.i2z ((ad _ (Ne.symm BG.TOi2)).trans I),r];show (a2 _ (dY an)).trans ((a1 _ (dY an)).trans Y)
def zeD{z TI TO B U I t2:Addr}{xs:AK}{Q:PySem.Fin->AZ->Prop}(BG:ZipApart z TI TO B U I t2)(hh:A.handled=none)(F:IsZip s.heap z TI TO .none)(Z:IsPair s.heap TI (.ref B) (.ref U))(h1:ItH kb s.heap B I Y)(hx:SqH kb s.heap I xs)(ex:xs[Y]?=none)(hE:∀h' e,(∀c o,c≠z->c≠B->s.heap.get? c=some o->h'.get? c=some o)->(∃o,h'.get? e=some o/\o.cls = .type "StopIteration")->E (.ref e) { s with heap:=h' }) :
  Ag prog w A (Builtin.«zip.__next__» #[[.ref z],[]]) Q E s:=by
 change wpAny _ _ (field (.ref z) 2 >>= _) _ _ s;show aa (b7 F BA (x:=.bool false) BA ?_);change wpAny _ _ (field (.ref z) 3 >>= _) _ _ s;show aa (b7 F BA (x:=.ref TI) BA ?_);change wpAny _ _ (seqItems? (.ref TI) >>= _) _ _ s;show aa (cN Z BA ?_);change wpAny _ _ (Builtin.SmallTypes.ownedTupleIsFree (.ref z) >>= _) _ _ s;show aa ?_;change wpAny _ _ (field (.ref z) 0 >>= _) _ _ s;show aa (b7 F BA (x:=.none) BA ?_);show af ?_;change wpAny _ _ (rule "zip.__next__.owned-tuple-again" >>= _) _ _ s;show aa (dg ?_);change wpAny _ _ (field (.ref z) 4 >>= _) _ _ s;show aa (b7 F BA (x:=.ref TO) BA ?_);change wpAny _ _ (setField (.ref z) 0 .ellipsis >>= _) _ _ s;show aa (bT F BA (by simp) ?_);have J:(s.heap.update z (Obj.mapFields λx=>x.setIfInBounds 0 Value.ellipsis)).get? z=some { cls:=.type "zip",data:=.fields #v[.ellipsis,.bool false,.bool false,.ref TI,.ref TO] }:=bF _ F BA;have q:∀c,c≠z->(s.heap.update z (Obj.mapFields λx=>x.setIfInBounds 0 Value.ellipsis)).get? c=s.heap.get? c:=λc hc=>bO _ _ (Ne.symm hc);generalize s.heap.update z (Obj.mapFields λx=>x.setIfInBounds 0 Value.ellipsis)=H1 at J q;change wpAny _ _ (forIn ([(Value.ref B,0),(Value.ref U,1)]:List (Value×Nat)) ((none,()):Option PySem.Fin×Unit) _ >>= _) _ _ _;rw[en];show aa (aa ?_);show aa (wpAny_onRaise ?_);change wpAny _ _ (if (Value.bool false==Value.bool true)=true then _ else (Builtin.SmallTypes.nextOf (.ref B) >>= λx=>pure (some x))) _ _ _;rw[if_neg (by ext)];have ac:ItH kb H1 B I Y:=by obtain⟨o,O,r⟩:=h1;show#[o,(q _ BG.i1z).trans O,r]
 have ad:SqH kb H1 I xs:=by obtain⟨o,O,r⟩:=hx;show#[o,(q _ BG.l1z).trans O,r]
 show aa (zkd (s:={ s with heap:=H1 }) hh ac ad ex λH2 e eb he=>?_);have ag:=eb z _ (Ne.symm BG.i1z) J;show bT (s:={ s with heap:=H2 }) ag BA (by simp) ?_;have al:e≠z:=by grind
 show hE _ e (λc o c1 c2 e1=>?_) ?_;show (bO _ _ (Ne.symm c1)).trans (eb c o c2 ((q _ c1).trans e1));obtain⟨o,O,hc⟩:=he;show#[o,(bO _ _ (Ne.symm al)).trans O,hc]
def zhU (kb:Bool)(h:Heap)(q B:Addr):Heap:=
 ((((h.push { cls:=.type (nmI kb),data:=.fields #v[.ref q,.int 0 0] }).push { cls:=.type "tuple_iterator",data:=.fields #v[.ref B,.int 0 0] }).push { cls:=.type "tuple",data:=.seq #v[.ref h.objs.size,.ref (h.objs.size+1)] }).push { cls:=.type "tuple",data:=.seq #v[.none,.none] }).push
  { cls:=.type "zip",data:=.fields #v[.none,.bool false,.bool false,.ref (h.objs.size+2),.ref (h.objs.size+3)] }
def zcV (kb:Bool)(q B:Addr)(xs ys:AK) :
  Meets (Builtin.«zip.__new__» #[[.type "zip",.ref q,.ref B],[]]) (λ_ R s=>SqH kb s.heap q xs/\s.heap.IsTuple B ys/\R (.ok (.ret (.ref (s.heap.objs.size+4)))) { s with heap:=zhU kb s.heap q B }):=
 .of_wp λprog w A R s h=>by
  obtain⟨J,g,d,tk,O⟩:=s;obtain⟨h1,h2,h⟩:=h;have I:=sub_zip;have F:Heap.IsTuple (Shared.heap #[J.push { cls:=.type (nmI kb),data:=.fields #v[.ref q,.int 0 0] },g,d,tk,O]) B ys:=by obtain⟨o,U,r⟩:=h2;show#[o,ae _ U,r]
  wp_walk using zvd h1,c9 F
  show#[_,BA,?_];unfold zhU at h;simpa [bS,Builtin.SmallTypes.ownedTupleFields] using h
def ziX(h1:SqH kb s.heap q xs)(h2:s.heap.IsTuple I ys)(h:∀h',IsZip h' (s.heap.objs.size+4) (s.heap.objs.size+2) (s.heap.objs.size+3) .none->IsPair h' (s.heap.objs.size+2) (.ref s.heap.objs.size) (.ref (s.heap.objs.size+1))->IsPair h' (s.heap.objs.size+3) .none .none->
   ItH kb h' s.heap.objs.size q 0->h'.IsTupleIter (s.heap.objs.size+1) I 0->h'.objs.size=s.heap.objs.size+5->(∀b o,s.heap.get? b=some o->h'.get? b=some o)->Q (.ref (s.heap.objs.size+4)) { s with heap:=h' }) :
  Ag prog w A (call (.type "zip") [.ref q,.ref I]) Q E s:=by
 show callType_new F.called_zip (by ext) (F.typeCall_zip_2 _ _) (F.newCall_zip_2 _ _) (λJ=>F.args_object_init_3 J _ _) F.entry_zip_new (zcV kb q I xs ys) #[h1,h2,?_];generalize ac:({ cls:=.type (nmI kb),data:=.fields #v[.ref q,.int 0 0] }:Obj)=o0;have z1:∀o,(s.heap.push o).objs.size=s.heap.objs.size+1:=λo=>bS ..;have z2:∀o o',((s.heap.push o).push o').objs.size=s.heap.objs.size+2:=λo o'=>by rw[bS,z1]
 have z3:∀o o' B,(((s.heap.push o).push o').push B).objs.size=s.heap.objs.size+3:=λo o' B=>by rw[bS,z2]
 have z4:∀o o' B p,((((s.heap.push o).push o').push B).push p).objs.size=s.heap.objs.size+4:=λo o' B p=>by rw[bS,z3]
 have gz:(zhU kb s.heap q I).get? (s.heap.objs.size+4)=some { cls:=.type "zip",data:=.fields #v[.none,.bool false,.bool false,.ref (s.heap.objs.size+2),.ref (s.heap.objs.size+3)] }:=by unfold zhU;rw[<- z4];show ar _ BA
 have O:(zhU kb s.heap q I).get? (s.heap.objs.size+3)=some { cls:=.type "tuple",data:=.seq #v[.none,.none] }:=by unfold zhU;show ae _ ?_;rw[<- z3];show ar _ BA
 have U:(zhU kb s.heap q I).get? (s.heap.objs.size+2)=some { cls:=.type "tuple",data:=.seq #v[.ref s.heap.objs.size,.ref (s.heap.objs.size+1)] }:=by unfold zhU;show ae _ (ae _ ?_);rw[<- z2];show ar _ BA
 have Y:(zhU kb s.heap q I).get? (s.heap.objs.size+1)=some { cls:=.type "tuple_iterator",data:=.fields #v[.ref I,.int 0 0] }:=by unfold zhU;show ae _ (ae _ (ae _ ?_));rw[<- z1];show ar _ BA
 have Z:(zhU kb s.heap q I).get? s.heap.objs.size=some { cls:=.type (nmI kb),data:=.fields #v[.ref q,.int 0 0] }:=by unfold zhU;show ae _ (ae _ (ae _ (ae _ (ar _ BA))))
 show#[#[_,gz,BA],h _ gz U O #[_,Z,BA,BA] #[_,Y,BA,BA] ?_ λb o x=>?_];unfold zhU;rw[bS,z4];unfold zhU;show ae _ (ae _ (ae _ (ae _ (ae _ x))))
end
def Izg (kb:Bool)(K:AH)(a b:Addr):It:=
 #[λi H=>∃xs ys x y,SqV kb K H a xs/\SqT K H b ys/\xs[i]?=some x/\ys[i]?=some y,λi H v H'=>∃T x y,v = .ref T/\H T=none/\H'=upd H T (.tup [x,y])/\(∀xs,SqV kb K H a xs->xs[i]?=some x)/\∀ys,SqT K H b ys->ys[i]?=some y,λi H=>∃xs,SqV kb K H a xs/\xs.length<=i]
def zk8{P:Aa}{w:Ab}{K:AH}{a2:AO}{x1}(z TI TO J i2 a b:Addr)(BG:ZipApart z TI TO J i2 a b) :
  Turn P w K (.Tuple a2 x1 tpos) (Izg kb K a b) [z,TI,TO,J,i2] z (λi h=>IsZip h z TI TO .none/\IsPair h TI (.ref J) (.ref i2)/\(∃c d,IsPair h TO c d)/\ItH kb h J a i/\h.IsTupleIter i2 b i) where
 mem:=by simp
 obj:=λi h st c F=>by
  obtain⟨hz,O,⟨u,v,al⟩,⟨o1,e1,c1,d1⟩,⟨o2,e2,c2,d2⟩⟩:=st;grind
 keep:=λi h h' st k=>by obtain⟨hz,O,⟨u,v,al⟩,⟨o1,e1,r1⟩,⟨o2,e2,r2⟩⟩:=st;show#[k z (by simp) _ hz,k TI (by simp) _ O,#[u,v,k TO (by simp) _ al],#[o1,k J (by simp) _ e1,r1],#[o2,k i2 (by simp) _ e2,r2]]
 item:=by
  intro X hP hw hK F i BB s G H E I hf st hg;subst hP hw hK;obtain⟨xs,ys,x,y,a3,a4,hx,hy⟩:=hg;obtain⟨cd,bk,p1⟩:=zgy I a3;obtain⟨cl,bl,p2,co⟩:=I.tuple a4;obtain⟨u1,bo,bs⟩:=bk.get hx;obtain⟨u2,bx,b0⟩:=bl.get hy;have Z:=hf z (by simp);have ac:=hf TO (by simp);have f1:=hf J (by simp);have f2:=hf i2 (by simp);obtain⟨hz,O,⟨c0,d0,al⟩,ap,as⟩:=st;have hT:s.TypeIs (.ref z) "zip" := #[_,hz,BA];unfold pyNext
  show aa (cL (wpAny_callSpecial?_slot (name:=Str.ofString "__next__") hT cT
   (aZ cT hT fj (zc0 (A:=X.A.in1) BG hz O al ap as p1 p2 (x:=u1) (y:=u2) (by simpa using bo) (by simpa using bx) λh' gz b1 b2 b3 gT cp hk=>?_) (eO _))))
  show af #[_,BA,?_];show wpAny_letOwnedTupleGo_zip (s:={ s with heap:=h' }) gz λan a5 U=>?_;have nz:∀b' o',s.heap.get? b'=some o'->s.heap.objs.size≠b':=λb' o' e=>dY (ax e);have a7:s.heap.objs.size≠z:=nz z _ hz;have ba:s.heap.objs.size≠TO:=nz TO _ al;have b4:s.heap.objs.size≠J:=by obtain⟨o,ho,_⟩:=ap;show nz J _ ho
  have ca:s.heap.objs.size≠i2:=by obtain⟨o,ho,_⟩:=as;show nz i2 _ ho
  have bb:s.heap.objs.size≠TI:=nz TI _ O;have B:=I.hok.fresh (ai s.heap.objs.size);have kp:∀c o,c≠z->c≠TO->c≠J->c≠i2->s.heap.get? c=some o->an.get? c=some o:=λc o h1 h2 h3 Y hb=>(U.2 c h1).trans (hk c o h1 h2 h3 Y hb);have bc:an.get? s.heap.objs.size=some { cls:=.type "tuple",data:=.seq #v[u1,u2] }:=(U.2 _ a7).trans gT;have cn:∀b' u',H b'=some u'->b'≠z/\b'≠TO/\b'≠J/\b'≠i2:=λb' u' hb=>#[zc hb Z.1,zc hb ac.1,zc hb f1.1,zc hb f2.1]
  have bd:HOk X.prog X.w (upd H s.heap.objs.size (.tup [x,y])) an:=by
   intro b' u' hb;by_cases be:b'=s.heap.objs.size;subst be;rw[zh] at hb;cases hb;show#[by change 2<=sizeLine;decide,[u1,u2],.cons bs (.cons b0 .nil),_,bc,BA,#[0,BA],BA]
   ·rw[zf be] at hb;show (I.hok b' u' hb).stay (λc v ad q=>?_) (λc q=>?_) (λc ys q=>?_)
    ·have:c≠z/\c≠TO/\c≠J/\c≠i2:=by
      rcases ad with rfl | ad
      all_goals right
     right
    rw[zf (zc q B)];show q;rw[zf (zc q B)];show q
  have ag:∀c o,c∉[z,TO,J,i2]->s.heap.get? c=some o->an.get? c=some o:=λc o F e=>kp c o (λq=>F (by simp[q])) (λq=>F (by simp[q])) (λq=>F (by simp[q])) (λq=>F (by simp[q])) e
  have I1:Inv X BB G (upd H s.heap.objs.size (.tup [x,y])) { s with heap:=an,toks:=s.toks }:=by
   show Inv.step (ch:=[z,TO,J,i2]) (g':=s.gens) (d':=s.drawn) (t':=s.toks) I (λc F=>?_) (λc o h1 h2 h3 Y h5=>?_) (λc o h1 h2 h3 Y h5=>?_) (λc o h3 Y h5=>?_) (λc o h3 Y=>?_) (λc ys q=>?_) (λc o u' q=>?_) (λc ps q=>?_) (λm hm=>?_) bd I.bare;simp only[aA,bW,or_false] at F;rcases F with rfl | rfl | rfl | rfl;show#[Z.2.2.2.1,Z.2.1,Z.2.2.2.2.1,Z.2.2.2.2.2];show#[ac.2.2.2.1,ac.2.1,ac.2.2.2.2.1,ac.2.2.2.2.2];show#[f1.2.2.2.1,f1.2.1,f1.2.2.2.2.1,f1.2.2.2.2.2];show#[f2.2.2.2.1,f2.2.1,f2.2.2.2.2.1,f2.2.2.2.2.2];show ag c o h3 Y;show#[o.slots,ag c o h3 Y];rw[zf (aQ (ax Y))];show h5;show#[o,ag c o h3 Y];rw[zf (zc q B)];show q;rw[zf (zc q B)];show q;show#[#v[],by rw[zf (zc q B),et];show q];obtain⟨o,es,ep,a0,r1⟩:=hm;show#[o,es,ep,kp _ o (Ne.symm Z.2.1) (Ne.symm ac.2.1) (Ne.symm f1.2.1) (Ne.symm f2.2.1) a0,r1]
  show#[.ref s.heap.objs.size,_,I1,BA,#[s.heap.objs.size,x,y,BA,B,BA,λzs a1=>by rw[zvc I a1 a3];show hx,λzs a1=>by rw[I.tuple_inj a1 a4];show hy],#[a5,?_,#[_,_,(U.2 TO BG.TOz).trans b1],?_,?_],λc F=>?_];show kp TI _ BG.TIz BG.TITO BG.TIi1 BG.TIi2 O;obtain⟨o,ho,r⟩:=b2;show#[o,(U.2 J BG.i1z).trans ho,r];obtain⟨o,ho,r⟩:=b3;show#[o,(U.2 i2 BG.i2z).trans ho,r];simp only[aA,bW,or_false] at F;rcases F with rfl | rfl | rfl | rfl | rfl;rw[zf (Ne.symm a7)];show Z.1;rw[zf (Ne.symm bb)];show (hf _ (by simp)).1;rw[zf (Ne.symm ba)];show ac.1;rw[zf (Ne.symm b4)];show f1.1;rw[zf (Ne.symm ca)];show f2.1
 done:=by
  intro X hP hw hK F i BB s G H E I hf st hg;subst hP hw hK;obtain⟨xs,hq,hx⟩:=hg;obtain⟨cs,rv,p⟩:=zgy I hq;have Z:=hf z (by simp);have f1:=hf J (by simp);obtain⟨hz,O,⟨c0,d0,al⟩,ap,as⟩:=st;have hl:=rv.length;have hT:s.TypeIs (.ref z) "zip" := #[_,hz,BA];unfold pyNext
  show aa (cL (wpAny_callSpecial?_slot (name:=Str.ofString "__next__") hT cT
   (aZ cT hT fj (zeD (A:=X.A.in1) BG (I.ok.hd F) hz O ap p (by simp;lia) λh' e ko he=>?_) (eO _))))
  obtain⟨o,ho,cc⟩:=he;show aa (cY (T := "StopIteration") (b:=true) #[o,ho,cc] dM ?_);show af #[BA,?_];have ag:∀c o,c∉[z,J]->s.heap.get? c=some o->h'.get? c=some o:=λc o F e=>ko c o (λq=>F (by simp[q])) (λq=>F (by simp[q])) e;show Inv.step (ch:=[z,J]) (g':=s.gens) (d':=s.drawn) (t':=s.toks) I (λc F=>?_) (λc o h1 h2 h3 Y h5=>ag c o h3 Y) (λc o h1 h2 h3 Y h5=>#[o.slots,ag c o h3 Y]) (λc o h3 Y h5=>h5) (λc o h3 Y=>#[o,ag c o h3 Y]) (λc ys q=>q) (λc o u' q=>q) (λc ps q=>#[#v[],by right]) (λm hm=>?_) (λb' u' hb=>?_) I.bare;simp only[aA,bW,or_false] at F;rcases F with rfl | rfl;show#[Z.2.2.2.1,Z.2.1,Z.2.2.2.2.1,Z.2.2.2.2.2];show#[f1.2.2.2.1,f1.2.1,f1.2.2.2.2.1,f1.2.2.2.2.2];obtain⟨o,es,ep,a0,r1⟩:=hm;show#[o,es,ep,ko _ o (Ne.symm Z.2.1) (Ne.symm f1.2.1) a0,r1];show (I.hok b' u' hb).stay (λc v ad q=>?_) (λc q=>q) (λc ys q=>q)
  have:c≠z/\c≠J:=by
   rcases ad with rfl | ad;show#[zc hb Z.1,zc hb f1.1];show#[zc ad Z.1,zc ad f1.1]
  show ko c v this.1 this.2 q
 self:=λA i s Q E st h=>by obtain⟨hz,_⟩:=st;show fm hz h
def zrO (kb:Bool)(K:AH)(ta:TA):TI:=λG H R=>ta G H λvs H1=>∃a b,vs=[.ref a,.ref b]/\(∃xs,SqV kb K H1 a xs)/\(∃ys,SqT K H1 b ys)/\R (Izg kb K a b) H1
def zpW (kb:Bool){X:Cx}{F:AO}{x1}{tpos:Pos}{a b:Expr}{ta:TA}{p pos:Pos}(hg:Gl X "zip")(hm:X.mg "zip" = none)(ha:PA X [a,b] ta)(hs:starEach [a,b] X.env=[(false,eval a X.env),(false,eval b X.env)]:=by rfl)(J:starEach [b] X.env=[(false,eval b X.env)]:=by rfl) :
  PI X (.Tuple F x1 tpos) (.Call (.Name "zip" p) [a,b] [] pos) (zrO kb X.K ta):=by
 intro BB s G H R I h;show Call_ (zca I hg hm boot_zip (cg (thn (ha pos BB s G H _ I h) λus B ⟨vs,H1,I1,r1,q1⟩=>?_) (by rw[hs,J]) (by rw[J];rfl)));obtain⟨c,d,e,⟨xs,U⟩,⟨ys,Y⟩,q⟩:=q1;subst e
 cases r1 with
 | cons r rr=>
  cases rr with
  | cons r' rr=>
   cases rr;cases r;cases r';obtain⟨ap,as,p1⟩:=zgy I1 U;obtain⟨O,a0,p2,a1⟩:=I1.tuple Y;have Z:c<B.heap.objs.size:=by obtain⟨o,ho,_⟩:=id p1;show ax ho
   have ac:d<B.heap.objs.size:=by obtain⟨o,ho,_⟩:=id p2;show ax ho
   show ziX p1 (show B.heap.IsTuple d O.toArray from p2) λh' gz ad ag al an hsz hk=>?_;have I2:Inv X BB G H1 { B with heap:=h',toks:=B.toks }:=I1.kept (t':=B.toks) hk;show fm gz ?_;show#[B.heap.objs.size+4,[B.heap.objs.size+4,B.heap.objs.size+2,B.heap.objs.size+3,B.heap.objs.size,B.heap.objs.size+1],_,_,H1,BA,I2,zk8 _ _ _ _ _ c d (zipApart_new Z ac),#[gz,ad,#[_,_,ag],al,an],λe he=>?_,q];simp only[aA,bW,or_false] at he;rcases he with rfl | rfl | rfl | rfl | rfl;show I1.fpOk (by lia) (I1.hok.fresh (by lia));show I1.fpOk (by lia) (I1.hok.fresh (by lia));show I1.fpOk (by lia) (I1.hok.fresh (by lia));show I1.fpOk (ai _) (I1.hok.fresh (ai _));show I1.fpOk (by lia) (I1.hok.fresh (by lia))
def zqj (kb:Bool){X:Cx}{q:AO}{x1}{tpos:Pos}{a b:Expr}{ta:TA}{p pos:Pos}(F:Gl X "zip")(I:X.mg "zip" = none)(J:QA X [a,b] ta)(hs:starEach [a,b] X.env=[(false,eval a X.env),(false,eval b X.env)]:=by rfl)(B:starEach [b] X.env=[(false,eval b X.env)]:=by rfl) :
  QI X (.Tuple q x1 tpos) (.Call (.Name "zip" p) [a,b] [] pos) (zrO kb X.K ta):=#[zpW kb F I J.run hs B]
section
variable {X:Cx}
def zqq:V->AT->Hp->VK->Prop:=λx vs H Q=>∃l xs k y,x = .ref l/\vs=[.int k,y]/\H l=some (.lst xs)/\0<=k/\k<=xs.length/\xs.length<sizeLine/\Q .non (upd H l (.lst (xs.take k.toNat++y::xs.drop k.toNat)))
def zka:MtM X "list.insert" zqq:=by
 intro BB s G H x vs v us Q I O U h;obtain⟨l,xs,k,y,rfl,rfl,J,h0,h1,Y,q⟩:=h;cases O
 cases U with
 | cons Z rr=>
  cases rr with
  | cons r2 rn=>
   cases rn;obtain⟨t,rfl⟩:=Z;obtain⟨z,B,n,r,hl,e⟩:=I.lstM J
   have hk:k<2 ^ 63:=by
    have:(xs.length:Int)<=2 ^ 40:=by have h2:xs.length<=2 ^ 40:=aH (c7 Y) (by ext);lia
    lia
   show call_meets PySem.F.slot_list_insert #[_,e,BA] PySem.F.entry_list_insert (PySem.F.args_list_insert_3 _ _ _)
    (AutoSeq1.list_insert_list_int_val_1 l B.toArray n k t _ (by rw[fitsIndex_both (by lia) hk];decide) (by grind)) #[e,?_]
   show#[.non,_,I.lset (its':=B.take k.toNat++_::B.drop k.toNat) J e ?_ ((r.take _).append (.cons r2 (r.drop _))) ?_,BA,q];change (B.toArray.extract 0 (if k<0 then (k+(B.toArray.size:Int)).toNat else min k.toNat B.toArray.size)).push _++B.toArray.extract (if k<0 then (k+(B.toArray.size:Int)).toNat else min k.toNat B.toArray.size)=_;rw[if_neg (by lia),aY,ez (by lia)];apply fg.mp;simp;rw[bg (by simp)];grind
def znX{T:String}{name:Str}{id:String}{r:V->AT->Hp->VK->Prop}{es:AO}{to:TE}{t:TA}{apos cpos:Pos}(U:PlainAttrs T)(I:Slot T name id)(O:typeOf (.builtin id)=pure (.type "method_descriptor"))(Y:MtR X id r)(Z:QE X o to)(ha:QA X (e::es) t)(B:attributeBase o name X.env (eval o X.env)=eval o X.env:=by rfl)(J:((backTo cpos (starEach (e::es) X.env)).all (λx=>!x.1)&&(backToKw cpos (keywordEach [] X.env)).all (λx=>x.1.isSome)
   && decide ((e::es).length+([]:List Keyword).length+(if ([]:List Keyword).isEmpty then 0 else 1)<30))=true:=by rfl)(F:(apos.endLine==cpos.line)=true:=by rfl)(hs:starEach (e::es) X.env=(false,eval e X.env)::starEach es X.env:=by rfl)(q:(backTo cpos (starEach es X.env)).any (·.1)=false:=by rfl) :
  QE X (.Call (.Attribute o name apos) (e::es) [] cpos) (tBM X.K T r to t):=#[zsw U I O Y Z.run ha.run B J F hs q]
def zkJ:AT->Hp->VK->Prop:=λxs H Q=>∃ (l:Addr) (ns:AG),xs=[.ref l]/\H l=some (.lst (ns.map V.int))/\ns.length<64/\∀q:AG,q.Perm ns->q.Pairwise (·<=·)->New H (.lst (q.map V.int)) Q
theorem zhe:∀ {ns:AG} {q:AN},yb (ns.map V.int) q->IntsAre q ns
 | [],_,h=>by cases h;show .nil
 | n::ns,_,h=>by
  cases h with
  | cons B F=>
   obtain⟨t,rfl⟩:=B;show .cons _ _ (zhe F)
def zlq{ns:AG}(h:IntsAre q ns):yb (ns.map V.int) q:=by
 induction h with
 | nil=>show .nil
 | cons _ _ _ B=>show .cons #[_,BA] B
def zlB:CallQ X (.builtin "sorted") zkJ:=#[by
 intro BB s G H xs us Q I r h;obtain⟨l,ns,rfl,hl,Z,q⟩:=h;obtain⟨u,rfl,ru⟩:=zbI r;cases ru;obtain⟨an,rv,pl,hz⟩:=I.list (.of hl);obtain⟨m0,B,_⟩:=id I.loc;show PySem.W.kso_sorted (h₀:=(#[#v[],{}]:Heap)) (L:=X.env.locals) (m:=m0) (news:=zbq s.heap X.env.locals) #[B,λb o e=>?_,aL _] (λp hp=>?_) pl.isList (zhe rv) Z λBG ap J c h' F N O hi al hp hs _=>?_;have:=ax e;simp at this;obtain⟨b,o⟩:=p;have:=z5.mp hp;show#[this.2,this.1,?_]
 cases e:(#[#v[],{}]:Heap).get? b with
 | none=>rfl
 | some o'=>
  have:=ax e;simp at this
 have ac:∀b o,b≠X.env.locals->s.heap.get? b=some o->h'.get? b=some o:=λb o hb e=>(N (b,o) (av _ (z5.mpr #[hb,e]))).1;have ad:BG≠X.env.locals:=(N (BG,_) ao).2.1
 have ag:s.heap.get? BG=none:=by
  cases e:s.heap.get? BG with
  | none=>rfl
  | some o=>show absurd (O (BG,o) (z5.mpr #[ad,e])) (cZ _)
 have U:H BG=none:=by
  cases e:H BG with
  | none=>rfl
  | some o=>
   obtain⟨o',as⟩:=zci (I.hok BG o e);grind
 have Y:=(N (BG,_) ao).1;have I':=zgj I B (ys:=J.map V.int) ac F.ns ag U Y (zlq hi) (by grind) s.toks;show#[.ref BG,_,I',BA,(q J hp hs).at U]]
end
end L2
namespace L3
open L2
abbrev zuv:=Addr×Addr×List Int
abbrev imm:HO->Bool
 | .lst _=>false
 | .dK _=>false
 | .dT _=>false
 | .ext _=>false
 | _=>true
def Mt (o:HO):Prop:=imm o=false
def Mt.tup(h:Mt o):∀xs,o≠.tup xs:=λ_ e=>by subst e;cases h
def NP (o:HO):Prop:=∀BC,pnK o=some BC->xK BC (Sum.inr "at" : Key)=none
def NP.lst:NP (.lst xs):=λ_ e=>by cases e
structure Jv where
 K:(AL)->Hp->Prop
 same:∀ {A:AL} {H H':Hp},K A H->yZ H H'->K A H'
 grow:∀ {A A':AL} {H:Hp},K A' H->(∀a,A a->A' a\/∃o,H a=some o/\NP o/\Mt o)->K A H
 upd:∀ {A:AL} {H:Hp} {p:Addr} {o:HO},K A H->A p->K A (L2.upd H p o)
 frz:∀ {A:AL} {H:Hp} {p:Addr} {o o':HO},K A H->H p=some o->NP o->Mt o->K A (L2.upd H p o')
structure PN where
 pn:Option zuv
 J:Jv
def J0:Jv:=#[λ_ _=>True,λ_ _=>trivial,λ_ _=>trivial,λ_ _=>trivial,λ_ _ _ _=>trivial]
inductive W where
 | d (x:Dt) | pen (p:Addr) | dk (BC:List (Key×Dt)) | dt (BC:List (AG×Dt)) | ss (P:Aa) (w:Ab) (ks:AF) | df (BC:List (AG×Dt)) | kf (BC:List (Key×Dt)) | fl (l:AS) | ad (a:Addr) (x:Dt) | tz (BC:List (AG×Dt)) (x:Dt)
abbrev AV:=W->Nat->Prop
abbrev AU:=List W
abbrev Mo (α:Type):=Nat->(α->Nat->Prop)->Prop
abbrev Ev:=List (Option W)
abbrev AD:=Ev->Mo W
abbrev AC:=Ev->Mo AU
open Classical in
noncomputable def ya (A:AL)(H:Hp):Hp:=λb=>if A b then none else H b
section
variable {A A0:AL}{H H' BF G' T T':Hp}{a b:Addr}{o:HO}
def zJ:ya A H b=some o↔¬ A b/\H b=some o:=by
 unfold ya;grind
def zw (h:¬ A b)(e:H b=some o):ya A H b=some o:=zJ.mpr #[h,e]
def zn:yZ (ya A H) H:=λb o e=>(zJ.mp e).2
def yE (s:zA H H'):zA (ya A H) (ya A H'):=λb o e n=>zw (zJ.mp e).1 (s b o (zJ.mp e).2 n)
def x5 (s:yZ H H'):yZ (ya A H) (ya A H'):=λb o e=>zw (zJ.mp e).1 (s b o (zJ.mp e).2)
def xZ (h:∀b,A0 b->A b):yZ (ya A H) (ya A0 H):=λb o e=>zw (λz=>(zJ.mp e).1 (h b z)) (zJ.mp e).2
def yw (h:A a):ya A (upd H a o)=ya A H:=by
 funext b;unfold ya;by_cases q:A b;simp[q];have:b≠a:=λe=>q (e ▸ h);simp[q,zf this]
end
def DAt (T BF:Hp):Dt->V->Prop
 | .lst l,v=>∃a xs,v = .ref a/\T a=some (.lst xs)/\IsL BF l xs
 | .dct,v=>∃a BC,v = .ref a/\T a=some (.dK BC)/\xK BC (Sum.inr "at" : Key)=none
 | .non,v=>Is BF .non v
 | .bl b,v=>Is BF (.bl b) v
 | .int i,v=>Is BF (.int i) v
 | .str x,v=>Is BF (.str x) v
 | .tup l,v=>Is BF (.tup l) v
def DAt.is(h:DAt BF BF x v):Is BF x v:=by cases x <;> show h
def DAt.of(h:Is BF x v):DAt BF BF x v:=by cases x <;> show h
def DAt.up(t:zA T T')(g:zA BF G')(h:DAt T BF x v):DAt T' G' x v:=by
 cases x with
 | lst l=>obtain⟨a,xs,e,h1,h2⟩:=h;show#[a,xs,e,t.lst h1,h2.stay g]
 | dct=>obtain⟨a,BC,e,h1,h2⟩:=h;show#[a,BC,e,t _ _ h1 λk q=>by cases q;show h2,h2]
 | _=>show Is.stay g h
def DAt.full(t:yZ T H)(g:yZ BF H)(h:DAt T BF x v):Is H x v:=(DAt.up (zA.same t) (zA.same g) h).is
def uM {κ:Type}(BF:Hp):List (κ×Dt)->List (κ×V)->Prop
 | [],ks=>ks=[]
 | q::r,ks=>∃v s,ks=(q.1,v)::s/\Is BF q.2 v/\uM BF r s
theorem uM.stay {κ:Type}{BF G':Hp}(s:zA BF G'):∀ {BC:List (κ×Dt)} {ks:List (κ×V)},uM BF BC ks->uM G' BC ks
 | [],_,h=>h
 | q::r,ks,⟨v,t,e,h1,h2⟩=>#[v,t,e,h1.stay s,uM.stay s h2]
def SIs (BF:Hp)(ks:AF)(xs:AE):Prop:=ks=xs.map (·.1)/\(∀q∈xs,BF q.2=some (.tup (q.1.map V.int)))/\ks.Nodup
def SIs.stay{ks:AF}{xs:AE}(h:SIs BF ks xs)(s:zA BF G'):SIs G' ks xs:=#[h.1,λq B=>s _ _ (h.2.1 q B) (λ_ e=>by cases e),h.2.2]
noncomputable def zpz (a:Addr)(H:Hp):Hp:=ya (λb=>b≠a/\∃xs,H b=some (.lst xs)) H
def zik(s:zA H H'):zA (zpz a H) (zpz a H'):=λb o e n=>by obtain⟨h1,h2⟩:=zJ.mp e;have q:=s b o h2 n;show zw (λz=>h1 #[z.1,?_]) q;obtain⟨xs,B⟩:=z.2;rw[q] at B;cases B;show#[_,h2]
def WAt (T BF:Hp):W->V->Prop
 | .d x,v=>DAt T BF x v
 | .pen p,v=>v = .ref p
 | .dk BC,v=>∃a ks,v = .ref a/\T a=some (.dK ks)/\uM BF BC ks/\xK ks (Sum.inr "at" : Key)=none
 | .dt BC,v=>∃a ks,v = .ref a/\T a=some (dtO ks)/\uM BF BC ks
 | .ss P w ks,v=>∃a xs,v = .ref a/\T a=some (zhL P w a (yF xs))/\SIs BF ks xs
 | .df BC,v=>∃a ob ks,v = .ref a/\T a=some (.frz ob (dtO ks))/\uM BF BC ks
 | .kf BC,v=>∃a ob ks,v = .ref a/\T a=some (.frz ob (.dK ks))/\uM BF BC ks
 | .fl l,v=>∃a ob xs,v = .ref a/\T a=some (.frz ob (.lst xs))/\IsL BF l xs
 | .ad a x,v=>(∃b,v = .ref b)/\Is (zpz a BF) x v
 | .tz BC x,v=>∃a b ob ks y,v = .ref a/\BF a=some (.tup [.ref b,y])/\BF b=some (.frz ob (dtO ks))/\uM BF BC ks/\Is BF x y
def WAt.up(t:zA T T')(g:zA BF G')(h:WAt T BF w v):WAt T' G' w v:=by
 cases w with
 | d x=>show DAt.up t g h
 | pen p=>show h
 | dk BC=>
  obtain⟨a,ks,e,h1,h2,B⟩:=h;show#[a,ks,e,t _ _ h1 λk q=>by cases q;show B,h2.stay g,B]
 | dt BC=>
  obtain⟨a,ks,e,h1,h2⟩:=h;show#[a,ks,e,t _ _ h1 (λk q=>by cases q),h2.stay g]
 | ss P w BC=>
  obtain⟨a,ks,e,h1,h2⟩:=h;show#[a,ks,e,t _ _ h1 zhr,h2.stay g]
 | df BC=>
  obtain⟨a,ob,ks,e,h1,h2⟩:=h;show#[a,ob,ks,e,t _ _ h1 (λk q=>by cases q),h2.stay g]
 | kf BC=>
  obtain⟨a,ob,ks,e,h1,h2⟩:=h;show#[a,ob,ks,e,t _ _ h1 (λk q=>by cases q),h2.stay g]
 | fl BC=>
  obtain⟨a,ob,ks,e,h1,h2⟩:=h;show#[a,ob,ks,e,t _ _ h1 (λk q=>by cases q),h2.stay g]
 | ad a x=>show#[h.1,Is.stay (zik g) h.2]
 | tz BC x=>
  obtain⟨a,b,ob,ks,y,e,h1,h2,B,F⟩:=h;show#[a,b,ob,ks,y,e,g.tup h1,g _ _ h2 (λk q=>by cases q),B.stay g,F.stay g]
abbrev W.mut:W->Bool
 | .d (.lst _)=>true
 | .d .dct=>true
 | .dk _=>true
 | .dt _=>true
 | .ss _ _ _=>true
 | _=>false
abbrev Val (A:AL)(H:Hp)(w:W)(v:V):Prop:=WAt (ya A H) (ya A H) w v
abbrev Bor (A:AL)(H:Hp)(w:W)(v:V):Prop:=WAt H (ya A H) w v
def Val.bor(h:Val A H w v):Bor A H w v:=WAt.up (zA.same zn) (zA.refl _) h
def Val.stay(h:Val A H w v)(s:zA H H'):Val A H' w v:=WAt.up (yE s) (yE s) h
def Bor.stay(h:Bor A H w v)(s:zA H H'):Bor A H' w v:=WAt.up s (yE s) h
def Bor.is(h:Bor A H (.d x) v):Is H x v:=DAt.full (zfE _) zn h
def Val.is(h:Val A H (.d x) v):Is (ya A H) x v:=DAt.is h
def Val.of(h:Is (ya A H) x v):Val A H (.d x) v:=DAt.of h
mutual
theorem zrR {A:AL}{H:Hp}(hA:∀a xs,A a->H a≠some (.tup xs)):∀ {x:Dt} {v:V},x.noL=true->Is H x v->Is (ya A H) x v
 | .non,_,_,h=>h
 | .bl _,_,_,h=>h
 | .int _,_,_,h=>h
 | .str _,_,_,h=>h
 | .tup l,_,n,h=>by obtain⟨p,xs,e,hp,hl⟩:=h;show#[p,xs,e,zw (λz=>hA p xs z hp) hp,zb4 hA (by simpa [Dt.noL] using n) hl]
 | .lst l,_,n,_=>by simp[Dt.noL] at n
 | .dct,_,n,_=>by simp[Dt.noL] at n
theorem zb4 {A:AL}{H:Hp}(hA:∀a xs,A a->H a≠some (.tup xs)):∀ {ds:AS} {xs:AT},Dt.noLs ds=true->IsL H ds xs->IsL (ya A H) ds xs
 | [],_,_,h=>h
 | d::ds,xs,n,h=>by
  obtain⟨x,r,e,h1,h2⟩:=h;have n':(d.noL&&Dt.noLs ds)=true:=by simpa [Dt.noLs] using n
  rw[bj] at n';show#[x,r,e,zrR hA n'.1 h1,zb4 hA n'.2 h2]
end
def zaf (Pn:PN)(A:AL)(n:Nat)(H:Hp):Prop:=
 (match Pn.pn with
 | none=>True
 | some (p,c,ns)=>Pen H p c ns n/\(∀r,ns=0::r->¬ A c)/\¬ A p)/\Pn.J.K A H
def Own (A:AL)(H:Hp)(w:W)(v:V):Prop:=∃a,v = .ref a/\A a/\Bor A H w v/\w.mut=true
def Al (A:AL)(H:Hp):Prop:=∀a,A a->∃o,H a=some o/\NP o/\Mt o
structure EnvR (A:AL)(M:AR)(G:St)(H:Hp)(D:Ev):Prop where
 len:G.length=D.length
 val:∀i w,D[i]?=some (some w)->∃v,G[i]?=some (some v)/\(i∉M->Val A H w v)/\(i∈M->Own A H w v)
 dis:∀i j w u a,i∈M->j∈M->i≠j->D[i]?=some (some w)->D[j]?=some (some u)->G[i]?=some (some (.ref a))->G[j]?≠some (some (.ref a))
 al:Al A H
def EnvR.stay(E:EnvR A M G H D)(s:zA H H'):EnvR A M G H' D where
 len:=E.len
 val:=λi w e=>by obtain⟨v,h1,h2,q⟩:=E.val i w e;show#[v,h1,λz=>(h2 z).stay s,λz=>?_];obtain⟨a,e,B,F,I⟩:=q z;show#[a,e,B,F.stay s,I]
 dis:=E.dis
 al:=λa h=>by obtain⟨o,h1,h2,q⟩:=E.al a h;show#[o,s _ _ h1 h2,h2,q]
def EnvR.new(E:EnvR A M G H D)(h:H p=none):¬ A p:=λz=>by
 obtain⟨o,h1,_⟩:=E.al p z;grind
def Fr (H:Hp)(a:Addr):Prop:=∀o,H a=some o->¬ NP o
def Fr.of(h:H a=none):Fr H a:=λo e=>by rw[h] at e;cases e
def Fr.back(h:Fr H1 a)(s:zA H H1):Fr H a:=λo e n=>h o (s _ _ e n) n
def FrV (A:AL)(H H':Hp)(w:W)(v:V):Prop:=∃a,v = .ref a/\Fr H a/\WAt H' (ya (λb=>A b\/b=a) H') w v
def FrV.back(h:FrV A H1 H' w v)(s:zA H H1):FrV A H H' w v:=let ⟨a,e,f,g⟩:=h;#[a,e,f.back s,g]
def FrV.less(h:FrV A H H' w v)(s:∀a,A0 a->A a):FrV A0 H H' w v:=let ⟨a,e,f,g⟩:=h;#[a,e,f,WAt.up (zA.refl _) (zA.same (xZ λb z=>z.elim (λz=>.inl (s b z)) .inr)) g]
def EnvR.newF(E:EnvR A M G H D)(h:Fr H p):¬ A p:=λz=>by obtain⟨o,h1,h2,_⟩:=E.al p z;show h o h1 h2
def x4(s:zA H H')(n:Fr H p):zA (ya A H) (ya (λb=>A b\/b=p) H'):=λb o e q=>by obtain⟨h1,h2⟩:=zJ.mp e;show zw (λz=>z.elim h1 λz=>by subst z;show n o h2 q) (s b o h2 q)
structure Go (Pn:PN)(A:AL)(H:Hp)(n:Nat)(H':Hp):Prop where
 st:zA H H'
 pn:zaf Pn A n H'
def Go.trans(a:Go Pn A H n H1)(b:Go Pn A H1 m H2):Go Pn A H m H2:=#[a.st.trans b.st,b.pn]
structure RE (Pn:PN)(M:AR)(fr:Bool)(te:TE)(f:AD):Prop where
 run:∀A G H D n Q R,EnvR A M G H D->zaf Pn A n H->f D n R->(∀w m v H',R w m->Val A H' w v->Go Pn A H m H'->(fr=true->FrV A H H' w v)->Q v H')->te G H Q
structure RB (Pn:PN)(M:AR)(te:TE)(f:AD):Prop where
 run:∀A G H D n Q R,EnvR A M G H D->zaf Pn A n H->f D n R->(∀w m v H',R w m->Bor A H' w v->Go Pn A H m H'->Q v H')->te G H Q
structure RT (Pn:PN)(M:AR)(te:TT)(f:Ev->Mo Bool):Prop where
 run:∀A G H D n Q R,EnvR A M G H D->zaf Pn A n H->f D n R->(∀b m H',R b m->Go Pn A H m H'->Q b H')->te G H Q
def zrg (A:AL)(H:Hp):AU->AT->Prop
 | [],vs=>vs=[]
 | w::q,vs=>∃v r,vs=v::r/\Bor A H w v/\zrg A H q r
def zbJ (A:AL)(H:Hp):AU->AT->Prop
 | [],vs=>vs=[]
 | w::q,vs=>∃v r,vs=v::r/\Val A H w v/\zbJ A H q r
theorem zbJ.bor:∀ {q:AU} {vs:AT},zbJ A H q vs->zrg A H q vs
 | [],_,h=>h
 | _::_,_,⟨v,r,e,h1,h2⟩=>#[v,r,e,h1.bor,zbJ.bor h2]
structure RA (Pn:PN)(M:AR)(ta:TA)(f:AC):Prop where
 run:∀A G H D n Q R,EnvR A M G H D->zaf Pn A n H->f D n R->(∀ws m vs H',R ws m->zbJ A H' ws vs->Go Pn A H m H'->Q vs H')->ta G H Q
structure RAB (Pn:PN)(M:AR)(ta:TA)(f:AC):Prop where
 run:∀A G H D n Q R,EnvR A M G H D->zaf Pn A n H->f D n R->(∀ws m vs H',R ws m->zrg A H' ws vs->Go Pn A H m H'->Q vs H')->ta G H Q
structure Kt where
 nx:Ev->Nat->Prop
 rt:AV
 bk:Ev->Nat->Prop:=λ_ _=>False
 ct:Ev->Nat->Prop:=λ_ _=>False
abbrev Ms:=Ev->Nat->Kt->Prop
def StX (q:AL)(H0 H:Hp):Prop:=∀b o,H0 b=some o->NP o->¬ q b->H b=some o
def StX.of(s:zA H0 H):StX q H0 H:=λb o e n _=>s b o e n
def StX.stay(s:StX (λ_=>False) H0 H):zA H0 H:=λb o e n=>s b o e n λz=>z
structure Frm (A0:AL)(H0:Hp)(ca:AL)(A:AL)(H:Hp):Prop where
 sub:∀a,A0 a->A a
 new:∀a,A a->A0 a\/Fr H0 a\/ca a
 st:StX ca H0 H
 al:Al A0 H0
 cn:∀a,ca a->¬ A0 a
 cs:∀a,ca a->∃o,H a=some o/\NP o
def Frm.back(f:Frm A0 H0 B A H)(h:Fr H a)(n:¬ A a):Fr H0 a:=λo e q=>h o (f.st a o e q λz=>let ⟨o2,e2,n2⟩:=f.cs a z;h o2 e2 n2) q
structure Bs where
 ca:AL:=λ_=>False
 A0:AL
 H0:Hp
 G0:Hp
 σ0:St
def NoL (BF:Hp):Prop:=∀a xs,BF a≠some (.lst xs)
structure At3 (Pn:PN)(B:Bs)(S M:AR)(A:AL)(G:St)(H:Hp)(D:Ev)(n:Nat):Prop where
 env:EnvR A M G H D
 frm:Frm B.A0 B.H0 B.ca A H
 pn:zaf Pn A n H
 prot:zA B.G0 (ya A H)
 fix:(∀i∈S,G[i]?=B.σ0[i]?)/\(9999∈S->NoL B.G0/\NoL B.H0)
 mine:∀i w a,i∈M->D[i]?=some (some w)->G[i]?=some (some (.ref a))->Fr B.H0 a\/B.ca a
structure KOk (Pn:PN)(B:Bs)(S M:AR)(fr:Bool)(k:Kt)(BG:Ends):Prop where
 nx:∀A G H D n,At3 Pn B S M A G H D n->k.nx D n->BG.nx G H
 bk:∀A G H D n,At3 Pn B S M A G H D n->k.bk D n->BG.bk G H
 ct:∀A G H D n,At3 Pn B S M A G H D n->k.ct D n->BG.ct G H
 fc:∀a,¬ B.ca a
 rt:∀w n v H,Val B.A0 H w v->StX B.ca B.H0 H->zaf Pn B.A0 n H->(fr=true->FrV B.A0 B.H0 H w v)->k.rt w n->BG.rt v H
structure RS (Pn:PN)(S M:AR)(fr:Bool)(ts:TS)(fs:Ms):Prop where
 run:∀B A G H D n k BG,At3 Pn B S M A G H D n->KOk Pn B S M fr k BG->fs D n k->ts BG G H
structure RG (S M:AR)(g:TG)(mg:W->Ev->(Ev->Prop)->Prop):Prop where
 run:∀A G H D v w Q R,EnvR A M G H D->Val A H w v->mg w D R->(∀ σ' ρ',R ρ'->EnvR A M σ' H ρ'->(∀i∈S,σ'[i]?=G[i]?/\ρ'[i]?=D[i]?)->Q σ' H)->g v G H Q
structure RGs (S M:AR)(g:TGs)(mg:AS->Ev->(Ev->Prop)->Prop):Prop where
 run:∀A G H D vs ds Q R,EnvR A M G H D->IsL (ya A H) ds vs->mg ds D R->(∀ σ' ρ',R ρ'->EnvR A M σ' H ρ'->(∀i∈S,σ'[i]?=G[i]?/\ρ'[i]?=D[i]?)->Q σ' H)->g vs G H Q
structure ItV (ow:Bool)(A:AL)(H:Hp)(J:It)(l:AU):Prop where
 one:∀i w A2 H2,l[i]?=some w->zA (ya A H) (ya A2 H2)->(ow=true->zA H H2)->(∀p,H2 p=none->¬ A2 p)->J.go i H2/\∀x H3,J.yld i H2 x H3->yZ H2 H3/\Val A2 H3 w x
 stop:∀A2 H2,zA (ya A H) (ya A2 H2)->(ow=true->zA H H2)->J.stop l.length H2
structure RI (Pn:PN)(M:AR)(ow:Bool)(wi:TI)(f:AC):Prop where
 run:∀A G H D n Q R,EnvR A M G H D->zaf Pn A n H->f D n R->(∀l m J H',R l m->ItV ow A H' J l->Go Pn A H m H'->Q J H')->wi G H Q
def RE.rb(h:RE Pn M fr te f):RB Pn M te f:=
 #[λA G H D n Q R E P q k=>h.run A G H D n Q R E P q λw m v H' r a g _=>k w m v H' r a.bor g]
def RA.rab(h:RA Pn M te f):RAB Pn M te f:=
 #[λA G H D n Q R E P q k=>h.run A G H D n Q R E P q λw m v H' r a g=>k w m v H' r a.bor g]
def zaf.same(h:zaf Pn A n H)(s:yZ H H'):zaf Pn A n H':=by
 show#[?_,Pn.J.same h.2 s];have h:=h.1;split at h;trivial;show#[h.1.same s,h.2]
def Go.same(h:zaf Pn A n H)(s:yZ H H'):Go Pn A H n H':=#[zA.same s,h.same s]
def Go.refl(h:zaf Pn A n H):Go Pn A H n H:=#[zA.refl _,h]
structure JE (X:Cx)(Pn:PN)(M:AR)(fr:Bool)(e:Expr)(f:AD):Prop where
 ex:∃te,QE X e te/\RE Pn M fr te f
structure JB (X:Cx)(Pn:PN)(M:AR)(e:Expr)(f:AD):Prop where
 ex:∃te,QE X e te/\RB Pn M te f
structure JT (X:Cx)(Pn:PN)(M:AR)(e:Expr)(f:Ev->Mo Bool):Prop where
 ex:∃te,QT X e te/\RT Pn M te f
structure JW (X:Cx)(Pn:PN)(M:AR)(e:Expr)(f:Ev->Mo Bool):Prop where
 ex:∃te,QW X e te/\RT Pn M te f
structure JA (X:Cx)(Pn:PN)(M:AR)(es:AO)(f:AC):Prop where
 ex:∃te,QA X es te/\RA Pn M te f
structure JAB (X:Cx)(Pn:PN)(M:AR)(es:AO)(f:AC):Prop where
 ex:∃te,QA X es te/\RAB Pn M te f
structure JO (X:Cx)(Pn:PN)(M:AR)(e:Option Expr)(f:Ev->Mo AQ):Prop where
 ex:∃t,QO X e t/\∀A G H D n Q R,EnvR A M G H D->zaf Pn A n H->f D n R->(∀o m H',R o m->Go Pn A H m H'->Q o H')->t G H Q
section
variable {X:Cx}{Pn:PN}{M:AR}{fr:Bool}{e a b c:Expr}{es:AO}{f fa fb fc:AD}{pos p:Pos}
def zr9 (i:Nat):AD:=λD n Q=>∃w,D[i]?=some (some w)/\Q w n
abbrev mC (w:W):AD:=λ_ n Q=>Q w n
abbrev zrd (F:W->W->Mo W) (fa fb:AD):AD:=λD n Q=>fa D n λx q=>fb D q λy B=>F x y B Q
abbrev mUn (F:W->Mo W) (fa:AD):AD:=λD n Q=>fa D n λx q=>F x q Q
def znL (fa:AD):Ev->Mo Bool:=λD n Q=>fa D n λx q=>∃c,x = .d (.bl c)/\Q c q
def zud (t u:Ev->Mo Bool):Ev->Mo Bool:=λD n Q=>t D n λc q=>if c=true then u D q Q else Q false q
def mOr (t u:Ev->Mo Bool):Ev->Mo Bool:=λD n Q=>t D n λc q=>if c=true then Q true q else u D q Q
def zvv (t:Ev->Mo Bool):Ev->Mo Bool:=λD n Q=>t D n λc q=>Q (!c) q
def zpf (fa fb:AD):AD:=λD n Q=>fa D n λx q=>∃c,x = .d (.bl c)/\if c=true then fb D q Q else Q (.d (.bl false)) q
abbrev mNil:AC:=λ_ n Q=>Q [] n
abbrev zr6 (fa:AD) (fr:AC):AC:=λD n Q=>fa D n λx q=>fr D q λxs B=>Q (x::xs) B
abbrev zvl (F:AU->Mo W) (fa:AC):AD:=λD n Q=>fa D n λxs q=>F xs q Q
def JE.bo (h:JE X Pn M fr e f):JB X Pn M e f:=let ⟨te,h1,h2⟩:=h.ex;#[te,h1,h2.rb]
def JA.bo {f:AC}(h:JA X Pn M es f):JAB X Pn M es f:=let ⟨te,h1,h2⟩:=h.ex;#[te,h1,h2.rab]
def zs9(hi:i∉M):RE Pn M false (za6 i) (zr9 i):=#[λA G H D n Q R E P q k=>by obtain⟨w,e,r⟩:=q;obtain⟨v,h1,h2,_⟩:=E.val i w e;show#[v,h1,k w n v H r (h2 hi) (Go.refl P) λz=>by cases z]]
def zs4:RB Pn M (za6 i) (zr9 i):=#[λA G H D n Q R E P q k=>by
 obtain⟨w,e,r⟩:=q;obtain⟨v,h1,h2,B⟩:=E.val i w e;show#[v,h1,k w n v H r ?_ (Go.refl P)];by_cases hi:i∈M;obtain⟨a,_,_,h,_⟩:=B hi;show h;show (h2 hi).bor]
def zvg (i:Nat){x:Str}(hi:i∉M:=by ext)(B:X.N[i]?=some x:=by rfl)(F:Vis X.env.scope x:=by fail"v")(I:Ah x:=by ext)
  (q:(x==("__classdict__" : Str))=false:=by ext):JE X Pn M false (.Name x pos) (zr9 i):=#[_,qv i B F I q,zs9 hi]
def zve(i:Nat)(B:X.N[i]?=some x:=by rfl)(F:Vis X.env.scope x:=by fail"v")(I:Ah x:=by ext)(q:(x==("__classdict__" : Str))=false:=by ext):JB X Pn M (.Name x pos) (zr9 i):=#[_,qv i B F I q,zs4]
def zuo(h:∀BF,Is BF x v):RE Pn M false (tC v) (mC (.d x)):=#[λA G H D n Q R E P q k=>k _ n v H q (Val.of (h _)) (Go.refl P) λz=>by cases z]
def zo{i:Int}:JE X Pn M false (.Constant (.int i) j pos) (mC (.d (.int i))):=#[_,yA,zuo λ_=>rfl]
def zaH:JE X Pn M false (.Constant (.bool k) j pos) (mC (.d (.bl k))):=#[_,zp7,zuo λ_=>rfl]
def zl3:JE X Pn M false (.Constant .none j pos) (mC (.d .non)):=#[_,zsX,zuo λ_=>rfl]
def zdO:JE X Pn M false (.Constant (.str x) j pos) (mC (.d (.str x))):=#[_,xx,zuo λ_=>rfl]
def Al.new {A:AL}{H:Hp}(h:Al A H){p:Addr}(e:H p=none):¬ A p:=λz=>by
 obtain⟨o,h1,_⟩:=h p z;grind
def Al.stay(h:Al A H)(s:zA H H'):Al A H':=λa z=>by obtain⟨o,h1,h2,q⟩:=h a z;show#[o,s _ _ h1 h2,h2,q]
def Al.noT(h:Al A H):∀a xs,A a->H a≠some (.tup xs):=λa xs z e=>by
 obtain⟨o,h1,_,q⟩:=h a z;have:=q.tup;grind
def Al.noT' {A:AL}{H H':Hp}(h:Al A H)(s:zA H H'){p:Addr}{xs:AT}(e:H' p=some (.tup xs)):¬ A p:=λz=>(h.stay s).noT p xs z e
structure F2 (Pn:PN)(fr:Bool)(r:R2)(F:W->W->Mo W):Prop where
 run:∀A H x y wx wy n Q R,Al A H->Bor A H wx x->Bor A H wy y->zaf Pn A n H->F wx wy n R->(∀w m v H',R w m->Val A H' w v->Go Pn A H m H'->(fr=true->FrV A H H' w v)->Q v H')->r x y H Q
structure F1 (Pn:PN)(fr:Bool)(r:V->Hp->VK->Prop)(F:W->Mo W):Prop where
 run:∀A H x wx n Q R,Al A H->Bor A H wx x->zaf Pn A n H->F wx n R->(∀w m v H',R w m->Val A H' w v->Go Pn A H m H'->(fr=true->FrV A H H' w v)->Q v H')->r x H Q
structure FL (Pn:PN)(fr:Bool)(r:AT->Hp->VK->Prop)(F:AU->Mo W):Prop where
 run:∀A H xs ws n Q R,Al A H->zrg A H ws xs->zaf Pn A n H->F ws n R->(∀w m v H',R w m->Val A H' w v->Go Pn A H m H'->(fr=true->FrV A H H' w v)->Q v H')->r xs H Q
def zmT(B:F2 Pn fr r F)(I:RB Pn M ta fa)(J:RB Pn M tb fb):RE Pn M fr (tOp r ta tb) (zrd F fa fb):=#[λA G H D n Q R E P O k=>by show I.run A G H D n _ _ E P O λx U Y H1 Z b1 q=>?_;show J.run A G H1 D U _ _ (E.stay q.st) q.pn Z λy n2 v2 H2 r2 b2 g2=>?_;have g:=q.trans g2;show B.run A H2 Y v2 x y n2 _ _ (E.stay g.st).al (b1.stay g2.st) b2 g2.pn r2 λw m v H' h1 h2 h3 h4=>k w m v H' h1 h2 (g.trans h3) λz=>(h4 z).back g.st]
def zv0(B:F1 Pn fr r F)(I:RB Pn M ta fa):RE Pn M fr (tUn r ta) (mUn F fa):=#[λA G H D n Q R E P J k=>by show I.run A G H D n _ _ E P J λx O U H1 Y Z q=>?_;show B.run A H1 U x O _ _ (E.stay q.st).al Z q.pn Y λw m v H' h1 h2 h3 h4=>k w m v H' h1 h2 (q.trans h3) λz=>(h4 z).back q.st]
def zs5 {r:AT->Hp->VK->Prop}{F:AU->Mo W}{ta:TA}{fa:AC}(B:FL Pn fr r F)(I:RAB Pn M ta fa):RE Pn M fr (tCB r ta) (zvl F fa):=#[λA G H D n Q R E P J k=>by show I.run A G H D n _ _ E P J λx O U H1 Y Z q=>?_;show B.run A H1 U x O _ _ (E.stay q.st).al Z q.pn Y λw m v H' h1 h2 h3 h4=>k w m v H' h1 h2 (q.trans h3) λz=>(h4 z).back q.st]
def zas(B:OpQ X (binaryOp q) r)(I:F2 Pn fr r F)(J:JB X Pn M a fa)(O:JB X Pn M b fb):JE X Pn M fr (.BinOp a q b pos) (zrd F fa fb):=by obtain⟨ta,U,ra⟩:=J.ex;obtain⟨tb,Y,rb⟩:=O.ex;show#[_,yJ B U Y,zmT I ra rb]
def j_un(B:UnQ X (unaryOp q) r)(I:F1 Pn fr r F)(J:JB X Pn M a fa):JE X Pn M fr (.UnaryOp q a pos) (mUn F fa):=by obtain⟨ta,O,ra⟩:=J.ex;show#[_,zvT B O,zv0 I ra]
def zgo(B:OpQ X (compareOp q) r)(I:F2 Pn fr r F)(J:JB X Pn M a fa)(O:JB X Pn M b fb)(U:behindInMarks q b=false):JE X Pn M fr (.Compare a [q] [b] pos) (zrd F fa fb):=by obtain⟨ta,Y,ra⟩:=J.ex;obtain⟨tb,Z,rb⟩:=O.ex;show#[_,zp9 B Y Z U,zmT I ra rb]
def zn5(h:RB Pn M ta fa):RT Pn M (zqT ta) (znL fa):=#[λA G H D n Q R E P B k=>by show h.run A G H D n _ _ E P B  ?_;rintro x F I H1 ⟨c,e,r⟩ J O;subst e;have q:I = .bl c:=J;show#[c,q,k c F H1 r O]]
def zC(B:OpQ X (compareOp q) r)(I:F2 Pn fr r F)(J:JB X Pn M a fa)(O:JB X Pn M b fb)(U:behindInMarks q b=false):JT X Pn M (.Compare a [q] [b] pos) (znL (zrd F fa fb)):=by obtain⟨ta,Y,ra⟩:=J.ex;obtain⟨tb,Z,rb⟩:=O.ex;show#[_,u7 B Y Z U,zn5 (zmT I ra rb).rb]
def uR (h:JB X Pn M e f)(he:∀whole,isTrue e X.env whole=(do let v <- whole;standAt e.pos;holding [v] (truthy v)):=by intro _;rfl):JT X Pn M e (znL f):=by obtain⟨ta,qa,ra⟩:=h.ex;show#[_,zn0 qa he,zn5 ra]
def uQ(h:JT X Pn M a t):JT X Pn M (.UnaryOp .Not a pos) (zvv t):=by obtain⟨ta,q,ra⟩:=h.ex;show#[_,zs0 q,#[λA G H D n Q R E P B k=>ra.run A G H D n _ _ E P B λb m H' r g=>k _ m H' r g]]
def x6(B:q = .And\/q = .Or)(h:JT X Pn M a t):JW X Pn M (.BoolOp q [a] pos) t:=by
 obtain⟨ta,F,ra⟩:=h.ex;rcases B with rfl | rfl;show#[_,zgC F,ra];show#[_,zs2 F,ra]
def zti(h:RT Pn M t q)(h':RT Pn M u B):RT Pn M (zv4 t u) (zud q B):=#[λA G H D n Q R E P F k=>by
 show h.run A G H D n _ _ E P F λc m H1 r g=>?_
 cases c with
 | true=>show h'.run A G H1 D m _ _ (E.stay g.st) g.pn (by simpa using r) λb I H' J g'=>k b I H' J (g.trans g')
 | false=>show k false m H1 (by simpa using r) g]
def zv2(h:RT Pn M t q)(h':RT Pn M u B):RT Pn M (tOr t u) (mOr q B):=#[λA G H D n Q R E P F k=>by
 show h.run A G H D n _ _ E P F λc m H1 r g=>?_
 cases c with
 | false=>show h'.run A G H1 D m _ _ (E.stay g.st) g.pn (by simpa using r) λb I H' J g'=>k b I H' J (g.trans g')
 | true=>show k true m H1 (by simpa using r) g]
def zfd {zz:AO}{t u:Ev->Mo Bool}(h:JT X Pn M a t)(h':JW X Pn M (.BoolOp .And (b::zz) pos) u):JW X Pn M (.BoolOp .And (a::b::zz) pos) (zud t u):=by obtain⟨ta,q,ra⟩:=h.ex;obtain⟨tb,B,rb⟩:=h'.ex;show#[_,zhE q B,zti ra rb]
def zdR {zz:AO}{t u:Ev->Mo Bool}(h:JT X Pn M a t)(h':JW X Pn M (.BoolOp .Or (b::zz) pos) u):JW X Pn M (.BoolOp .Or (a::b::zz) pos) (mOr t u):=by obtain⟨ta,q,ra⟩:=h.ex;obtain⟨tb,B,rb⟩:=h'.ex;show#[_,zvV q B,zv2 ra rb]
def JW.t {t:Ev->Mo Bool}(h:JW X Pn M e t):JT X Pn M e t:=let ⟨te,h1,h2⟩:=h.ex;#[te,h1.pt,h2]
def zl4(h:JE X Pn M false a fa):JE X Pn M false (.BoolOp q [a] pos) fa:=let ⟨te,h1,h2⟩:=h.ex;#[te,zsZ h1,h2]
def zjJ {zz:AO}(h:JB X Pn M a fa)(h':JE X Pn M false (.BoolOp .And (b::zz) pos) fb):JE X Pn M false (.BoolOp .And (a::b::zz) pos) (zpf fa fb):=by
 obtain⟨ta,B,ra⟩:=h.ex;obtain⟨tb,F,rb⟩:=h'.ex;show#[_,zsV B F,#[λA G H D n Q R E P I k=>?_]];show ra.run A G H D n _ _ E P I  ?_;rintro x m v H1 ⟨c,J,r⟩ O g;subst J;have q:v = .bl c:=O;show#[c,q,?_]
 cases c with
 | true=>
  rw[if_pos rfl] at r ⊢;show rb.run A G H1 D m _ _ (E.stay g.st) g.pn r λw U Y H' Z a' g' _=>k w U Y H' Z a' (g.trans g') λz=>by cases z
 | false=>
  rw[if_neg (by ext)] at r ⊢;show k _ m _ H1 r (Val.of BA) g λz=>by cases z
def zpo (fa:AD):AD:=λD n Q=>fa D n λx q=>∃c,x = .d (.bl c)/\Q (.d (.bl (!c))) q
def zvf (h:JB X Pn M a fa):JE X Pn M false (.UnaryOp .Not a pos) (zpo fa):=by obtain⟨ta,B,ra⟩:=h.ex;show#[_,zsY B,#[λA G H D n Q R E P F k=>?_]];show ra.run A G H D n _ _ E P F  ?_;rintro x m v H1 ⟨c,I,r⟩ J g;subst I;have q:v = .bl c:=J;show#[c,q,k _ m _ H1 r (Val.of BA) g λz=>by cases z]
abbrev isNon:W->Bool
 | .d .non=>true
 | _=>false
def Bor.isNon(h:Bor A H w v):decide (v = .non)=isNon w:=by
 cases w with
 | d x=>
  cases x with
  | non=>have:v = .non:=h;subst this;rfl
  | bl c=>have:v = .bl c:=h;subst this;rfl
  | int c=>have:v = .int c:=h;subst this;rfl
  | str c=>have:v = .str c:=h;subst this;rfl
  | tup l=>obtain⟨a,_,rfl,_⟩:=h;rfl
  | lst l=>obtain⟨a,_,rfl,_⟩:=h;rfl
  | dct=>obtain⟨a,_,rfl,_⟩:=h;rfl
 | pen p=>have:v = .ref p:=h;subst this;rfl
 | dk k=>obtain⟨a,_,rfl,_⟩:=h;rfl
 | dt k=>obtain⟨a,_,rfl,_⟩:=h;rfl
 | ss P w k=>obtain⟨a,_,rfl,_⟩:=h;rfl
 | df k=>obtain⟨a,_,_,rfl,_⟩:=h;rfl
 | kf k=>obtain⟨a,_,_,rfl,_⟩:=h;rfl
 | fl k=>obtain⟨a,_,_,rfl,_⟩:=h;rfl
 | ad a x=>obtain⟨⟨b,rfl⟩,_⟩:=h;rfl
 | tz k x=>obtain⟨a,_,_,_,_,rfl,_⟩:=h;rfl
abbrev mIsN (fa:AD):AD:=λD n Q=>fa D n λx q=>Q (.d (.bl (isNon x))) q
abbrev zr7 (fa:AD):AD:=λD n Q=>fa D n λx q=>Q (.d (.bl (!isNon x))) q
def zs8(h:RB Pn M ta fa):RE Pn M false (zv8 ta) (mIsN fa):=#[λA G H D n Q R E P q k=>by show h.run A G H D n _ _ E P q λx m v H1 r B g=>?_;show k _ m _ H1 r (Val.of (by rw[B.isNon];rfl)) g λz=>by cases z]
def zqs(h:RB Pn M ta fa):RE Pn M false (zqR ta) (zr7 fa):=#[λA G H D n Q R E P q k=>by show h.run A G H D n _ _ E P q λx m v H1 r B g=>?_;show k _ m _ H1 r (Val.of (by rw[B.isNon];rfl)) g λz=>by cases z]
def zqA(h:RB Pn M ta fa):RT Pn M (tB ta) (znL fa):=#[λA G H D n Q R E P B k=>by show h.run A G H D n _ _ E P B  ?_;rintro x F I H1 ⟨c,e,r⟩ J O;subst e;have q:I = .bl c:=J;show#[c,q,k c F H1 r O]]
def zrZ(h:JB X Pn M a fa):JT X Pn M (.Compare a [.Is] [.Constant .none j pos'] pos) (znL (mIsN fa)):=by obtain⟨ta,q,ra⟩:=h.ex;show#[_,zhD (znW q),zqA (zs8 ra).rb]
def zo8(h:JB X Pn M a fa):JT X Pn M (.Compare a [.IsNot] [.Constant .none j pos'] pos) (znL (zr7 fa)):=by obtain⟨ta,q,ra⟩:=h.ex;show#[_,zhD (zp6 q),zqA (zqs ra).rb]
def ze:JA X Pn M [] mNil:=#[_,yM,#[λA G H D n Q R E P q k=>k [] n [] H q BA (Go.refl P)]]
def za(B:JE X Pn M fr e f)(F:JA X Pn M es fs)(hs:starEach (e::es) X.env=(false,eval e X.env)::starEach es X.env:=by rfl):JA X Pn M (e::es) (zr6 f fs):=by obtain⟨ta,I,ra⟩:=B.ex;obtain⟨tb,J,rb⟩:=F.ex;show#[_,zL I J hs,#[λA G H D n Q R E P O k=>?_]];show ra.run A G H D n _ _ E P O λx U Y H1 Z b1 q _=>?_;show rb.run A G H1 D U _ _ (E.stay q.st) q.pn Z λxs n2 vs H2 r2 b2 g2=>k _ n2 _ H2 r2 #[Y,vs,BA,b1.stay g2.st,b2] (q.trans g2)
def zj:JAB X Pn M [] mNil:=ze.bo
def zi(B:JB X Pn M e f)(F:JAB X Pn M es fs)(hs:starEach (e::es) X.env=(false,eval e X.env)::starEach es X.env:=by rfl):JAB X Pn M (e::es) (zr6 f fs):=by obtain⟨ta,I,ra⟩:=B.ex;obtain⟨tb,J,rb⟩:=F.ex;show#[_,zL I J hs,#[λA G H D n Q R E P O k=>?_]];show ra.run A G H D n _ _ E P O λx U Y H1 Z b1 q=>?_;show rb.run A G H1 D U _ _ (E.stay q.st) q.pn Z λxs n2 vs H2 r2 b2 g2=>k _ n2 _ H2 r2 #[Y,vs,BA,b1.stay g2.st,b2] (q.trans g2)
def lim:Nat:=500000
def zc7(h:n<=lim):n<=sizeLine:=aH h (by ext)
def zhl(h:n<=lim):n<sizeLine:=a6 h (by ext)
def dts:AU->Option AS
 | []=>some []
 | .d x::r=>(dts r).map (x::·)
 | _::_=>none
theorem zbJ.dts:∀ {q:AU} {vs:AT} {l:AS},zbJ A H q vs->dts q=some l->IsL (ya A H) l vs
 | [],vs,l,h,e=>by cases e;show h
 | .d x::q,vs,l,⟨v,r,B,h1,h2⟩,e=>by obtain⟨l',F,rfl⟩:=aJ.mp e;show#[v,r,B,h1.is,zbJ.dts h2 F]
 | .pen _::_,_,_,_,e=>by cases e
 | .dk _::_,_,_,_,e=>by cases e
 | .dt _::_,_,_,_,e=>by cases e
 | .ss _ _ _::_,_,_,_,e=>by cases e
 | .df _::_,_,_,_,e=>by cases e
 | .kf _::_,_,_,_,e=>by cases e
 | .fl _::_,_,_,_,e=>by cases e
 | .ad _ _::_,_,_,_,e=>by cases e
 | .tz _ _::_,_,_,_,e=>by cases e
theorem zbJ.len:∀ {q:AU} {vs:AT},zbJ A H q vs->vs.length=q.length
 | [],_,h=>by cases h;rfl
 | _::q,vs,⟨v,r,e,_,h2⟩=>by rw[e,aK,aK,zbJ.len h2]
def zgR {A:AL}{H H':Hp}{p:Addr}{xs:AT}{l:AS}(q:IsL (ya A H) l xs)(s:zA H H')(n:¬ A p)(g:H' p=some (.tup xs)):Val A H' (.d (.tup l)) (.ref p):=
 Val.of #[p,xs,BA,zw n g,q.stay (yE s)]
def uA {A:AL}{H H':Hp}{p:Addr}{xs:AT}{l:AS}(q:IsL (ya A H) l xs)(s:zA H H')(n:¬ A p)(g:H' p=some (.lst xs)):Val A H' (.d (.lst l)) (.ref p):=
 Val.of #[p,xs,BA,zw n g,q.stay (yE s)]
def uj {A:AL}{H H':Hp}{p:Addr}{xs:AT}{l:AS}(q:IsL (ya A H) l xs)(s:yZ H H')(n:H p=none)(g:H' p=some (.lst xs)):FrV A H H' (.d (.lst l)) (.ref p):=
 #[p,BA,.of n,p,xs,BA,g,q.stay (x4 (zA.same s) (.of n))]
abbrev zuj:Nat->AU->(AS->Prop)->Prop
 | _,[],P=>P []
 | k+1,.d x::r,P=>zuj k r λl=>P (x::l)
 | _,_,_=>False
theorem zea:∀ {k:Nat} {l:AU} {P:AS->Prop},zuj k l P->∃ds,dts l=some ds/\P ds/\l.length<=k
 | 0,[],P,h=>#[[],BA,h,aL _]
 | k+1,[],P,h=>#[[],BA,h,aL _]
 | 0,.d x::r,P,h=>h.elim
 | k+1,.d x::r,P,h=>by obtain⟨ds,e,h2,q⟩:=zea (k:=k) (l:=r) (P:=λl=>P (x::l)) h;show#[x::ds,by simp[dts,e],h2,dR q]
 | 0,.pen _::r,P,h=>h.elim
 | k+1,.pen _::r,P,h=>h.elim
 | 0,.dk _::r,P,h=>h.elim
 | k+1,.dk _::r,P,h=>h.elim
 | 0,.dt _::r,P,h=>h.elim
 | 0,.ss _ _ _::r,P,h=>h.elim
 | 0,.df _::r,P,h=>h.elim
 | 0,.kf _::r,P,h=>h.elim
 | 0,.fl _::r,P,h=>h.elim
 | 0,.ad _ _::r,P,h=>h.elim
 | 0,.tz _ _::r,P,h=>h.elim
 | k+1,.dt _::r,P,h=>h.elim
 | k+1,.ss _ _ _::r,P,h=>h.elim
 | k+1,.df _::r,P,h=>h.elim
 | k+1,.kf _::r,P,h=>h.elim
 | k+1,.fl _::r,P,h=>h.elim
 | k+1,.ad _ _::r,P,h=>h.elim
 | k+1,.tz _ _::r,P,h=>h.elim
abbrev zvA (fa:AC):AD:=λD n Q=>fa D n λq m=>zuj 200 q λl=>Q (.d (.tup l)) m
def y6{x1}(h:JA X Pn M es fs):JE X Pn M false (.Tuple es x1 pos) (zvA fs):=by obtain⟨ta,q,ra⟩:=h.ex;show#[_,zej q,#[λA G H D n Q R E P B k=>?_]];show ra.run A G H D n _ _ E P B λU m vs H1 F b g=>?_;obtain⟨l,e,r,I⟩:=zea F;show#[zc7 (by rw[b.len];show aH I (by ext)),λp H2 J O S=>?_];show k _ m _ H2 r (zgR (b.dts e) (zA.same S) ((E.stay g.st).new J) O) (g.trans (Go.same g.pn S)) λz=>by cases z
abbrev zvu (fa:AC):AD:=λD n Q=>fa D n λq m=>zuj 200 q λl=>Q (.d (.lst l)) m
def zaI(h:JA X Pn M es fs):JE X Pn M true (.List es pos) (zvu fs):=by obtain⟨ta,F,ra⟩:=h.ex;show#[_,zqc F,#[λA G H D n Q R E P I k=>?_]];show ra.run A G H D n _ _ E P I λU m vs H1 J b g=>?_;obtain⟨l,e,r,O⟩:=zea J;show#[zc7 (by rw[b.len];show aH O (by ext)),λp H2 q B S=>?_];show k _ m _ H2 r (uA (b.dts e) (zA.same S) ((E.stay g.st).new q) B) (g.trans (Go.same g.pn S)) λ_=>(uj (b.dts e) S q B).back g.st
def zD {id:String}{r:AT->Hp->VK->Prop}{F:AU->Mo W}{x:Str}{fs:AC}(I:CallQ X (.builtin id) r)(J:FL Pn fr r F)(O:Gl X x)(U:X.mg x=none)(Y:bootBuiltins x=some (.builtin id))(Z:JAB X Pn M (e::es) fs)(hn:x ≠ "__name__" := by ext)(q:Ah x:=by ext)
  (he:starEach (e::es) X.env=(false,eval e X.env)::starEach es X.env:=by rfl) (B:(backTo pos (starEach es X.env)).any (·.1)=false:=by rfl):JE X Pn M fr (.Call (.Name x p) (e::es) [] pos) (zvl F fs):=by
 obtain⟨ta,qa,ra⟩:=Z.ex;show#[_,xg I O U Y qa hn q he B,zs5 J ra]
def yx(I:CallQ X (.type T) r)(J:FL Pn fr r F)(O:Gl X x)(U:X.mg x=none)(Y:bootBuiltins x=some (.type T))(Z:JAB X Pn M (e::es) fs)(hn:x ≠ "__name__" := by ext)(q:Ah x:=by ext)(he:starEach (e::es) X.env=(false,eval e X.env)::starEach es X.env:=by rfl)(B:(backTo pos (starEach es X.env)).any (·.1)=false:=by rfl):JE X Pn M fr (.Call (.Name x p) (e::es) [] pos) (zvl F fs):=by
 obtain⟨ta,qa,ra⟩:=Z.ex;show#[_,zcv I O U Y qa hn q he B,zs5 J ra]
end
section
variable {Pn:PN}{K:AH}{A:AL}{H:Hp}
def y4{i:Int}(h:Bor A H (.d (.int i)) v):v = .int i:=h
def zgY(h:Bor A H (.d (.bl i)) v):v = .bl i:=h
def uh(h:Bor A H (.d (.tup l)) v):∃a xs,v = .ref a/\H a=some (.tup xs)/\IsL (ya A H) l xs:=by obtain⟨a,xs,e,h1,h2⟩:=h;show#[a,xs,e,zn _ _ h1,h2]
def xn(h:Bor A H (.d (.lst l)) v):∃a xs,v = .ref a/\H a=some (.lst xs)/\IsL (ya A H) l xs:=h
def zoq(h:Bor A H (.d (.lst l)) v\/Bor A H (.d (.tup l)) v):∃a xs,v = .ref a/\(SqL K H a xs\/SqT K H a xs)/\IsL (ya A H) l xs:=by
 rcases h with h | h;obtain⟨a,xs,e,h1,h2⟩:=xn h;show#[a,xs,e,.inl (.of h1),h2];obtain⟨a,xs,e,h1,h2⟩:=uh h;show#[a,xs,e,.inr (.of h1),h2]
def fI (C:Int->Int->Prop)(g:Int->Int->Dt):W->W->Mo W:=λx y n Q=>∃i j,x = .d (.int i)/\y = .d (.int j)/\C i j/\Q (.d (g i j)) n
def fI0 (g:Int->Int->Dt):W->W->Mo W:=λx y n Q=>∃i j,x = .d (.int i)/\y = .d (.int j)/\Q (.d (g i j)) n
def zuX {C:Int->Int->Prop}{g:Int->Int->V}{g':Int->Int->Dt}(B:∀i j BF,Is BF (g' i j) (g i j)):F2 Pn false (rI C g) (fI C g'):=#[by
 rintro A H x y O U n Q R Y F q P ⟨i,j,I,J,c,r⟩ k;subst I J;show#[i,j,y4 F,y4 q,c,k _ n _ H r (Val.of (B _ _ _)) (Go.refl P) λz=>by cases z]]
def zjm {g:Int->Int->V}{g':Int->Int->Dt}(B:∀i j BF,Is BF (g' i j) (g i j)):F2 Pn false (rI0 g) (fI0 g'):=#[by
 rintro A H x y O U n Q R Y F q P ⟨i,j,I,J,r⟩ k;subst I J;show#[i,j,y4 F,y4 q,k _ n _ H r (Val.of (B _ _ _)) (Go.refl P) λz=>by cases z]]
abbrev fAdd:=fI0 λi j=>.int (i+j)
abbrev fSub:=fI0 λi j=>.int (i - j)
abbrev fMul:=fI znl λi j=>.int (i * j)
abbrev fDiv:=fI zra λi j=>.int (i / j)
abbrev fMod:=fI (λ_ j=>0<j) λi j=>.int (i % j)
abbrev fLt:=fI0 λi j=>.bl (decide (i<j))
abbrev fLe:=fI0 λi j=>.bl (decide (i<=j))
abbrev fGt:=fI0 λi j=>.bl (decide (j<i))
def zwg:F2 Pn false (rI0 λi j=>.int (i+j)) fAdd:=zjm λ_ _ _=>rfl
def zwr:F2 Pn false (rI0 λi j=>.int (i - j)) fSub:=zjm λ_ _ _=>rfl
def zwo:F2 Pn false (rI znl λi j=>.int (i * j)) fMul:=zuX λ_ _ _=>rfl
def ztU:F2 Pn false (rI zra λi j=>.int (i / j)) fDiv:=zuX λ_ _ _=>rfl
def zwn:F2 Pn false (rI (λ_ j=>0<j) λi j=>.int (i % j)) fMod:=zuX λ_ _ _=>rfl
def v_lt:F2 Pn false (rI0 λi j=>.bl (decide (i<j))) fLt:=zjm λ_ _ _=>rfl
def v_le:F2 Pn false (rI0 λi j=>.bl (decide (i<=j))) fLe:=zjm λ_ _ _=>rfl
def v_gt:F2 Pn false (rI0 λi j=>.bl (decide (j<i))) fGt:=zjm λ_ _ _=>rfl
def zu6:W->Mo W:=λx n Q=>∃i,x = .d (.int i)/\Q (.d (.int (-i))) n
def zwq:F1 Pn false (rU λi=>.int (-i)) zu6:=#[by
 rintro A H x B n Q R F q P ⟨i,e,r⟩ k;subst e;show#[i,y4 q,k _ n _ H r (Val.of BA) (Go.refl P) λz=>by cases z]]
abbrev sEq:Dt->Dt->Option Bool
 | .int i,.int j=>some (decide (i=j))
 | .bl i,.bl j=>some (decide (i=j))
 | .str i,.str j=>some (decide (i=j))
 | .non,.non=>some true
 | .non,.int _=>some false
 | .int _,.non=>some false
 | .non,.bl _=>some false
 | .bl _,.non=>some false
 | .non,.str _=>some false
 | .str _,.non=>some false
 | .int _,.str _=>some false
 | .str _,.int _=>some false
 | _,_=>none
def plain:Dt->Option V
 | .int i=>some (.int i)
 | .bl i=>some (.bl i)
 | .str i=>some (.str i)
 | .non=>some .non
 | _=>none
def zn8(h:sEq a b=some r):∃x y,plain a=some x/\plain b=some y/\zv3 x y=true/\decide (x=y)=r:=by cases a <;> cases b <;> cases h <;> show#[_,_,BA,BA,BA,?_] <;> first | rfl | show bE (by lia) | show decide_eq_decide.mpr (by simp)
def zaE(h:Bor A H (.d a) v)(e:plain a=some x):v=x:=by cases a <;> cases e <;> show h
def fEq:W->W->Mo W:=λx y n Q=>∃a b r,x = .d a/\y = .d b/\sEq a b=some r/\Q (.d (.bl r)) n
def fNe:W->W->Mo W:=λx y n Q=>∃a b r,x = .d a/\y = .d b/\sEq a b=some r/\Q (.d (.bl (!r))) n
def v_eq:F2 Pn false rEq fEq:=#[by
 rintro A H x y J O n Q R U B q P ⟨a,b,r,F,I,e,h⟩ k;subst F I;obtain⟨Y,Z,p1,p2,s,d⟩:=zn8 e;obtain rfl:=zaE B p1;obtain rfl:=zaE q p2;show#[s,k _ n _ H h (Val.of (by rw[d];rfl)) (Go.refl P) λz=>by cases z]]
def v_ne:F2 Pn false rNe fNe:=#[by
 rintro A H x y J O n Q R U B q P ⟨a,b,r,F,I,e,h⟩ k;subst F I;obtain⟨Y,Z,p1,p2,s,d⟩:=zn8 e;obtain rfl:=zaE B p1;obtain rfl:=zaE q p2;show#[s,k _ n _ H h (Val.of (by rw[d];rfl)) (Go.refl P) λz=>by cases z]]
def zuZ:W->W->Mo W:=λx y n Q=>∃a b,x = .d a/\y = .d b/\a.eqOk/\b.eqOk/\∀r:Bool,(r=true↔a=b)->Q (.d (.bl r)) n
def zu5:W->W->Mo W:=λx y n Q=>∃a b,x = .d a/\y = .d b/\a.eqOk/\b.eqOk/\∀r:Bool,(r=true↔a=b)->Q (.d (.bl (!r))) n
def zwi:F2 Pn false zul zuZ:=#[by
 rintro A H x y Y Z n Q R al B q P ⟨a,b,F,I,J,O,h⟩ k;subst F I;show#[a,b,B.is,q.is,J,O,λr U=>k _ n _ H (h r U) (Val.of BA) (Go.refl P) λz=>by cases z]]
def zwp:F2 Pn false zun zu5:=#[by
 rintro A H x y Y Z n Q R al B q P ⟨a,b,F,I,J,O,h⟩ k;subst F I;show#[a,b,B.is,q.is,J,O,λr U=>k _ n _ H (h r U) (Val.of BA) (Go.refl P) λz=>by cases z]]
def zu1:W->W->Mo W:=λx y n Q=>∃a b,x = .d (.bl a)/\y = .d (.bl b)/\Q (.d (.bl (a==b))) n
def zgc:W->W->Mo W:=λx y n Q=>∃a b,x = .d (.bl a)/\y = .d (.bl b)/\Q (.d (.bl (a != b))) n
def zq1:F2 Pn false (λx y H Q=>∃a b,x = .bl a/\y = .bl b/\Q (.bl (a==b)) H) zu1:=#[by
 rintro A H x y J O n Q R U B q P ⟨a,b,F,I,h⟩ k;subst F I;show#[a,b,zgY B,zgY q,k _ n _ H h (Val.of BA) (Go.refl P) λz=>by cases z]]
def ziH:F2 Pn false (λx y H Q=>∃a b,x = .bl a/\y = .bl b/\Q (.bl (a != b)) H) zgc:=#[by
 rintro A H x y J O n Q R U B q P ⟨a,b,F,I,h⟩ k;subst F I;show#[a,b,zgY B,zgY q,k _ n _ H h (Val.of BA) (Go.refl P) λz=>by cases z]]
def zu0 (q:Bool):W->W->Mo W:=λx y n Q=>∃d ds,x = .d d/\(y = .d (.lst ds)\/y = .d (.tup ds))/\d.eqOk/\(Dt.lst ds).eqOk/\∀b:Bool,(b=true↔d∈ds)->Q (.d (.bl (if q then !b else b))) n
def zwj:F2 Pn false (zvX q) (zu0 q):=#[by
 rintro A H x y Z wy n Q R al F B P ⟨d,ds,I,J,O,U,h⟩ k;subst I;show#[d,ds,F.is,?_,O,U,λb Y=>k _ n _ H (h b Y) (Val.of BA) (Go.refl P) λz=>by cases z];rcases J with rfl | rfl;show .inl B.is;show .inr B.is]
def znC{i:Int}(h:IsL BF l xs)(e:atI l i=some d):∃v,atI xs i=some v/\Is BF d v:=by
 unfold atI at e ⊢;rw[h.length];obtain⟨j,h1,h2⟩:=eD.mp e;obtain⟨v,q,B⟩:=h.getD h2;right
def zu3:W->W->Mo W:=λx y n Q=>∃l i d,x = .d (.tup l)/\y = .d (.int i)/\atI l i=some d/\Q (.d d) n
def zu2:W->W->Mo W:=λx y n Q=>∃l i d,x = .d (.lst l)/\y = .d (.int i)/\atI l i=some d/\Q (.d d) n
def zwl:F2 Pn false (zrf K) zu3:=#[by
 rintro A H x y Y Z n Q R al B q P ⟨l,i,d,F,I,e,h⟩ k;subst F I;obtain⟨a,xs,J,O,U⟩:=uh B;obtain⟨v,h1,h2⟩:=znC U e;show#[a,xs,i,v,J,y4 q,.of O,h1,k _ n _ H h (Val.of h2) (Go.refl P) λz=>by cases z]]
def zwk:F2 Pn false (zum K) zu2:=#[by
 rintro A H x y Y Z n Q R al B q P ⟨l,i,d,F,I,e,h⟩ k;subst F I;obtain⟨a,xs,J,O,U⟩:=xn B;obtain⟨v,h1,h2⟩:=znC U e;show#[a,xs,i,v,J,y4 q,.of O,h1,k _ n _ H h (Val.of h2) (Go.refl P) λz=>by cases z]]
def zoz:W->W->Mo W:=λx y n Q=>∃l m,x = .d (.tup l)/\y = .d (.tup m)/\l.length+m.length<=lim/\Q (.d (.tup (l++m))) n
def ztT:F2 Pn false (zmN K) zoz:=#[by
 rintro A H x y wx wy n Q R I J q P ⟨l,m,O,U,z,h⟩ k;subst O U;obtain⟨a,xs,Y,Z,B⟩:=uh J;obtain⟨b,ys,eb,hb,F⟩:=uh q;show#[a,b,xs,ys,Y,eb,Z,hb,zc7 (by rw[B.length,F.length];show z),λp H' g S=>?_];show k _ n _ H' h (zgR (B.append F) (zA.same S) (I.noT' (zA.same S) g) g) (Go.same P S) λz=>by cases z]
def zoy:W->W->Mo W:=λx y n Q=>∃l m,x = .d (.lst l)/\y = .d (.lst m)/\l.length+m.length<=lim/\Q (.d (.lst (l++m))) n
def ztS:F2 Pn true zqo zoy:=#[by
 rintro A H x y wx wy n Q R J O q P ⟨l,m,U,Y,z,h⟩ k;subst U Y;obtain⟨a,xs,Z,ha,B⟩:=xn O;obtain⟨b,ys,eb,hb,F⟩:=xn q;show#[a,b,xs,ys,Z,eb,ha,hb,zc7 (by rw[B.length,F.length];show z),λp H' I g S=>?_];show k _ n _ H' h (uA (B.append F) (zA.same S) (J.new I) g) (Go.same P S) λz=>uj (B.append F) S I g]
abbrev lenD:W->Option Nat
 | .d (.lst l)=>some l.length
 | .d (.tup l)=>some l.length
 | _=>none
def zu4:AU->Mo W:=λq n Q=>∃x k,q=[x]/\lenD x=some k/\Q (.d (.int (k:Int))) n
def zbW(h:zrg A H [w] vs):∃v,vs=[v]/\Bor A H w v:=by obtain⟨v,r,e,h1,h2⟩:=h;cases h2;show#[v,e,h1]
def zwm:FL Pn false (λxs H Q=>∃x n,xs=[x]/\zt3 K x H n/\Q (.int n) H) zu4:=#[by
 rintro A H xs O n Q R U b P ⟨x,j,J,q,h⟩ k;subst J;obtain⟨v,rfl,I⟩:=zbW b;show#[v,j,BA,?_,k _ n _ H h (Val.of BA) (Go.refl P) λz=>by cases z]
 cases x with
 | d x=>
  cases x with
  | lst l=>
   cases q;obtain⟨a,ys,rfl,B,F⟩:=xn I;show .inl #[ys,.of B,F.length.symm]
  | tup l=>
   cases q;obtain⟨a,ys,rfl,B,F⟩:=uh I;show .inr #[ys,.of B,F.length.symm]
  | _=>cases q
 | _=>cases q]
theorem zjB:∀ {q:List Bool} {xs:AT},IsL BF (q.map .bl) xs->xs=q.map V.bl
 | [],_,h=>h
 | b::q,xs,h=>by obtain⟨y,r,rfl,h1,h2⟩:=h;cases h1;rw[zjB h2];rfl
def zuY:AU->Mo W:=λB n Q=>∃q:List Bool,B=[.d (.lst (q.map .bl))]/\Q (.d (.bl (q.all id))) n
def zwh:FL Pn false (λxs H Q=>∃ (p:Addr) (q:List Bool),xs=[.ref p]/\H p=some (.lst (q.map V.bl))/\Q (.bl (q.all id)) H) zuY:=#[by
 rintro A H xs O n Q R U b P ⟨q,B,h⟩ k;subst B;obtain⟨v,rfl,F⟩:=zbW b;obtain⟨a,ys,rfl,I,J⟩:=xn F;obtain rfl:=zjB J;show#[a,q,BA,I,k _ n _ H h (Val.of BA) (Go.refl P) λz=>by cases z]]
def zrI:AU->Mo W:=λq n Q=>∃l,(q=[.d (.lst l)]\/q=[.d (.tup l)])/\Q (.d (.lst l)) n
def ztV:FL Pn true (zkI K) zrI:=#[by
 rintro A H xs O n Q R F b P ⟨l,I,h⟩ k
 obtain⟨v,rfl,J⟩:∃v,xs=[v]/\(Bor A H (.d (.lst l)) v\/Bor A H (.d (.tup l)) v):=by
  rcases I with rfl | rfl;obtain⟨v,e,h⟩:=zbW b;show#[v,e,.inl h];obtain⟨v,e,h⟩:=zbW b;show#[v,e,.inr h]
 obtain⟨a,ys,rfl,hs,q⟩:=zoq (K:=K) J;show#[a,ys,BA,hs,λp H' B g S=>k _ n _ H' h (uA q (zA.same S) (F.new B) g) (Go.same P S) λz=>uj q S B g]]
def znA:AU->Mo W:=λq n Q=>∃l,(q=[.d (.lst l)]\/q=[.d (.tup l)])/\Q (.d (.tup l)) n
def zq3:FL Pn false (zgE K) znA:=#[by
 rintro A H xs U n Q R I b P ⟨l,J,h⟩ k;rcases J with rfl | rfl;obtain⟨v,rfl,B⟩:=zbW b;obtain⟨a,ys,rfl,q,F⟩:=xn B;show#[a,ys,BA,.inl #[.of q,λp H' O g S=>k _ n _ H' h (zgR F (zA.same S) (I.new O) g) (Go.same P S) λz=>by cases z]];obtain⟨v,rfl,B⟩:=zbW b;obtain⟨a,ys,e,q,F⟩:=id B;subst e;show#[a,ys,BA,.inr #[.of (zn _ _ q),k _ n _ H h (Val.of #[a,ys,BA,q,F]) (Go.refl P) λz=>by cases z]]]
def zcQ {α:Type}(xs:List α)(lo hi:AQ):List α:=(xs.drop (HT.sIx xs.length 0 lo)).take (HT.sIx xs.length xs.length hi - HT.sIx xs.length 0 lo)
def zjC{lo hi:AQ}(h:IsL BF l xs):IsL BF (zcQ l lo hi) (zeF xs lo hi):=by unfold zcQ zeF;rw[h.length];show (h.drop _).take _
def xq {κ:Type}[DecidableEq κ](BC:List (κ×Dt))(k:κ):Option Dt:=(BC.find? λq=>decide (q.1=k)).map (·.2)
theorem uM.look {κ:Type}[DecidableEq κ]{BF:Hp}{k:κ}:∀ {BC:List (κ×Dt)} {ks:List (κ×V)},uM BF BC ks->(xq BC k=none->xK ks k=none)/\∀d,xq BC k=some d->∃v,xK ks k=some v/\Is BF d v
 | [],_,h=>by cases h;show#[λ_=>rfl,λd e=>by cases e]
 | q::r,ks,⟨v,s,e,h1,h2⟩=>by
  subst e;have F:=uM.look (k:=k) h2;by_cases B:q.1=k;show#[λz=>?_,λd z=>?_];simp[xq,cD,B] at z;simp[xq,cD,B] at z;subst z;show#[v,z8 B,h1];have I:xq (q::r) k=xq r k:=by simp[xq,cD,B]
  rw[I,z7 B];show F
end
section
variable {X:Cx}{Pn:PN}{M S:AR}{fr:Bool}{e a b c:Expr}{es:AO}{f fa fb fc:AD}{pos p:Pos}
def yT(q:IxQ X r)(B:F2 Pn fr r F)(I:JB X Pn M a fa)(J:JB X Pn M b fb)(hs:zfX b):JE X Pn M fr (.Subscript a b pos) (zrd F fa fb):=by obtain⟨ta,O,ra⟩:=I.ex;obtain⟨tb,U,rb⟩:=J.ex;show#[_,zmM q O U hs,zmT B ra rb]
abbrev zpn:Ev->Mo AQ:=λ_ n Q=>Q none n
def zpq (fa:AD):Ev->Mo AQ:=λD n Q=>fa D n λx m=>∃i,x = .d (.int i)/\Q (some i) m
def uO:JO X Pn M none zpn:=#[_,zgz,λA G H D n Q R E P q k=>k none n H q (Go.refl P)]
def uP (h:JB X Pn M e f):JO X Pn M (some e) (zpq f):=by obtain⟨te,q,r⟩:=h.ex;show#[_,zgA q,λA G H D n Q R E P B k=>?_];show r.run A G H D n _ _ E P B  ?_;rintro w m v H' ⟨i,e,r⟩ F g;subst e;show#[i,y4 F,k (some i) m H' r g]
def zvy (fa:AD)(fl q:Ev->Mo AQ):AD:=λD n Q=>fa D n λx B=>fl D B λlo F=>q D F λhi I=>∃l,x = .d (.lst l)/\Q (.d (.lst (zcQ l lo hi))) I
def zfc{fl J:Ev->Mo AQ}(O:JB X Pn M e f)(q:JO X Pn M lo fl)(U:JO X Pn M hi J):JE X Pn M true (.Subscript e (.Slice lo hi none p2) pos) (zvy f fl J):=by obtain⟨te,Y,Z⟩:=O.ex;obtain⟨tl,ql,rl⟩:=q.ex;obtain⟨th,qh,rh⟩:=U.ex;show#[_,zei zqJ Y ql qh,#[λA G H D n Q R E P hf k=>?_]];show Z.run A G H D n _ _ E P hf λw m v H1 r1 bb B=>?_;show rl A G H1 D m _ _ (E.stay B.st) B.pn r1 λo m2 H2 r2 g2=>?_;show rh A G H2 D m2 _ _ ((E.stay B.st).stay g2.st) g2.pn r2  ?_;rintro o3 m3 H3 ⟨l,e,r3⟩ F;subst e;have g:=(B.trans g2).trans F;obtain⟨ad,xs,rfl,ha,q⟩:=xn (bb.stay (g2.trans F).st);show#[ad,xs,BA,.of ha,λp I=>?_];have S:=yZ.upd (o:=.lst (zeF xs o o3)) I;show k _ m3 _ _ r3 (uA (zjC q) (zA.same S) ((E.stay g.st).new I) zh) (g.trans (Go.same F.pn S)) λz=>(uj (zjC q) S I zh).back g.st
theorem zgl:∀ {ds:AS} {xs:AT},IsL BF ds xs->IsL BF ds.reverse xs.reverse
 | [],_,h=>by cases h;rfl
 | d::ds,xs,h=>by obtain⟨x,r,rfl,h1,h2⟩:=h;rw[cP,cP];show (zgl h2).append (IsL.one h1)
def zps (fa:AD):AD:=λD n Q=>fa D n λx m=>∃l,x = .d (.lst l)/\Q (.d (.lst l.reverse)) m
def zfb(I:JB X Pn M e f):JE X Pn M true (.Subscript e (.Slice none none (some (.UnaryOp .USub (.Constant (.int 1) j p4) p3)) p2) pos) (zps f):=by obtain⟨te,J,O⟩:=I.ex;show#[_,zqd J,#[λA G H D n Q R E P U k=>?_]];show O.run A G H D n _ _ E P U  ?_;rintro w m v H1 ⟨l,e,r⟩ Y g;subst e;obtain⟨Z,xs,rfl,ha,q⟩:=xn Y;show#[Z,xs,BA,ha,λp H' B F S=>k _ m _ H' r (uA (zgl q) (zA.same S) ((E.stay g.st).new B) F) (g.trans (Go.same g.pn S)) λz=>(uj (zgl q) S B F).back g.st]
abbrev zuc:W->Option Key
 | .d (.int i)=>some (Sum.inl i)
 | .d (.str x)=>some (Sum.inr x)
 | _=>none
abbrev prD (q:Int×Dt):Dt:=.tup [.int q.1,q.2]
def kvD (q:Int×Dt):Key×Dt:=(Sum.inl q.1,q.2)
def spV (k:Nat)(fr:Bool)(F:PN->AU->Mo W):Sp:=λvs H Q _=>∃Pn A q n R,Al A H/\zbJ A H q vs/\q.length=k/\zaf Pn A n H/\F Pn q n R/\∀w m v H',R w m->Val A H' w v->Go Pn A H m H'->(fr=true->FrV A H H' w v)->Q v H'
def mFn (k:Nat)(F:AU->Mo W)(fa:AC):AD:=λD n Q=>fa D n λq m=>q.length=k/\F q m Q
def zs6(q:RA Pn M ta fs):RE Pn M fr (zey (spV k fr F) [] E0 ta) (mFn k (F Pn) fs):=#[λA G H D n Q R E P B I=>by show q.run A G H D n _ _ E P B  ?_;rintro J m vs H1 ⟨O,r⟩ b g;rw[cB];show#[Pn,A,J,m,R,(E.stay g.st).al,b,O,g.pn,r,λw U v H' h1 h2 Y Z=>I w U v H' h1 h2 (g.trans Y) λz=>(Z z).back g.st]]
def yI(BG:Dfn X.K X.mg x st ps fA fd)(BF:FnOk X.prog X.w X.K X.mg X.base CX0 j fA fd ps (spV k fr F))(O:Room J X.A)(U:JA X Pn M (e::es) fs)(q:j<=J:=by ext)(Y:Gl X x:=by rfl)(B:Ah x:=by ext)(Z:starEach (e::es) X.env=(false,eval e X.env)::starEach es X.env:=by rfl)(I:(backTo pos (starEach es X.env)).any (·.1)=false:=by rfl) :
  JE X Pn M fr (.Call (.Name x p) (e::es) [] pos) (mFn k (F Pn) fs):=by
 obtain⟨ta,qa,ra⟩:=U.ex;show#[_,zmJ BG BF O qa q Y B Z I,zs6 ra]
abbrev W.flat (fr:Bool):W->Bool
 | .d (.lst l)=>fr&&Dt.noLs l
 | .d x=>x.noL
 | .pen _=>true
 | .dk _=>false
 | .dt _=>false
 | .ss _ _ _=>false
 | .df _=>false
 | .kf _=>false
 | .fl _=>false
 | .ad _ _=>false
 | .tz _ _=>false
def zaf.less(h:zaf Pn A n H)(s:∀a,A' a->A a):zaf Pn A' n H:=by
 show#[?_,Pn.J.grow h.2 λa z=>.inl (s a z)];have h:=h.1;split at h;trivial;show#[h.1,λr e z=>h.2.1 r e (s _ z),λz=>h.2.2 (s _ z)]
end
structure JG (X:Cx)(S M:AR)(e:Expr)(mg:W->Ev->(Ev->Prop)->Prop):Prop where
 ex:∃g,QG X e g/\RG S M g mg
structure JGs (X:Cx)(S M:AR)(es:AO)(mg:AS->Ev->(Ev->Prop)->Prop):Prop where
 ex:∃g,QGs X es g/\RGs S M g mg
structure JI (X:Cx)(Pn:PN)(M:AR)(ow:Bool)(tg e:Expr)(f:AC):Prop where
 ex:∃wi,QI X tg e wi/\RI Pn M ow wi f
structure JTs (X:Cx)(Pn:PN)(M:AR)(es:AO)(f:Ev->Mo Bool):Prop where
 ex:∃t,QTs X es t/\RT Pn M t f
section
variable {X:Cx}{Pn:PN}{M S:AR}{fr:Bool}{e a b c:Expr}{es:AO}{f fa fb fc:AD}{pos p:Pos}
def gN (i:Nat):W->Ev->(Ev->Prop)->Prop:=λw D Q=>Q (D.set i (some w))
def gNl:AS->Ev->(Ev->Prop)->Prop:=λds D Q=>ds=[]/\Q D
def gCn (g:W->Ev->(Ev->Prop)->Prop)(u:AS->Ev->(Ev->Prop)->Prop):AS->Ev->(Ev->Prop)->Prop:=λds D Q=>∃d r,ds=d::r/\g (.d d) D λq=>u r q Q
def gTp (n:Nat)(u:AS->Ev->(Ev->Prop)->Prop):W->Ev->(Ev->Prop)->Prop:=λw D Q=>∃ds,w = .d (.tup ds)/\ds.length=n/\u ds D Q
def EnvR.set(E:EnvR A M G H D)(hi:i∉M)(h:Val A H w v):EnvR A M (G.set i (some v)) H (D.set i (some w)) where
 len:=by rw[bR,bR];show E.len
 val:=λj u e=>by
  by_cases q:j=i;subst q
  have J:j<D.length:=by
   have:=(ah.mp e).1;right
  rw[aV J] at e;cases e;show#[v,aV (by rw[E.len];show J),λ_=>h,λz=>absurd z hi];rw[aw (Ne.symm q)] at e ⊢;show E.val j u e
 dis:=λj k u u' ad q O B U Y Z=>by have F:i≠j:=λz=>hi (z ▸ q);have I:i≠k:=λz=>hi (z ▸ O);rw[aw F] at U Z;rw[aw I] at Y ⊢;show E.dis j k u u' ad q O B U Y Z
 al:=E.al
def zen(hi:i∉M)(hs:i∉S):RG S M (zbA i) (gN i):=#[λA G H D v w Q R E h r k=>k _ _ r (E.set hi h) λj q=>#[aw λ(z:i=j)=>hs (by rw[z];show q),aw λ(z:i=j)=>hs (by rw[z];show q)]]
def zq(q:X.N.Nodup)(B:X.N[i]?=some x:=by rfl)(F:Loc X.env.scope x:=by first | show Or.inl BA | show Or.inr BA)(hi:i∉M:=by ext)(hs:i∉S:=by ext)(I:X.fn x=true\/X.env.scope.names.lookup x=some .local:=by fail"l"):JG X S M (.Name x pos) (gN i):=#[_,ux q B F I,zen hi hs]
def zb6:JGs X S M [] gNl:=#[_,zek,#[by
 rintro A G H D vs ds Q R E h ⟨e,r⟩ k;subst e;show#[h,k G D r E λ_ _=>#[BA,BA]]]]
def yy(h1:JG X S M e g)(h2:JGs X S M es u)(hs:(assignEach (e::es) X.env).map (·.2)=assign e X.env::(assignEach es X.env).map (·.2):=by rfl):JGs X S M (e::es) (gCn g u):=by obtain⟨t1,U,Y⟩:=h1.ex;obtain⟨t2,Z,r2⟩:=h2.ex;show#[_,xh U Z hs,#[ ?_]];rintro A G H D vs ds Q R E h ⟨d,r,e,hg⟩ k;subst e;obtain⟨v,s,rfl,hv,hr⟩:=h;show#[v,s,BA,?_];show Y.run A G H D v _ _ _ E (Val.of hv) hg λq B hu E' J=>?_;show r2.run A q H B s _ _ _ E' hr hu λF I hR E2 O=>k F I hR E2 λi hi=>#[(O i hi).1.trans (J i hi).1,(O i hi).2.trans (J i hi).2]
def zhf {k n:Nat}{u:AS->Ev->(Ev->Prop)->Prop}(K:AH)(I:X.K=K)(J:X.calm=true)(h:JGs X S M es u)(hn:(assignEach es X.env).length=n:=by rfl)(q:(assignEach es X.env).findIdx? (·.1)=none:=by rfl):JG X S M (.Tuple es k pos) (gTp n u):=by obtain⟨t1,O,U⟩:=h.ex;show#[_,zkC K I J O hn q,#[ ?_]];rintro A G H D v w Q R E h ⟨ds,e,Y,Z⟩ kk;subst e;obtain⟨ad,xs,rfl,B,F⟩:=h;show#[ad,xs,BA,.of (zn _ _ B),by rw[F.length];show Y,U.run A G H D xs ds _ _ E F Z kk]
def zuf (fa:AD):AC:=λD n Q=>fa D n λx m=>∃l,x = .d (.lst l)/\Q (l.map W.d) m
def zug (fa:AD):AC:=λD n Q=>fa D n λx m=>∃l,x = .d (.tup l)/\Q (l.map W.d) m
def zgm {BF G':Hp}{l:AS}{xs:AT}{i:Nat}{w:W}(h:IsL BF l xs)(e:(l.map W.d)[i]?=some w)(s:zA BF G'):∃d x,w = .d d/\xs[i]?=some x/\Is G' d x:=by rw[aD] at e;obtain⟨d,h1,rfl⟩:=aJ.mp e;obtain⟨x,h2,q⟩:=h.getD h1;show#[d,x,BA,h2,q.stay s]
def zlX(h:ya A H q=some (.lst xs))(B:IsL (ya A H) l xs):ItV false A H (Itl K q) (l.map W.d) where
 one:=λi w A2 H2 e s _ _=>by obtain⟨d,x,rfl,F,I⟩:=zgm B e s;have g:=zn _ _ (s.lst h);show#[#[xs,x,.of g,F],?_];rintro y H3 ⟨J,O⟩;subst J;have:=O xs (.of g);rw[F] at this;cases this;show#[λ_ _ z=>z,Val.of I]
 stop:=λA2 H2 s _=>#[xs,.of (zn _ _ (s.lst h)),by rw[ab,B.length];show ai _]
def zoW(h:ya A H q=some (.tup xs))(B:IsL (ya A H) l xs):ItV false A H (Itt K q) (l.map W.d) where
 one:=λi w A2 H2 e s _ _=>by obtain⟨d,x,rfl,F,I⟩:=zgm B e s;have g:=zn _ _ (s.tup h);show#[#[xs,x,.of g,F],?_];rintro y H3 ⟨J,O⟩;subst J;have:=O xs (.of g);rw[F] at this;cases this;show#[λ_ _ z=>z,Val.of I]
 stop:=λA2 H2 s _=>#[xs,.of (zn _ _ (s.tup h)),by rw[ab,B.length];show ai _]
def um(K:AH)(F:X.K=K)(h:JE X Pn M fr e f):JI X Pn M false tg e (zuf f):=by obtain⟨te,q,r⟩:=h.ex;show#[_,zhC K F q,#[λA G H D n Q R E P I k=>?_]];show r.run A G H D n _ _ E P I  ?_;rintro w m v H1 ⟨l,e,r⟩ J g _;subst e;obtain⟨O,xs,rfl,B,U⟩:=J;show#[O,BA,#[xs,.of (zn _ _ B)],k _ m _ H1 r (zlX B U) g]
def zhg(K:AH)(F:X.K=K)(h:JE X Pn M fr e f):JI X Pn M false tg e (zug f):=by obtain⟨te,q,r⟩:=h.ex;show#[_,zqi K F q,#[λA G H D n Q R E P I k=>?_]];show r.run A G H D n _ _ E P I  ?_;rintro w m v H1 ⟨l,e,r⟩ J g _;subst e;obtain⟨O,xs,rfl,B,U⟩:=J;show#[O,BA,#[xs,.of (zn _ _ B)],k _ m _ H1 r (zoW B U) g]
def ziq (lo:Int)(n:Nat):AU:=(List.range n).map λi:Nat=>W.d (.int (lo+i))
def zoV{lo:Int}:ItV false A H (Itr lo n) (ziq lo n) where
 one:=λi w A2 H2 e s _ _=>by unfold ziq at e;rw[aD] at e;obtain⟨j,h1,rfl⟩:=aJ.mp e;obtain⟨hi,h2⟩:=ah.mp h1;rw[cF] at h2;subst h2;rw[aG] at hi;show#[hi,?_];rintro y H3 ⟨q,B⟩;subst q B;show#[λ_ _ z=>z,Val.of BA]
 stop:=λA2 H2 s _=>by
  change n<=(ziq lo n).length;unfold ziq;right
def zvs (fa:AC):AC:=λD n Q=>fa D n λq m=>∃j:Int,q=[.d (.int j)]/\j<=1000000/\-1000000<=j/\Q (ziq 0 j.toNat) m
def yh(B:Gl X "range")(F:X.mg "range" = none)(I:JAB X Pn M [a] fs)(hs:starEach [a] X.env=[(false,eval a X.env)]:=by rfl):JI X Pn M false tg (.Call (.Name "range" p) [a] [] pos) (zvs fs):=by obtain⟨te,q,r⟩:=I.ex;show#[_,zkD B F q hs,#[λA G H D n Q R E P J k=>?_]];show r.run A G H D n _ _ E P J  ?_;rintro Y m vs H1 ⟨j,e,Z,j2,r⟩ O g;subst e;obtain⟨v,rfl,U⟩:=zbW O;obtain rfl:=y4 U;show#[j,BA,by lia,by lia,k _ m _ H1 r zoV g]
def enW:Nat->AS->AU
 | _,[]=>[]
 | k,x::r=>.d (.tup [.int k,x])::enW (k+1) r
theorem zgb:∀ (l:AS) (k i:Nat),(enW k l)[i]?=(l[i]?).map λx=>W.d (.tup [.int ((k+i:Nat):Int),x])
 | [],_,_=>by simp[enW]
 | x::r,k,0=>by simp[enW]
 | x::r,k,i+1=>by have:=zgb r (k+1) i;simp only[enW,bL,this];rw[show k+1+i=k+(i+1) by lia]
theorem zjg:∀ (l:AS) (k:Nat),(enW k l).length=l.length
 | [],_=>rfl
 | x::r,k=>by rw[enW,aK,aK,zjg r]
def zvr (fa:AC):AC:=λD n Q=>fa D n λq m=>∃l,q=[.d (.tup l)]/\Q (enW 0 l) m
def zlW(h:ya A H q=some (.tup xs))(B:IsL (ya A H) l xs):ItV false A H (Ite K q) (enW 0 l) where
 one:=λi w A2 H2 e s _ J=>by rw[zgb] at e;obtain⟨d,h1,rfl⟩:=aJ.mp e;obtain⟨x,F,O⟩:=B.getD h1;have g:=zn _ _ (s.tup h);show#[#[xs,x,.of g,F],?_];rintro y H3 ⟨T,z,U,I,Y,Z⟩;subst U Y;have:=Z xs (.of g);rw[F] at this;cases this;have S:=yZ.upd (o:=.tup [.int i,x]) I;show#[S,Val.of #[T,_,BA,zw (J T I) zh,_,_,BA,?_,_,_,BA,(O.stay s).stay (zA.same (x5 S)),BA]];change V.int (i:Int)=V.int ((0+i:Nat):Int);rw[eY]
 stop:=λA2 H2 s _=>#[xs,.of (zn _ _ (s.tup h)),by rw[zjg,B.length];show ai _]
def zo2{x1}(I:Gl X "enumerate")(J:X.mg "enumerate" = none)(O:JA X Pn M [a] fs)(hs:starEach [a] X.env=[(false,eval a X.env)]:=by rfl):JI X Pn M false (.Tuple B x1 tpos) (.Call (.Name "enumerate" p) [a] [] pos) (zvr fs):=by obtain⟨te,q,r⟩:=O.ex;show#[_,zqg I J q hs,#[λA G H D n Q R E P U k=>?_]];show r.run A G H D n _ _ E P U  ?_;rintro ws m vs H1 ⟨l,e,r⟩ Y g;subst e;obtain⟨v,s,rfl,⟨Z,xs,rfl,F,hl⟩,hs⟩:=Y;cases hs;show#[Z,BA,#[xs,.of (zn _ _ F)],k _ m _ H1 r (zlW F hl) g]
def ziW:AS->AS->AU
 | x::r,y::s=>.d (.tup [x,y])::ziW r s
 | _,_=>[]
theorem zlk:∀ (l k:AS) (i:Nat),l.length=k.length->(ziW l k)[i]?=(l[i]?).bind λx=>(k[i]?).map λy=>W.d (.tup [x,y])
 | [],[],_,_=>by simp[ziW]
 | [],_::_,_,h=>by simp at h
 | _::_,[],_,h=>by simp at h
 | x::r,y::s,0,_=>by simp[ziW]
 | x::r,y::s,i+1,h=>by have:=zlk r s i (by simpa using h);simp only[ziW,bL,this]
theorem zll:∀ (l k:AS),l.length=k.length->(ziW l k).length=l.length
 | [],[],_=>rfl
 | [],_::_,h=>by simp at h
 | _::_,[],h=>by simp at h
 | x::r,y::s,h=>by rw[ziW,aK,aK,zll r s (by simpa using h)]
def zlY(q:l.length=k.length)(h:∀ {A2:AL} {H2:Hp},zA (ya A H) (ya A2 H2)->SqV kb K H2 J xs)(U:IsL (ya A H) l xs)(h':ya A H O=some (.tup ys))(hk:IsL (ya A H) k ys):ItV false A H (Izg kb K J O) (ziW l k) where
 one:=λi w A2 H2 e s _ hA=>by rw[zlk _ _ _ q] at e;obtain⟨d,h1,e⟩:=eD.mp e;obtain⟨d',B,rfl⟩:=aJ.mp e;obtain⟨x,Y,hd⟩:=U.getD h1;obtain⟨y,Z,F⟩:=hk.getD B;have g:=h s;have g':=zn _ _ (s.tup h');show#[#[xs,ys,x,y,g,.of g',Y,Z],?_];rintro v H3 ⟨T,z,z',e1,hT,e3,hz,I⟩;subst e1 e3;have q1:=hz xs g;have q2:=I ys (.of g');rw[Y] at q1;rw[Z] at q2;cases q1;cases q2;have S:=yZ.upd (o:=.tup [x,y]) hT;show#[S,Val.of #[T,_,BA,zw (hA T hT) zh,_,_,BA,(hd.stay s).stay (zA.same (x5 S)),_,_,BA,(F.stay s).stay (zA.same (x5 S)),BA]]
 stop:=λA2 H2 s _=>#[xs,h s,by rw[zll _ _ q,U.length];show ai _]
def ziJ (D:Ev)(BD:List (Option Nat)):Ev:=BD.map λo=>match o with
 | none=>none
 | some i=>(D[i]?).join
def zbM (M:AR)(BD:List (Option Nat)):AR:=(List.range BD.length).filter λk=>match BD[k]? with
 | some (some i)=>M.contains i
 | _=>false
def zbP:k∈zbM M BD↔∃i,BD[k]?=some (some i)/\i∈M:=by
 unfold zbM;rw[cR,aM];constructor;rintro⟨h1,h2⟩;rw[ak h1] at h2 ⊢
 cases e:BD[k] with
 | none=>rw[e] at h2;cases h2
 | some i=>rw[e] at h2;show#[i,BA,by simpa using h2]
 rintro⟨i,h1,h2⟩;show#[(ah.mp h1).1,by right]
def zba {α:Type}{l:List (Option α)}{BD:List (Option Nat)}{k:Nat}{x:α}:(BD.map λo=>match o with | none=>none | some i=>(l[i]?).join)[k]?=some (some x)↔∃i,BD[k]?=some (some i)/\l[i]?=some (some x):=by
 rw[aD]
 cases e:BD[k]? with
 | none=>simp
 | some o=>
  cases o with
  | none=>simp
  | some i=>
   simp only[Option.map_some,Option.some.injEq];constructor;intro h;show#[i,BA,?_]
   cases q:l[i]? with
   | none=>rw[q] at h;cases h
   | some z=>rw[q] at h;cases z with
    | none=>cases h
    | some y=>cases h;rfl
   right
def EnvR.cap(E:EnvR A M G H D)(hn:(BD.filterMap id).Nodup):EnvR A (zbM M BD) (zeO G BD) H (ziJ D BD) where
 len:=by unfold zeO ziJ;rw[ab,ab]
 val:=λk w e=>by
  obtain⟨i,h1,h2⟩:=zba.mp e;obtain⟨v,Y,Z,s3⟩:=E.val i w h2;show#[v,zba.mpr #[i,h1,Y],λz=>Z λy=>z (zbP.mpr #[i,h1,y]),λz=>?_];obtain⟨j,h3,h4⟩:=zbP.mp z;right
 dis:=λk k' w u ad hk ac ag e1 e2 Y Z=>by
  obtain⟨i,h1,h2⟩:=zba.mp e1;obtain⟨i',q,an⟩:=zba.mp e2;obtain⟨j,h3,h4⟩:=zba.mp Y;obtain⟨j',F,ap⟩:=zba.mp Z;rw[h1] at h3;cases h3;rw[q] at F;cases F;obtain⟨m,m1,m2⟩:=zbP.mp hk;rw[h1] at m1;cases m1;obtain⟨m',I,as⟩:=zbP.mp ac;rw[q] at I;cases I;show E.dis _ _ w u ad m2 as (λz=>?_) h2 an h4 ap;subst z
  have key:∀ (l:List (Option Nat)) (a b:Nat) (x:Nat),(l.filterMap id).Nodup->l[a]?=some (some x)->l[b]?=some (some x)->a=b:=by
   intro l
   induction l with
   | nil=>intro a b x _ h;simp at h
   | cons o l ih=>
    intro a b x hn J O;have U:∀ (l:List (Option Nat)) (a:Nat),l[a]?=some (some x)->x∈l.filterMap id:=λl a h=>dC.mpr #[some x,az h,BA]
    cases o with
    | none=>
     have a0:(l.filterMap id).Nodup:=by simpa using hn
     cases a with
     | zero=>simp at J
     | succ a=>
      cases b with
      | zero=>simp at O
      | succ b=>rw[ih a b x a0 (by simpa using J) (by simpa using O)]
    | some y=>
     have B:y∉l.filterMap id/\(l.filterMap id).Nodup:=by right
     cases a with
     | zero=>
      have a1:y=x:=by simpa using J
      subst a1
      cases b with
      | zero=>rfl
      | succ b=>show absurd (U l b (by simpa using O)) B.1
     | succ a=>
      cases b with
      | zero=>
       have a2:y=x:=by simpa using O
       subst a2;show absurd (U l a (by simpa using J)) B.1
      | succ b=>rw[ih a b x B.2 (by simpa using J) (by simpa using O)]
  show ag (key BD k k' _ hn h1 q)
 al:=E.al
def EnvR.more {A:AL}{G:St}{H H':Hp}{D:Ev}(E:EnvR A M G H D){p:Addr}{o:HO}(s:zA H H')(n:Fr H p)(g:H' p=some o)(B:NP o)(F:Mt o):EnvR (λb=>A b\/b=p) M G H' D where
 len:=E.len
 val:=λi w e=>by obtain⟨v,h1,h2,q⟩:=E.val i w e;show#[v,h1,λz=>WAt.up (x4 s n) (x4 s n) (h2 z),λz=>?_];obtain⟨a,e,I,J,O⟩:=q z;show#[a,e,.inl I,WAt.up s (x4 s n) J,O]
 dis:=E.dis
 al:=λa h=>by
  rcases h with h | h;obtain⟨o,h1,h2,q⟩:=E.al a h;show#[o,s _ _ h1 h2,h2,q];subst h;show#[o,g,B,F]
def EnvR.upd{A:AL}{G:St}{H:Hp}{D:Ev}(E:EnvR A M G H D){p:Addr}(Z:A p)(hn:∀i w,i∈M->D[i]?=some (some w)->G[i]?≠some (some (.ref p)))(np:NP o)(nt:Mt o):EnvR A M G (L2.upd H p o) D where
 len:=E.len
 val:=λi w e=>by
  obtain⟨v,h1,h2,h3⟩:=E.val i w e;show#[v,h1,λz=>?_,λz=>?_];change WAt _ _ _ _;rw[yw Z];show h2 z;obtain⟨a,F,h4,O,Y⟩:=h3 z;have J:a≠p:=λq=>hn i w z e (by rw[h1,F,q]);show#[a,F,h4,?_,Y];change WAt _ _ _ _;rw[yw Z]
  cases w with
  | d x=>
   cases x with
   | lst l=>obtain⟨U,xs,B,I,g2⟩:=O;rw[F] at B;cases B;show#[a,xs,F,by rw[zf J];show I,g2]
   | dct=>obtain⟨U,xs,B,I,g2⟩:=O;rw[F] at B;cases B;show#[a,xs,F,by rw[zf J];show I,g2]
   | _=>cases Y
  | pen p=>cases Y
  | dk k=>obtain⟨U,xs,B,I,g2⟩:=O;rw[F] at B;cases B;show#[a,xs,F,by rw[zf J];show I,g2]
  | dt k=>obtain⟨U,xs,B,I,g2⟩:=O;rw[F] at B;cases B;show#[a,xs,F,by rw[zf J];show I,g2]
  | ss P w k=>obtain⟨U,xs,B,I,g2⟩:=O;rw[F] at B;cases B;show#[a,xs,F,by rw[zf J];show I,g2]
  | df k=>obtain⟨U,ob,xs,B,I,g2⟩:=O;rw[F] at B;cases B;show#[a,ob,xs,F,by right,g2]
  | kf k=>obtain⟨U,ob,xs,B,I,g2⟩:=O;rw[F] at B;cases B;show#[a,ob,xs,F,by right,g2]
  | ad a x=>cases Y
  | tz BC x=>cases Y
  | fl k=>obtain⟨U,ob,xs,B,I,g2⟩:=O;rw[F] at B;cases B;show#[a,ob,xs,F,by right,g2]
 dis:=E.dis
 al:=λa h=>by
  by_cases ha:a=p;subst ha;show#[o,zh,np,nt];rw[zf ha];show E.al a h
def zaf.upd{A:AL}{H:Hp}{p:Addr}(h:zaf Pn A n H)(B:A p):zaf Pn A n (L2.upd H p o):=by
 show#[?_,Pn.J.upd h.2 B];have h:=h.1;split at h;trivial
 ·show#[?_,h.2];rename_i q c ns _;obtain⟨h1,h2,F⟩:=h;have I:∀r,ns=0::r->c≠p:=λr e z=>h2 r e (z ▸ B);have O:q≠p:=λz=>F (z ▸ B);obtain⟨a,l,U,g2,Y,Z⟩:=h1.ob;show#[#[a,l,by rw[zf O];show U,g2,Y,Z],h1.ls.upd I,h1.len]
end
structure JS (X:Cx)(Pn:PN)(S M:AR)(fr:Bool)(st:Stmt)(fs:Ms):Prop where
 ex:∃ts,QS X st ts/\RS Pn S M fr ts fs
structure JSs (X:Cx)(Pn:PN)(S M:AR)(fr:Bool)(st:List Stmt)(fs:Ms):Prop where
 ex:∃ts,QSs X st ts/\RS Pn S M fr ts fs
section
variable {X:Cx}{Pn:PN}{M S:AR}{fr fr':Bool}{e a b c:Expr}{es:AO}{f fa fb fc:AD}{pos p:Pos}
def zaf.grow'(h:zaf Pn A n H)(h':zaf Pn A m H')(I:Fr H q)(g:H' q=some o)(B:NP o)(O:Mt o):zaf Pn (λb=>A b\/b=q) m H':=by
 show#[?_,Pn.J.grow h'.2 λa z=>z.imp_right λe=>#[o,by rw[e];show g,B,O]];have h:=h.1;have h':=h'.1;revert h h'
 cases Pn.pn with
 | none=>show λ_ _=>trivial
 | some x=>
  obtain⟨p,c,ns⟩:=x;intro h h';show#[h'.1,λr F z=>z.elim (h'.2.1 r F) λz=>?_,λz=>z.elim h'.2.2 λz=>?_];subst z;rcases h.1.ls with ⟨r',e',o,z⟩ | ⟨r',e'⟩;show I _ z (λ_ e=>by cases e);rw[F] at e';cases e';subst z;obtain⟨a,l,e,_⟩:=h'.1.ob;rw[e] at g;cases g;have:=B _ BA;rw[zpR] at this;cases this
def ztN(h:∀C s H ex,JE (zW X scope N C s H ex) Pn M fr e f):∃te,(∀C s H ex,QE (zW X scope N C s H ex) e te)/\RE Pn M fr te f:=
 #[λG H Q=>∀C s H0 ex,(h C s H0 ex).ex.choose G H Q,λC s H0 ex=>#[λBB s' G H Q I z=>(h C s H0 ex).ex.choose_spec.1.run BB s' G H Q I (z C s H0 ex)],
  #[λA G H D n Q R E P q k C s H0 ex=>(h C s H0 ex).ex.choose_spec.2.run A G H D n Q R E P q k]]
def ztP(h:∀C s H ex,JTs (zW X scope N C s H ex) Pn M es q):∃te,(∀C s H ex,QTs (zW X scope N C s H ex) es te)/\RT Pn M te q:=
 #[λG H Q=>∀C s H0 ex,(h C s H0 ex).ex.choose G H Q,λC s H0 ex=>#[λBB s' G H Q I z=>(h C s H0 ex).ex.choose_spec.1.run BB s' G H Q I (z C s H0 ex)],
  #[λA G H D n Q R E P B k C s H0 ex=>(h C s H0 ex).ex.choose_spec.2.run A G H D n Q R E P B k]]
def ztO(h:∀C s H ex,JG (zW X scope N C s H ex) S M e mg):∃g,(∀C s H ex,QG (zW X scope N C s H ex) e g)/\RG S M g mg:=
 #[λv G H Q=>∀C s H0 ex,(h C s H0 ex).ex.choose v G H Q,λC s H0 ex=>#[λBB s' G H v u Q I q z=>(h C s H0 ex).ex.choose_spec.1.run BB s' G H v u Q I q (z C s H0 ex)],
  #[λA G H D v w Q R E B F k C s H0 ex=>(h C s H0 ex).ex.choose_spec.2.run A G H D v w Q R E B F k]]
def zeP (mg:W->Ev->(Ev->Prop)->Prop)(U:Ev->Mo Bool)(Y:AD)(J:Ev)(Q:AV):AU->Nat->Prop:=λl Z=>l.length<=lim/\∃I:Nat->Ev->Nat->AS->Prop,I 0 J Z []/\
 (∀i w q F acc,l[i]?=some w->I i q F acc->mg w q λB=>U B F λb O=>if b=true then Y B O λx n3=>∃d,x = .d d/\I (i+1) B n3 (acc++[d]) else I (i+1) B O acc)/\
 ∀ q F acc,I l.length q F acc->Q (.d (.lst acc)) F
abbrev zph (q:AC) (mg:W->Ev->(Ev->Prop)->Prop) (B:Ev->Mo Bool) (F:AD) (BD:List (Option Nat)):AD:=λD n Q=>q D n (zeP mg B F (ziJ D BD) Q)
def zkM(hn:(BD.filterMap id).Nodup)(hi:RI Pn M ow wi fi)(hg:RG (zbM M BD) (zbM M BD) g mg)(ht:RT Pn (zbM M BD) ti ft)(he:RE Pn (zbM M BD) fr' te fe):RE Pn M true (zk0 wi g ti te BD) (zph fi mg ft fe BD):=#[λA G H D n Q R E P hf k=>by
 show hi.run A G H D n _ _ E P hf λl m J H1 ⟨hz,I,i0,it,ie⟩ iv g1=>λacc B=>?_;have E1:=E.stay g1.st;have E2:=(E1.cap hn).more (zA.upd (o:=.lst []) B) (Fr.of B) zh NP.lst BA;have P2:zaf Pn (λb=>A b\/b=acc) m (L2.upd H1 acc (.lst [])):=g1.pn.grow' (g1.pn.same (yZ.upd B)) (Fr.of B) zh NP.lst BA;have a3:∀k w,k∈zbM M BD->(ziJ D BD)[k]?=some (some w)->(zeO G BD)[k]?≠some (some (.ref acc)):=λk w hk hw z=>by obtain⟨v,s1,_,s3⟩:=(E1.cap hn).val k w hw;obtain⟨a,e,hA,_⟩:=s3 hk;rw[z] at s1;cases s1;cases e;show E1.new B hA
 have key:∀ O F H',EnvR (λb=>A b\/b=acc) (zbM M BD) O H' F->(∀k∈zbM M BD,O[k]?=(zeO G BD)[k]?/\F[k]?=(ziJ D BD)[k]?)->∀k w,k∈zbM M BD->F[k]?=some (some w)->O[k]?≠some (some (.ref acc)):=λO F H' E' ap k w hk hw z=>by right
 show#[λi mm O H'=>mm=l.length - i/\i<=l.length/\∃ F n' q xs,EnvR (λb=>A b\/b=acc) (zbM M BD) O H' F/\zaf Pn (λb=>A b\/b=acc) n' H'/\I i F n' q/\H' acc=some (.lst xs)/\IsL (ya (λb=>A b\/b=acc) H') q xs/\q.length<=i/\zA (ya A H1) (ya (λb=>A b\/b=acc) H')/\zA H1 H'/\(∀k∈zbM M BD,O[k]?=(zeO G BD)[k]?/\F[k]?=(ziJ D BD)[k]?),
  #[l.length,by simp,aL _,_,m,[],[],E2,P2,i0,zh,BA,ai _,x4 (zA.upd B) (Fr.of B),zA.upd B,λk hk=>#[BA,BA]],?_]
 rintro i mm O H' ⟨rfl,a4,F,n',q,xs,E',P',hI,ad,Y,a5,st,s1,ap⟩;by_cases a0:i<l.length
 show Or.inr ?_;have an:l[i]?=some l[i]:=ak a0;obtain⟨go,yl⟩:=iv.one i l[i] _ H' an st (λ_=>s1) λp hp=>E'.new hp
 show#[go,λas H2=>∃ F n' q xs,EnvR (λb=>A b\/b=acc) (zbM M BD) as H2 F/\zaf Pn (λb=>A b\/b=acc) n' H2/\I (i+1) F n' q/\H2 acc=some (.lst xs)/\IsL (ya (λb=>A b\/b=acc) H2) q xs/\q.length<=i+1/\zA (ya A H1) (ya (λb=>A b\/b=acc) H2)/\zA H1 H2/\(∀k∈zbM M BD,as[k]?=(zeO G BD)[k]?/\F[k]?=(ziJ D BD)[k]?),
  λas H2 h=>#[l.length - (i+1),by lia,BA,a0,h],λx H2 hy=>?_]
 obtain⟨S2,V2⟩:=yl x H2 hy;show hg.run _ O H2 F x l[i] _ _ (E'.stay (zA.same S2)) V2 (it i l[i] F n' q an hI) λag U r3 E3 f3=>?_;have Z:∀k∈zbM M BD,ag[k]?=(zeO G BD)[k]?/\U[k]?=(ziJ D BD)[k]?:=λk hk=>#[(f3 k hk).1.trans (ap k hk).1,(f3 k hk).2.trans (ap k hk).2];show ht.run _ ag H2 U n' _ _ E3 (P'.same S2) r3 λb m3 H4 r4 g4=>?_;have ac:=(zA.same S2).trans g4.st
 cases b with
 | false=>
  rw[if_neg (by ext)] at r4 ⊢;show#[U,m3,q,xs,E3.stay g4.st,g4.pn,r4,ac.lst ad,Y.stay (yE ac),by lia,st.trans (yE ac),s1.trans ac,Z]
 | true=>
  rw[if_pos rfl] at r4 ⊢;show he.run _ ag H4 U m3 _ _ (E3.stay g4.st) g4.pn r4  ?_;rintro w5 m5 v5 H5 ⟨d,e5,r5⟩ V5 g5 _;subst e5;have al:=ac.trans g5.st;have E5:=(E3.stay g4.st).stay g5.st;have a1:=al.lst ad;show#[xs,a1,zhl (by rw[Y.length];lia),U,m5,q++[d],xs++[v5],E5.upd (.inr BA) (key ag U H5 E5 Z) NP.lst BA,g5.pn.upd (.inr BA),r5,zh,?_,by right,?_,?_,Z];rw[yw (.inr BA)];show (Y.stay (yE al)).append (IsL.one V5.is);rw[yw (.inr BA)];show st.trans (yE al);show λb o e nn=>by rw[zf (zc e B)];show s1.trans al b o e nn
 show Or.inl ?_;have a2:i=l.length:=by lia
 subst a2;show#[iv.stop _ H' st (λ_=>s1),k _ n' _ H' (ie F n' q hI) (Val.of #[acc,xs,BA,zw (E1.new B) ad,Y.stay (zA.same (xZ λb z=>.inl z))]) (g1.trans #[s1,P'.less λa z=>.inl z]) λ_=>#[acc,BA,(Fr.of B).back g1.st,acc,xs,BA,ad,Y]]]
abbrev zui:Ev->Mo Bool:=λ_ n Q=>Q true n
def xo:JTs X Pn M [] zui:=#[_,zqn,#[λA G H D n Q R E P q k=>k true n H q (Go.refl P)]]
def zdQ(h:JT X Pn M c q):JTs X Pn M [c] q:=let ⟨t,h1,h2⟩:=h.ex;#[t,zkH h1,h2]
def uC(J:X.calm=true)(O:CompOk X scope N BD)(hi:JI X Pn M I tg iter q)(U:∀C s H ex,JG (zW X scope N C s H ex) (zbM M BD) (zbM M BD) tg mg)(Y:∀C s H ex,JTs (zW X scope N C s H ex) Pn (zbM M BD) ifs B)(Z:∀C s H ex,JE (zW X scope N C s H ex) Pn (zbM M BD) fr' elt F)(hn:(BD.filterMap id).Nodup:=by ext)(hs:∀x,foldedSetIterable iter X.env x=pure x:=by intro _;rfl):JE X Pn M true (.ListComp elt [#[tg,iter,ifs,0]] scope pos) (zph q mg B F BD):=by
 obtain⟨ti,qi,ri⟩:=hi.ex;obtain⟨g,qg,rg⟩:=ztO U;obtain⟨tt,qt,rt⟩:=ztP Y;obtain⟨te,qe,re⟩:=ztN Z;show#[_,zmH J O qi qg qt qe hs,zkM hn ri rg rt re]
def zdP{ifs:AO}{scope:Scope}{N:AM}{BD:List (Option Nat)}{O:AC}{mg:W->Ev->(Ev->Prop)->Prop}{U:Ev->Mo Bool}{Y:AD}{nx:Str}{px spos:Pos}(q:X.N.Nodup)(B:X.N[ix]?=some nx)(F:X.env.scope.names.lookup nx=some .local)(hc:X.calm=true)(cc:CompOk X scope N BD)(hi:JI X Pn M Z tg iter O)(hg:∀C s H ex,JG (zW X scope N C s H ex) (zbM M BD) (zbM M BD) tg mg)(ht:∀C s H ex,JTs (zW X scope N C s H ex) Pn (zbM M BD) ifs U)(he:∀C s H ex,JE (zW X scope N C s H ex) Pn (zbM M BD) fr' elt Y)(hn:(BD.filterMap id).Nodup:=by ext)(I:swapsWithSole [.Name nx px] (.ListComp elt [#[tg,iter,ifs,0]] scope pos) spos.line X.env=pure true:=by rfl)(hs:∀x,foldedSetIterable iter X.env x=pure x:=by intro _;rfl)(J:(assignEach [.Name nx px] X.env).map (·.2)=[assign (.Name nx px) X.env]:=by rfl):∃te,QS X (.Assign [.Name nx px] (.ListComp elt [#[tg,iter,ifs,0]] scope pos) spos) (ziK te (zbA ix))/\RE Pn M true te (zph O mg U Y BD):=by
 obtain⟨ti,qi,ri⟩:=hi.ex;obtain⟨g,qg,rg⟩:=ztO hg;obtain⟨tt,qt,rt⟩:=ztP ht;obtain⟨te,qe,re⟩:=ztN he;show#[_,zqm q B F hc cc qi qg qt qe I hs J,zkM hn ri rg rt re]
def At3.step(h:At3 Pn B S M A G H D n)(g:Go Pn A H m H'):At3 Pn B S M A G H' D m where
 env:=h.env.stay g.st
 frm:=#[h.frm.sub,h.frm.new,λb o e n c=>g.st b o (h.frm.st b o e n c) n,h.frm.al,h.frm.cn,λa z=>let ⟨o,e,n⟩:=h.frm.cs a z;#[o,g.st a o e n,n]]
 pn:=g.pn
 prot:=h.prot.trans (yE g.st)
 fix:=h.fix
 mine:=h.mine
abbrev mRet (f:AD):Ms:=λD n k=>f D n k.rt
def ztg(h:RE Pn M fr te f):RS Pn S M fr (ztz te) (mRet f):=#[λB A G H D n k BG a F I=>by
 show h.run A G H D n _ _ a.env a.pn I λw m v H' r J g O=>?_;have U:=a.step g;show F.rt w m v H' (WAt.up (zA.same (xZ a.frm.sub)) (zA.same (xZ a.frm.sub)) J) U.frm.st (g.pn.less a.frm.sub) (λz=>by obtain⟨b,e,q,Y⟩:=O z;show FrV.less #[b,e,a.frm.back q (a.env.newF q),Y] a.frm.sub) r]
def zp (h:JE X Pn M fr e f):JS X Pn S M fr (.Return (some e) pos) (mRet f):=let ⟨te,q,r⟩:=h.ex;#[_,u5 q,ztg r]
def zpr (i:Nat):Ms:=λD n k=>∃w,D[i]?=some (some w)/\k.rt w n
def zqz(hi:i∈M):RS Pn S M fr (ztz (za6 i)) (zpr i):=#[by
 rintro B A G H D n k BG a kk ⟨w,e,r⟩;obtain⟨v,s1,_,s3⟩:=a.env.val i w e;obtain⟨ad,rfl,hA,J,Z⟩:=s3 hi;have Y:=a.mine i w ad hi e s1
 have hn:¬ B.A0 ad:=λz=>by
  rcases Y with Y | Y;obtain⟨o,o1,o2,_⟩:=a.frm.al ad z;show Y o o1 o2;show a.frm.cn ad Y z
 have q:yZ (ya A H) (ya B.A0 H):=xZ a.frm.sub;have O:yZ (ya A H) (ya (λb=>B.A0 b\/b=ad) H):=xZ λb z=>z.elim (a.frm.sub b) λz=>z ▸ hA;show#[.ref ad,s1,kk.rt w n (.ref ad) H ?_ a.frm.st (a.pn.less a.frm.sub) (λz=>#[ad,BA,Y.resolve_right (kk.fc ad),WAt.up (zA.refl _) (zA.same O) J]) r]
 cases w with
 | d x=>
  cases x with
  | lst l=>obtain⟨U,xs,F,I,g2⟩:=J;cases F;show#[ad,xs,BA,zw hn I,g2.stay (zA.same q)]
  | dct=>obtain⟨U,xs,F,I,g2⟩:=J;cases F;show#[ad,xs,BA,zw hn I,g2]
  | _=>cases Z
 | pen p=>cases Z
 | dk BC=>obtain⟨U,xs,F,I,g2,g3⟩:=J;cases F;show#[ad,xs,BA,zw hn I,g2.stay (zA.same q),g3]
 | dt BC=>obtain⟨U,xs,F,I,g2⟩:=J;cases F;show#[ad,xs,BA,zw hn I,g2.stay (zA.same q)]
 | ss P w BC=>obtain⟨U,xs,F,I,g2⟩:=J;cases F;show#[ad,xs,BA,zw hn I,g2.stay (zA.same q)]
 | kf BC=>obtain⟨U,ob,xs,F,I,g2⟩:=J;cases F;show#[ad,ob,xs,BA,zw hn I,g2.stay (zA.same q)]
 | ad a x=>cases Z
 | tz BC x=>cases Z
 | fl BC=>obtain⟨U,ob,xs,F,I,g2⟩:=J;cases F;show#[ad,ob,xs,BA,zw hn I,g2.stay (zA.same q)]
 | df BC=>obtain⟨U,ob,xs,F,I,g2⟩:=J;cases F;show#[ad,ob,xs,BA,zw hn I,g2.stay (zA.same q)]]
def zjM (i:Nat){x:Str}(hi:i∈M:=by ext)(B:X.N[i]?=some x:=by rfl)(F:Vis X.env.scope x:=by fail"v")(I:Ah x:=by ext)
  (q:(x==("__classdict__" : Str))=false:=by ext) {pos':Pos}:JS X Pn S M fr (.Return (some (.Name x pos)) pos') (zpr i):=#[_,u5 (qv i B F I q),zqz hi]
abbrev zpg (f:AD) (mg:W->Ev->(Ev->Prop)->Prop):Ms:=λD n k=>f D n λw m=>mg w D λq=>k.nx q m
def EnvR.mineG(a:At3 Pn B S M A G H D n)(E:EnvR A M q H F)(f:∀i∈S++M,q[i]?=G[i]?/\F[i]?=D[i]?):At3 Pn B S M A q H F n where
 env:=E
 frm:=a.frm
 pn:=a.pn
 prot:=a.prot
 fix:=#[λi hi=>(f i (aF.mpr (.inl hi))).1.trans (a.fix.1 i hi),a.fix.2]
 mine:=λi w I hi e s=>by obtain⟨J,O⟩:=f i (aF.mpr (.inr hi));rw[J] at s;rw[O] at e;show a.mine i w I hi e s
def zkP(h:RE Pn M fr' te f)(J:RG (S++M) M g mg):RS Pn S M fr (ziK te g) (zpg f mg):=#[λB A G H D n k BG a O U=>by show h.run A G H D n _ _ a.env a.pn U λw m v H' r Y g' _=>?_;have I:=a.step g';show J.run A G H' D v w _ _ I.env Y r λq F Z E2 f2=>O.nx A q H' F m (EnvR.mineG I E2 f2) Z]
def zu {i:Nat}{x:Str}{pos':Pos}(I:X.N.Nodup)(J:JE X Pn M fr' e f)(hi:X.N[i]?=some x:=by rfl)(O:Loc X.env.scope x:=by first | show Or.inl BA | show Or.inr BA)(B:i∉M:=by ext)(F:i∉S++M:=by ext)(hs:swapsWith e (some (.Name x pos')) pos.line X.env=pure false:=by rfl)(U:X.fn x=true\/X.env.scope.names.lookup x=some .local:=by fail"l") :
  JS X Pn S M fr (.Assign [.Name x pos'] e pos) (zpg f (gN i)):=let ⟨te,q,r⟩:=J.ex;#[_,u6 I hi O q hs U,zkP r (zen B F)]
def zo5{st:Stmt}(h:∃te,QS X st (ziK te (zbA i))/\RE Pn M true te f)(B:i∉M:=by ext)(F:i∉S++M:=by ext):JS X Pn S M fr st (zpg f (gN i)):=let ⟨te,q,r⟩:=h;#[_,q,zkP r (zen B F)]
def zrW(B:JE X Pn M fr' e f)(F:JG X (S++M) M tg mg)(hs:swapsWithSole [tg] e pos.line X.env=pure false:=by rfl)(I:swappedStores [tg] e X.env=pure none:=by rfl)(h1:(assignEach [tg] X.env).map (·.2)=[assign tg X.env]:=by rfl):JS X Pn S M fr (.Assign [tg] e pos) (zpg f mg):=let ⟨te,q,r⟩:=B.ex;let ⟨g,q2,r2⟩:=F.ex;#[_,zkF q q2 hs I h1,zkP r r2]
def zr8 (i:Nat)(f:AD):Ms:=λD n k=>f D n λw m=>w.mut=true/\k.nx (D.set i (some w)) m
def zpu(h:WAt T BF w v)(hm:w.mut=true):∃a o,v = .ref a/\T a=some o/\NP o/\Mt o:=by
 cases w with
 | d x=>
  cases x with
  | lst l=>obtain⟨a,xs,e,g1,_⟩:=h;show#[a,_,e,g1,NP.lst,BA]
  | dct=>obtain⟨a,xs,e,g1,g2⟩:=h;show#[a,_,e,g1,λk z=>by cases z;show g2,BA]
  | _=>cases hm
 | pen p=>cases hm
 | dk BC=>obtain⟨a,xs,e,g1,_,g3⟩:=h;show#[a,_,e,g1,λk z=>by cases z;show g3,BA]
 | dt BC=>obtain⟨a,xs,e,g1,_⟩:=h;show#[a,_,e,g1,(λk z=>by cases z),BA]
 | ss P w BC=>obtain⟨a,xs,e,g1,_⟩:=h;show#[a,_,e,g1,zhr,BA]
 | df BC=>cases hm
 | kf BC=>cases hm
 | ad a x=>cases hm
 | tz BC x=>cases hm
 | fl BC=>cases hm
def zn4(h:RE Pn M true te f)(hi:i∈M)(hs:i∉S):RS Pn S M fr (ziK te (zbA i)) (zr8 i f):=#[λB A G H D n k BG a kk hf=>by
 show h.run A G H D n _ _ a.env a.pn hf  ?_;rintro w m v H' ⟨hm,r⟩ hv g' ag;obtain⟨Z,rfl,U,hb⟩:=ag BA;obtain⟨a2,o,Y,ho,np,nt⟩:=zpu hb hm;cases Y;have E1:=a.env.more g'.st U ho np nt;have ac:¬ A Z:=a.env.newF U;show kk.nx (λb=>A b\/b=Z) _ H' _ m #[#[?_,?_,?_,E1.al],#[λb z=>.inl (a.frm.sub b z),λb z=>?_,λb o e n c=>g'.st b o (a.frm.st b o e n c) n,a.frm.al,a.frm.cn,λb z=>let ⟨o,e,n⟩:=a.frm.cs b z;#[o,g'.st b o e n,n]],a.pn.grow' g'.pn U ho np nt,a.prot.trans (x4 g'.st U),#[λj I=>?_,a.fix.2],λj u b I e s=>?_] r;rw[bR,bR];show a.env.len;intro j u e;by_cases I:j=i;subst I
 have J:j<D.length:=by
  have:=(ah.mp e).1;right
 rw[aV J] at e;cases e;show#[.ref Z,aV (by rw[a.env.len];show J),λz=>absurd hi z,λ_=>#[Z,BA,.inr BA,hb,hm]];rw[aw (Ne.symm I)] at e ⊢;show E1.val j u e;intro j l u u' b I J O e1 Y s1 s2
 have an:∀q u,q∈M->q≠i->D[q]?=some (some u)->G[q]?≠some (some (.ref Z)):=λq u hq a0 eq sq=>by
  obtain⟨v,s,_,s3⟩:=a.env.val q u eq;obtain⟨c,ec,hc,_⟩:=s3 hq;right
 have ap:∀q (u:W),(D.set i (some w))[q]?=some (some u)->q<G.length:=λq u e=>by have:=(ah.mp e).1;rw[bR] at this;rw[a.env.len];show this
 by_cases F:j=i;subst F;rw[aV (ap _ _ e1)] at s1;cases s1;rw[aw O] at Y s2;show an l u' J (Ne.symm O) Y s2;rw[aw (Ne.symm F)] at e1 s1;by_cases as:l=i;right;rw[aw (Ne.symm as)] at Y s2;show a.env.dis j l u u' b I J O e1 Y s1 s2;rcases z with z | z;show a.frm.new b z;subst z;show .inr (.inl (a.frm.back U ac));rw[aw λ(z:i=j)=>hs (by rw[z];show I)];show a.fix.1 j I;by_cases F:j=i;subst F
 have J:j<G.length:=by
  have:=(ah.mp s).1;right
 rw[aV J] at s;cases s;show .inl (a.frm.back U ac);rw[aw (Ne.symm F)] at e s;show a.mine j u b I e s]
def zat {i:Nat}{x:Str}{pos':Pos}(I:X.N.Nodup)(J:JE X Pn M true e f)(hi:X.N[i]?=some x:=by rfl)(O:Loc X.env.scope x:=by first | show Or.inl BA | show Or.inr BA)(B:i∈M:=by ext)(F:i∉S:=by ext)(hs:swapsWith e (some (.Name x pos')) pos.line X.env=pure false:=by rfl)(U:X.fn x=true\/X.env.scope.names.lookup x=some .local:=by fail"l") :
  JS X Pn S M fr (.Assign [.Name x pos'] e pos) (zr8 i f):=let ⟨te,q,r⟩:=J.ex;#[_,u6 I hi O q hs U,zn4 r B F]
def zjL{st:Stmt}(h:∃te,QS X st (ziK te (zbA i))/\RE Pn M true te f)(B:i∈M:=by ext)(F:i∉S:=by ext):JS X Pn S M fr st (zr8 i f):=let ⟨te,q,r⟩:=h;#[_,q,zn4 r B F]
variable {st:Stmt}{BE:List Stmt}{fs gs:Ms}
abbrev mNx:Ms:=λD n k=>k.nx D n
structure blk (g:Ms)(D:Ev)(n:Nat)(k:Kt):Prop where
 go:g D n k
def zrm(h:g D n k):blk g D n k:=#[h]
def zrl:blk g D n k=g D n k:=propext #[λh=>h.go,λh=>#[h]]
abbrev mSeq (f g:Ms):Ms:=λD n k=>f D n { k with nx:=λq B=>blk g q B k }
def zvp (t:Ev->Mo Bool)(f g:Ms):Ms:=λD n k=>t D n λc m=>if c=true then blk f D m k else blk g D m k
def zx:JSs X Pn S M fr [] mNx:=#[_,zcw,#[λB A G H D n k BG a q F=>q.nx A G H D n a F]]
def zth(h1:RS Pn S M fr t fs)(h2:RS Pn S M fr u gs):RS Pn S M fr (zqS t u) (mSeq fs gs):=#[λB A G H D n k BG a F O=>
 h1.run B A G H D n { k with nx:=λq I=>blk gs q I k } _ a #[λA' J H' q I U r=>h2.run B A' J H' q I k BG U F r.go,F.bk,F.ct,F.fc,F.rt] O]
def zb (h1:JS X Pn S M fr st fs)(h2:JSs X Pn S M fr BE gs):JSs X Pn S M fr (st::BE) (mSeq fs gs):=let ⟨t,q,r⟩:=h1.ex;let ⟨u,q2,r2⟩:=h2.ex;#[_,yi q q2,zth r r2]
def zg (h1:JS X Pn S M fr st fs):JSs X Pn S M fr [st] fs:=let ⟨t,q,r⟩:=h1.ex;#[_,xy q,r]
def yp(F:JT X Pn M c t)(I:JSs X Pn S M fr body fs)(J:JSs X Pn S M fr other gs):JS X Pn S M fr (.If c body other pos) (zvp t fs gs):=by
 obtain⟨tc,O,U⟩:=F.ex;obtain⟨ta,Y,ra⟩:=I.ex;obtain⟨tb,Z,rb⟩:=J.ex;show#[_,zkG O Y Z,#[λB A G H D n k BG a q hf=>?_]];show U.run A G H D n _ _ a.env a.pn hf λc m H1 r g=>?_
 cases c with
 | true=>rw[if_pos rfl] at r ⊢;show ra.run B A G H1 D m k BG (a.step g) q r.go
 | false=>rw[if_neg (by ext)] at r ⊢;show rb.run B A G H1 D m k BG (a.step g) q r.go
abbrev mDrop (f:AD):Ms:=λD n k=>f D n λ_ m=>k.nx D m
def At3.wr(h:At3 Pn B S M A G H D n)(hi:i∈M)(e:D[i]?=some (some w))(s:G[i]?=some (some (.ref ad)))(hl:IsL (ya A H) l xs):At3 Pn B S M A G (L2.upd H ad (.lst xs)) (D.set i (some (.d (.lst l)))) n:=by
 obtain⟨v,s1,_,s3⟩:=h.env.val i w e;rw[s] at s1;cases s1;obtain⟨Y,F,hA,_,_⟩:=s3 hi;cases F;have ac:i<D.length:=(ah.mp e).1
 have hE:EnvR A M G (L2.upd H ad (.lst xs)) (D.set i (some (.d (.lst l)))):=by
  show#[by rw[bR];show h.env.len,λj u Z=>?_,λj q u u' b hj hq I e1 F=>?_,λb hb=>?_];by_cases hj:j=i;subst hj;rw[aV ac] at Z;cases Z;show#[.ref ad,s,λz=>absurd hi z,λ_=>#[ad,BA,hA,#[ad,xs,BA,zh,by rw[yw hA];show hl],BA]];rw[aw (Ne.symm hj)] at Z;obtain⟨v,t1,t2,t3⟩:=h.env.val j u Z;show#[v,t1,λz=>?_,λz=>?_];change WAt _ _ _ _;rw[yw hA];show t2 z;obtain⟨b,rfl,hb,J,hm⟩:=t3 z;have I:b≠ad:=λq=>h.env.dis i j w u ad hi z (Ne.symm hj) e Z s (by rw[t1,q]);show#[b,BA,hb,?_,hm];change WAt _ _ _ _;rw[yw hA]
  cases u with
  | d x=>
   cases x with
   | lst l=>obtain⟨Y,xs,F,O,g2⟩:=J;cases F;show#[b,xs,BA,by rw[zf I];show O,g2]
   | dct=>obtain⟨Y,xs,F,O,g2⟩:=J;cases F;show#[b,xs,BA,by rw[zf I];show O,g2]
   | _=>cases hm
  | pen p=>cases hm
  | dk k=>obtain⟨Y,xs,F,O,g2⟩:=J;cases F;show#[b,xs,BA,by rw[zf I];show O,g2]
  | dt k=>obtain⟨Y,xs,F,O,g2⟩:=J;cases F;show#[b,xs,BA,by rw[zf I];show O,g2]
  | ss P w k=>obtain⟨Y,xs,F,O,g2⟩:=J;cases F;show#[b,xs,BA,by rw[zf I];show O,g2]
  | df k=>obtain⟨Y,ob,xs,F,O,g2⟩:=J;cases F;show#[b,ob,xs,BA,by right,g2]
  | kf k=>obtain⟨Y,ob,xs,F,O,g2⟩:=J;cases F;show#[b,ob,xs,BA,by right,g2]
  | ad a x=>cases hm
  | tz BC x=>cases hm
  | fl k=>obtain⟨Y,ob,xs,F,O,g2⟩:=J;cases F;show#[b,ob,xs,BA,by right,g2]
  have ag:∀q (u:W),(D.set i (some (.d (.lst l))))[q]?=some (some u)->∃u',D[q]?=some (some u'):=λq u z=>by
   by_cases hq:q=i;subst hq;show#[w,e];rw[aw (Ne.symm hq)] at z;show#[u,z]
  obtain⟨v1,f1⟩:=ag j u e1;obtain⟨v2,f2⟩:=ag q u' F;show h.env.dis j q v1 v2 b hj hq I f1 f2;by_cases U:b=ad;subst U;show#[_,zh,NP.lst,BA];rw[zf U];show h.env.al b hb
 show#[hE,#[h.frm.sub,h.frm.new,λb o eb nn nc=>?_,h.frm.al,h.frm.cn,λb z=>(by
  by_cases U:b=ad;subst U;show#[_,zh,NP.lst];rw[zf U];show h.frm.cs b z)],h.pn.upd hA,by rw[yw hA];show h.prot,h.fix,λj u b hj Z sj=>?_]
 have I:b≠ad:=λq=>by
  subst q;rcases h.mine i w b hi e s with z | z;show z o eb nn;show nc z
 rw[zf I];show h.frm.st b o eb nn nc;by_cases an:j=i;subst an;show h.mine j w b hj e sj;rw[aw (Ne.symm an)] at Z;show h.mine j u b hj Z sj
def zue (i:Nat)(f:AD):Ms:=λD n k=>(∃l,D[i]?=some (some (.d (.lst l))))/\f D n λw m=>∃l d,D[i]?=some (some (.d (.lst l)))/\w = .d d/\l.length<lim/\k.nx (D.set i (some (.d (.lst (l++[d]))))) m
def zte(h:RE Pn M fr' te f)(hi:i∈M):RS Pn S M fr (zqN (tBM K "list" zgD (za6 i) (zbG te zqQ))) (zue i f):=#[by
 rintro B A G H D n k BG a Y ⟨⟨l0,Z⟩,hf⟩;obtain⟨v,q,_,s3⟩:=a.env.val i _ Z;obtain⟨I,rfl,hA,hb,_⟩:=s3 hi;obtain⟨a2,ac,e2,g0,_⟩:=hb;cases e2;show#[.ref I,q,.inl #[BA,_,SqL.of g0],?_];show h.run A G H D n _ _ a.env a.pn hf  ?_;rintro w m v H' ⟨l,d,e,ed,hz,r⟩ hv g _;subst ed;have J:=a.step g;obtain⟨v2,O,_,t3⟩:=J.env.val i _ e;rw[q] at O;cases O;obtain⟨a3,e3,ag,F,_⟩:=t3 hi;cases e3;obtain⟨a4,xs,e4,g4,U⟩:=F;cases e4;show#[I,xs,v,BA,BA,g4,zhl (by rw[U.length];show c7 hz),Y.nx A G _ _ m (J.wr hi e q (U.append (IsL.one hv.is))) r]]
def zjK (i:Nat){x:Str}{Z J sp O:Pos}(he:JE X Pn M fr' e f)(hi:i∈M:=by ext)(hN:X.N[i]?=some x:=by rfl)(hv:Vis X.env.scope x:=by fail"v")(hd:Ah x:=by ext)
  (ac:(x==("__classdict__" : Str))=false:=by ext) (U:starEach (e::[]) X.env=(false,eval e X.env)::starEach [] X.env:=by rfl) (hs:swapsWith (.Call (.Attribute (.Name x O) "append" Z) [e] [] J) none sp.line X.env=pure false:=by rfl) (F:attributeBase (.Name x O) "append" X.env (eval (.Name x O) X.env)=eval (.Name x O) X.env:=by rfl) (I:(Z.endLine==J.line)=true:=by rfl)
  (Y:((backTo J (starEach [e] X.env)).all (λx=>!x.1)&&(backToKw J (keywordEach [] X.env)).all (λx=>x.1.isSome)&&decide (([e]:AO).length+([]:List Keyword).length+(if ([]:List Keyword).isEmpty then 0 else 1)<30))=true:=by rfl) (B:(backTo J (starEach [] X.env)).any (·.1)=false:=by rfl) :
  JS X Pn S M fr (.Expr (.Call (.Attribute (.Name x O) "append" Z) [e] [] J) sp) (zue i f):=by
 obtain⟨te,q,r⟩:=he.ex;show#[_,zgB (zsW (qv i hN hv hd ac) (zL q yM U) F Y I U B) hs,zte r hi]
def zoJ (mg:W->Ev->(Ev->Prop)->Prop)(fb:Ms)(D:Ev)(k:Kt):AU->Nat->Prop:=λl J=>∃I:Nat->Ev->Nat->Prop,I 0 D J/\
 (∀i w q B,l[i]?=some w->I i q B->mg w q λF=>fb F B { k with nx:=I (i+1),ct:=I (i+1),bk:=k.nx })/\∀ q B,I l.length q B->k.nx q B
abbrev mFor (q:AC) (mg:W->Ev->(Ev->Prop)->Prop) (fb:Ms):Ms:=λD n k=>q D n (zoJ mg fb D k)
def zlN{B:Bs}{A:AL}{G:St}{H1:Hp}{D:Ev}{k:Kt}{BG:Ends}{J:It}{l:AU}{g:TG}{tb:TS}{mg:W->Ev->(Ev->Prop)->Prop}{fb:Ms}(hg:RG (S++M) M g mg)(hb:RS Pn S M fr tb fb)(hS:9999∉S)(a1:At3 Pn B S M A G H1 D m)(kk:KOk Pn B S M fr k BG)(iv:ItV false A H1 J l)(hf:zoJ mg fb D k l m) :
  ∃W:Nat->Nat->St->Hp->Prop,(∃m,W 0 m G H1)/\∀i m G H,W i m G H->(J.stop i H/\BG.nx G H)\/(J.go i H/\∃N:St->Hp->Prop,(∀ O H',N O H'->∃m',m'<m/\W (i+1) m' O H')/\∀x H',J.yld i H x H'->g x G H' λZ H2=>tb { BG with nx:=N,ct:=N,bk:=BG.nx } Z H2):=by
 obtain⟨I,i0,it,ie⟩:=hf;have out:∀ {A':AL} {O:St} {H':Hp} {F:Ev} {U:Nat},At3 Pn { B with G0:=ya A H1 } S M A' O H' F U->At3 Pn B S M A' O H' F U:=λ{A' O H' F U} q=>#[q.env,q.frm,q.pn,a1.prot.trans q.prot,#[q.fix.1,a1.fix.2],q.mine];show#[λi mm O H'=>mm=l.length - i/\i<=l.length/\∃A' F U,At3 Pn { B with G0:=ya A H1 } S M A' O H' F U/\I i F U,#[l.length,by simp,aL _,A,D,m,#[a1.env,a1.frm,a1.pn,zA.refl _,#[a1.fix.1,λz=>absurd z hS],a1.mine],i0],?_];rintro i mm O H' ⟨rfl,as,A',F,U,a',hI⟩;by_cases ag:i<l.length
 show Or.inr ?_;have ac:l[i]?=some l[i]:=ak ag;obtain⟨go,yl⟩:=iv.one i l[i] A' H' ac a'.prot (λz=>by cases z) λp hp=>a'.env.new hp;show#[go,λZ H2=>∃A' F U,At3 Pn { B with G0:=ya A H1 } S M A' Z H2 F U/\I (i+1) F U,λZ H2 h=>#[l.length - (i+1),by lia,BA,ag,h],λx H2 hy=>?_];obtain⟨S2,V2⟩:=yl x H2 hy;have a2:=a'.step (Go.same a'.pn S2);show hg.run A' O H2 F x l[i] _ _ a2.env V2 (it i l[i] F U ac hI) λal an r3 E3 f3=>?_;show hb.run { B with G0:=ya A H1 } A' al H2 an U _ _ (EnvR.mineG a2 E3 f3) #[?_,?_,?_,kk.fc,?_] r3
 show λA4 ad H4 Y n4 a4 r4=>#[A4,Y,n4,a4,r4];show λA4 ad H4 Y n4 a4 r4=>kk.nx A4 ad H4 Y n4 (out a4) r4;show λA4 ad H4 Y n4 a4 r4=>#[A4,Y,n4,a4,r4];show kk.rt;show Or.inl ?_;have ap:i=l.length:=by lia
 subst ap;show#[iv.stop A' H' a'.prot (λz=>by cases z),kk.nx A' O H' F U (out a') (ie F U hI)]
def ztf {wi:TI}{g:TG}{tb:TS}{q:AC}{mg:W->Ev->(Ev->Prop)->Prop}{fb:Ms}(hi:RI Pn M false wi q)(F:RG (S++M) M g mg)(I:RS Pn S M fr tb fb)(O:9999∉S):RS Pn S M fr (zv6 wi g tb) (mFor q mg fb):=#[λB A G H D n k BG a U Y=>hi.run A G H D n _ _ a.env a.pn Y λl m J H1 Z iv g1=>zlN F I O (a.step g1) U iv Z]
def xa {tg iter:Expr}{body:List Stmt}{q:AC}{mg:W->Ev->(Ev->Prop)->Prop}{fb:Ms}(B:PassesOwn (model X.prog X.w) X.A X.env X.xe)(F:X.calm=true)(hi:JI X Pn M false tg iter q)(I:JG X (S++M) M tg mg)(J:JSs X Pn S M fr body fb)(hs:∀x,foldedSetIterable iter X.env x=pure x:=by intro _;rfl)(O:9999∉S:=by ext) :
  JS X Pn S M fr (.For tg iter body [] pos) (mFor q mg fb):=by
 obtain⟨ti,U,Y⟩:=hi.ex;obtain⟨Z,qg,rg⟩:=I.ex;obtain⟨tb,qb,rb⟩:=J.ex;show#[_,znZ B F U qg qb hs,ztf Y rg rb O]
def za4 (N:AM)(q:AU):Ev:=q.map some++List.replicate (N.length - q.length) none
theorem zbJ.get:∀ {q:AU} {vs:AT} {i:Nat} {w:W},zbJ A H q vs->q[i]?=some w->∃v,vs[i]?=some v/\Val A H w v
 | [],_,_,_,_,e=>by simp at e
 | x::q,vs,0,w,⟨v,r,B,h1,_⟩,e=>by right
 | x::q,vs,i+1,w,⟨v,r,B,_,h2⟩,e=>by
  subst B;obtain⟨u,F,I⟩:=zbJ.get (i:=i) h2 (by simpa using e);right
def zjh {A:AL}{H:Hp}{N:AM}{ws:AU}{vs:AT}(al:Al A H)(h:zbJ A H ws vs)(hM:∀i∈M,ws.length<=i):EnvR A M (L2.xB N vs) H (za4 N ws) where
 len:=by unfold L2.xB za4;rw[am,am,ab,ab,List.length_replicate,List.length_replicate,h.len]
 val:=λi w e=>by
  unfold za4 at e
  have hi:i<ws.length:=by
   apply bG;intro z;rw[aW (by right)] at e;obtain⟨_,q⟩:=ah.mp e;right
  rw[aC (by right),aD] at e;obtain⟨w',e1,e2⟩:=aJ.mp e;cases e2;obtain⟨v,h1,h2⟩:=h.get e1;show#[v,?_,λ_=>h2,λz=>absurd (hM i z) (by lia)];unfold L2.xB;have hi':i<vs.length:=by rw[h.len];show hi
  rw[aC (by right),aD,h1];rfl
 dis:=λi j w u ad hi hj hne e1=>by
  unfold za4 at e1;have:=hM i hi;rw[aW (by right)] at e1;obtain⟨_,q⟩:=ah.mp e1;right
 al:=al
def zse{P:Aa}{w:Ab}{K:AH}{mg:AI}{base:Heap}{J:Str}{f:Addr}{fd:Ac}{N ps:AM}{F:PN->AU->Mo W}(M:AR)(ac:(∀vs H Q E,spV m fr F vs H Q E->vs.length=ps.length)->(∀ (I:Value) (A:Ae) (B:List Env) (s:AZ) (H:Hp) (vs:AT) (Q:VK) (E:XK),Room k (A.deeper (PyProof.Rows.envOfC J (zd st) s.heap.objs.size f I))->spV m fr F vs H Q E->
   ∃t,QSs (zeG CX0 P w K mg base N J (zd st) f I A B s H E).nox (zB st) t/\t { nx:=λ_ H'=>Q .non H',rt:=Q } (L2.xB N vs) H)->FnOk P w K mg base CX0 (k+1) f fd ps (spV m fr F))(hm:m=ps.length)(hM:∀i∈M,m<=i)(O:∀ (I:Value) (A:Ae) (B:List Env) (s:AZ) (H:Hp) (E:XK) (Pn:PN),Room k (A.deeper (PyProof.Rows.envOfC J (zd st) s.heap.objs.size f I))->
   ∃fs,JSs (zeG CX0 P w K mg base N J (zd st) f I A B s H E).nox Pn [] M fr (zB st) fs/\∀U n R,U.length=m->F Pn U n R->fs (za4 N U) n { nx:=λ_ Z=>fr=false/\R (.d .non) Z,rt:=R }):FnOk P w K mg base CX0 (k+1) f fd ps (spV m fr F):=by
 show ac (λvs H Q E h=>?_) (λI A B s H vs Q E hr h=>?_);obtain⟨Pn,A,U,n,R,_,hv,hl,_⟩:=h;rw[hv.len,hl,hm];obtain⟨Pn,A3,U,n,R,al,hv,hl,hp,hF,q⟩:=h;obtain⟨fs,⟨t,qs,rs⟩,ad⟩:=O I A B s H E Pn hr;show#[t,qs,rs.run { A0:=A3,H0:=H,G0:=ya A3 H,σ0:=L2.xB N vs } A3 (L2.xB N vs) H (za4 N U) n _ _ #[zjh al hv (λi hi=>by right),#[λ_ z=>z,λ_ z=>.inl z,.of (zA.refl _),al,λ_ z=>z.elim,λ_ z=>z.elim],hp,zA.refl _,#[λi hi=>rfl,λz=>by cases z],λi w a hi e=>?_] #[?_,?_,?_,λ_ z=>z,?_] (ad U n R hl hF)];show absurd e (by unfold za4;have:=hM i hi;rw[aW (by right)];intro z;obtain⟨_,q⟩:=ah.mp z;rw[List.getElem_replicate] at q;cases q);intro A' an H' ap Z a' ⟨Y,r⟩;show q _ Z .non H' r (Val.of (show Is _ .non .non from rfl)) #[a'.frm.st.stay,a'.pn.less a'.frm.sub] λz=>by rw[Y] at z;cases z
 right;right;intro w Z v H' ag st pn Y r;show q w Z v H' r ag #[st.stay,pn] Y
end
section
variable {X:Cx}{Pn:PN}{M S:AR}{fr fr':Bool}{e a b c:Expr}{es:AO}{f fa fb fc:AD}{pos p p2:Pos}
def znK (B:Dt->Bool)(f:AD):AD:=λD n Q=>f D n λw m=>∃d,w = .d d/\Q (.d (.bl (B d))) m
def zkN(q:∀d:Dt,PySem.W.kitOne K (.type d.ty) (.type T)=some (B d))(h:RB Pn M te f):RE Pn M false (tCB (λxs H Q=>∃x T t b,xs=[x,.ty T]/\TyOf K H x t/\PySem.W.kitOne K t (.type T)=some b/\Q (.bl b) H) (zbG te (zbG (tC (.ty T)) zqQ))) (znK B f):=#[λA G H D n Q R E P F k=>by show h.run A G H D n _ _ E P F  ?_;rintro w m v H' ⟨d,e,r⟩ I g;subst e;show#[v,T,_,_,BA,I.is.ty,q d,k _ m _ H' r (Val.of BA) g λz=>by cases z]]
abbrev isStr:Dt->Bool
 | .str _=>true
 | _=>false
abbrev isDct:Dt->Bool
 | .dct=>true
 | _=>false
def zl1(Y:∀d:Dt,PySem.W.kitOne X.K (.type d.ty) (.type T)=some (B d))(Z:bootBuiltins x=some (.type T))(I:Gl X x)(hn:x ≠ "__name__")(hd:(x==("__debug__" : Str))=false)(hg:Gl X "isinstance")(hm:X.mg "isinstance" = none)(J:X.mg x=none)(h:JB X Pn M e f)(F:starEach (e::[.Name x p2]) X.env=(false,eval e X.env)::starEach [.Name x p2] X.env)(O:starEach (.Name x p2::[]) X.env=(false,eval (.Name x p2) X.env)::starEach [] X.env)(U:(backTo pos (starEach [.Name x p2] X.env)).any (·.1)=false):JE X Pn M false (.Call (.Name "isinstance" p) [e,.Name x p2] [] pos) (znK B f):=by
 obtain⟨te,q,r⟩:=h.ex;show#[_,xg zi1 hg hm PyProof.Rows.boot_isinstance (zL q (zL (zp8 (v:=.ty T) I J Z BA hn hd) yM O) F) (by ext) (by ext) F U,zkN Y r]
def zcT (O:Gl X "isinstance")(U:X.mg "isinstance" = none)(q:X.mg "tuple" = none)(h:JB X Pn M e f)(B:Gl X "tuple" := by rfl)(F:starEach (e::[.Name "tuple" p2]) X.env=(false,eval e X.env)::starEach [.Name "tuple" p2] X.env:=by rfl)(I:starEach (.Name "tuple" p2::[]) X.env=(false,eval (.Name "tuple" p2) X.env)::starEach [] X.env:=by rfl)(J:(backTo pos (starEach [.Name "tuple" p2] X.env)).any (·.1)=false:=by rfl) :
  JE X Pn M false (.Call (.Name "isinstance" p) [e,.Name "tuple" p2] [] pos) (znK Dt.isTup f):=zl1 (zpc _) bm B (by ext) (by ext) O U q h F I J
def zdN (O:Gl X "isinstance")(U:X.mg "isinstance" = none)(q:X.mg "list" = none)(h:JB X Pn M e f)(B:Gl X "list" := by rfl)(F:starEach (e::[.Name "list" p2]) X.env=(false,eval e X.env)::starEach [.Name "list" p2] X.env:=by rfl)(I:starEach (.Name "list" p2::[]) X.env=(false,eval (.Name "list" p2) X.env)::starEach [] X.env:=by rfl)(J:(backTo pos (starEach [.Name "list" p2] X.env)).any (·.1)=false:=by rfl) :
  JE X Pn M false (.Call (.Name "isinstance" p) [e,.Name "list" p2] [] pos) (znK Dt.isLst f):=zl1 (zpb _) eG B (by ext) (by ext) O U q h F I J
def ze9 (O:Gl X "isinstance")(U:X.mg "isinstance" = none)(q:X.mg "int" = none)(h:JB X Pn M e f)(B:Gl X "int" := by rfl)(F:starEach (e::[.Name "int" p2]) X.env=(false,eval e X.env)::starEach [.Name "int" p2] X.env:=by rfl)(I:starEach (.Name "int" p2::[]) X.env=(false,eval (.Name "int" p2) X.env)::starEach [] X.env:=by rfl)(J:(backTo pos (starEach [.Name "int" p2] X.env)).any (·.1)=false:=by rfl) :
  JE X Pn M false (.Call (.Name "isinstance" p) [e,.Name "int" p2] [] pos) (znK Dt.isInt f):=zl1 (zpa _) PyProof.Rows.boot_int B (by ext) (by ext) O U q h F I J
def zdM (O:Gl X "isinstance")(U:X.mg "isinstance" = none)(q:X.mg "bool" = none)(h:JB X Pn M e f)(B:Gl X "bool" := by rfl)(F:starEach (e::[.Name "bool" p2]) X.env=(false,eval e X.env)::starEach [.Name "bool" p2] X.env:=by rfl)(I:starEach (.Name "bool" p2::[]) X.env=(false,eval (.Name "bool" p2) X.env)::starEach [] X.env:=by rfl)(J:(backTo pos (starEach [.Name "bool" p2] X.env)).any (·.1)=false:=by rfl) :
  JE X Pn M false (.Call (.Name "isinstance" p) [e,.Name "bool" p2] [] pos) (znK Dt.isBl f):=zl1 (zr4 _) PyProof.Rows.boot_bool B (by ext) (by ext) O U q h F I J
def zmV (n:Nat):AS:=(List.range n).map λi:Nat=>Dt.int i
def zjD(n:Nat):IsL BF (zmV n) ((List.range n).map λi:Nat=>V.int i):=by
 have q:zmV n=(((List.range n).map λi:Nat=>(i:Int))).map Dt.int:=by unfold zmV;rw[aI];rfl
 have B:((List.range n).map λi:Nat=>V.int i)=(((List.range n).map λi:Nat=>(i:Int))).map V.int:=by rw[aI];rfl
 rw[q,B];show IsL.ints
def zdW (fa:AC):AD:=λD n Q=>fa D n λq m=>∃j:Nat,q=[.d (.int (j:Int))]/\j<=1000/\Q (.d (.lst (zmV j))) m
def zfa{q:Pos}{J:Pos}(hm:X.mg "list" = none)(O:X.mg "range" = none)(ha:JAB X Pn M [a] fs)(hc:X.calm=true:=by rfl)(hg:Gl X "list" := by rfl)(U:Gl X "range" := by rfl)(hs:starEach (a::[]) X.env=(false,eval a X.env)::starEach [] X.env:=by rfl)(F:starEach (.Call (.Name "range" J) [a] [] q::[]) X.env=(false,eval (.Call (.Name "range" J) [a] [] q) X.env)::starEach [] X.env:=by rfl)(Y:(backTo q (starEach [] X.env)).any (·.1)=false:=by rfl)(Z:(backTo pos (starEach [] X.env)).any (·.1)=false:=by rfl):JE X Pn M true (.Call (.Name "list" p) [.Call (.Name "range" J) [a] [] q] [] pos) (zdW fs):=by
 obtain⟨ta,qa,ra⟩:=ha.ex;show#[_,zcv (zf4 hc) hg hm eG (zL (zcv zlA U O PyProof.Rows.boot_range qa (by ext) (by ext) hs Y) yM F) (by ext) (by ext) F Z,#[λA G H D n Q R E P hf k=>?_]];show ra.run A G H D n _ _ E P hf  ?_;rintro ws m vs H1 ⟨j,e,hj,r⟩ bb g;subst e;obtain⟨v,rfl,b1⟩:=zbW bb;obtain rfl:=y4 b1;show#[_,BA,λp1 H2 np g2 S2=>#[p1,j,BA,g2,hj,λp3 H3 I g3 S3=>?_]];have B:=g.trans (Go.same g.pn S2);show k _ m _ H3 r (uA (H:=H2) (zjD j) (zA.same S3) ((E.stay B.st).new I) g3) (B.trans (Go.same B.pn S3)) λ_=>(uj (H:=H2) (zjD j) S3 I g3).back B.st
abbrev truD:W->Option Bool
 | .d (.lst l)=>some (!l.isEmpty)
 | .d (.tup l)=>some (!l.isEmpty)
 | .d (.bl b)=>some b
 | .d (.int i)=>some (i != 0)
 | .d .non=>some false
 | _=>none
def zho (F BF:W->W->Mo W)(fa fb fc:AD):AD:=λD n Q=>fa D n λx B=>fb D B λy I=>F x y I λz q=>∃k,z = .d (.bl k)/\if k=true then fc D q λu J=>BF y u J Q else Q (.d (.bl false)) q
def zmS(hr:F2 Pn false r F)(I:F2 Pn false O BF)(ha:RB Pn M ta fa)(hb:RB Pn M tb fb)(hc:RB Pn M tc fc):RE Pn M false (zkZ r O ta tb tc) (zho F BF fa fb fc):=#[λA G H D n Q R E P hf k=>by
 show ha.run A G H D n _ _ E P hf λx n1 v1 H1 r1 b1 J=>?_;show hb.run A G H1 D n1 _ _ (E.stay J.st) J.pn r1 λy n2 U H2 r2 Y g2=>?_;have g:=J.trans g2;show hr.run A H2 v1 U x y n2 _ _ (E.stay g.st).al (b1.stay g2.st) Y g2.pn r2  ?_;rintro w m v H' ⟨c,e,h1⟩ h2 Z h4;subst e;have hv:v = .bl c:=h2;show#[c,hv,?_];have q:=g.trans Z
 cases c with
 | false=>rw[if_neg (by ext)] at h1 ⊢;show k _ m _ H' h1 (Val.of BA) q λz=>by cases z
 | true=>
  rw[if_pos rfl] at h1 ⊢;show hc.run A G H' D m _ _ (E.stay q.st) q.pn h1 λu n4 v4 H4 r4 b4 B=>?_;show I.run A H4 U v4 y u n4 _ _ (E.stay (q.trans B).st).al (Y.stay (Z.trans B).st) b4 B.pn r4 λw5 m5 v5 H5 a1 a2 a3 a4=>k w5 m5 v5 H5 a1 a2 ((q.trans B).trans a3) λz=>by cases z]
def zoY(U:OpQ X (compareOp B) r)(I:OpQ X (compareOp q) O)(Y:F2 Pn false r F)(J:F2 Pn false O BF)(Z:JB X Pn M a fa)(hb:JB X Pn M b fb)(hc:JB X Pn M c fc)(hm:lastMarks [B,q] [b,c]=false:=by with_unfolding_all rfl):JE X Pn M false (.Compare a [B,q] [b,c] pos) (zho F BF fa fb fc):=by obtain⟨ta,qa,ra⟩:=Z.ex;obtain⟨tb,qb,rb⟩:=hb.ex;obtain⟨tc,qc,rc⟩:=hc.ex;show#[_,zmG U I qa qb qc hm,zmS Y J ra rb rc]
def At3.own(h:At3 Pn B S M A G H D n)(hi:i∈M)(e:D[i]?=some (some (.d (.lst l)))):∃q xs,G[i]?=some (some (.ref q))/\A q/\H q=some (.lst xs)/\IsL (ya A H) l xs:=by
 obtain⟨v,J,_,F⟩:=h.env.val i _ e;obtain⟨q,rfl,O,I,_⟩:=F hi;obtain⟨U,xs,Y,Z,hl⟩:=I;right
theorem zjE(q:Is BF d v):∀ {ds:AS} {xs:AT} (k:Nat),IsL BF ds xs->IsL BF (ds.set k d) (xs.set k v)
 | [],_,_,h=>by cases h;rfl
 | x::ds,xs,0,⟨y,r,e,h1,h2⟩=>by subst e;show#[v,r,BA,q,h2]
 | x::ds,xs,k+1,⟨y,r,e,h1,h2⟩=>by subst e;show#[y,_,BA,h1,zjE q k h2]
def zvx (i:Nat)(fk f:AD):Ms:=λD n k=>(∃l,D[i]?=some (some (.d (.lst l))))/\f D n λw m=>fk D m λy q=>∃l d j,D[i]?=some (some (.d (.lst l)))/\w = .d d/\y = .d (.int j)/\0<=j/\j<l.length/\k.nx (D.set i (some (.d (.lst (l.set j.toNat d))))) q
def znH (i:Nat){x:Str}{np sp:Pos}(hk:JB X Pn M c fc)(he:JE X Pn M fr' e f)(hi:i∈M:=by ext)(hN:X.N[i]?=some x:=by rfl)(hv:Vis X.env.scope x:=by fail"v")(hd:Ah x:=by ext)
  (hcd:(x==("__classdict__" : Str))=false:=by ext) (hs:swapsWithSole [.Subscript (.Name x np) c p] e sp.line X.env=pure false:=by rfl) (hw:swappedStores [.Subscript (.Name x np) c p] e X.env=pure none:=by rfl)
  (h1:(assignEach [.Subscript (.Name x np) c p] X.env).map (·.2)=[assign (.Subscript (.Name x np) c p) X.env]:=by rfl) (ha:∀v,assign (.Subscript (.Name x np) c p) X.env v=(do
   let ov <- holding [v] (eval (.Name x np) X.env)
   let iv <- holding [v,ov] (eval c X.env)
   standAt p
   holding [v,ov,iv] (setItem ov iv v)
   release [v,ov,iv] []):=by intro _;rfl) :
  JS X Pn S M fr (.Assign [.Subscript (.Name x np) c p] e sp) (zvx i fc f):=by
 obtain⟨te,q,r⟩:=he.ex;obtain⟨tk,qk,rk⟩:=hk.ex;show#[_,zkF q (zqe (qv i hN hv hd hcd) qk ha) hs hw h1,#[ ?_]];rintro B A G H D n k BG a kk ⟨⟨l0,e0⟩,hf⟩;obtain⟨ad,xs0,s0,hA,_⟩:=a.own hi e0;show r.run A G H D n _ _ a.env a.pn hf λw m v H1 r1 hv1 g1 _=>#[.ref ad,s0,?_];have a1:=a.step g1;show rk.run A G H1 D m _ _ a1.env a1.pn r1  ?_;rintro y m2 v2 H2 ⟨l,d,j,e,ed,ey,j0,j1,r2⟩ b2 g2;subst ed ey;have a2:=a1.step g2;obtain⟨ad2,xs,s2,_,g,hl⟩:=a2.own hi e;rw[s0] at s2;cases s2;show#[ad,xs,j,BA,y4 b2,g,j0,by rw[hl.length];show j1,kk.nx A G _ _ m2 (a2.wr hi e s0 (zjE (hv1.stay g2.st).is _ hl)) r2]
end
section
variable {A:AL}{H:Hp}
def zws(h:zbJ A H [w] vs):∃v,vs=[v]/\Val A H w v:=by obtain⟨v,r,e,h1,h2⟩:=h;cases h2;show#[v,e,h1]
def zq4(h:zbJ A H [w,u] vs):∃v y,vs=[v,y]/\Val A H w v/\Val A H u y:=by obtain⟨v,r,e,h1,h2⟩:=h;obtain⟨y,rfl,q⟩:=zws h2;show#[v,y,e,h1,q]
def zwt(h:zbJ A H [w,u,z] vs):∃v y x,vs=[v,y,x]/\Val A H w v/\Val A H u y/\Val A H z x:=by obtain⟨v,r,e,h1,h2⟩:=h;obtain⟨y,x,rfl,q,B⟩:=zq4 h2;show#[v,y,x,e,h1,q,B]
def ztW{st:AG}(h:Val A H (.d (stD st)) v):∃a,v = .ref a/\H a=some (.tup (st.map V.int)):=by obtain⟨a,xs,e,h1,h2⟩:=h;obtain rfl:=h2.of_ints;show#[a,e,zn _ _ h1]
end
structure RoomOk (rm:AG):Prop where
 ne:rm≠[]
 few:rm.length<=8
 box:∀r∈rm,2<=r/\r<=4
def RoomOk.pos {rm:AG}(h:RoomOk rm):1<=rm.length:=by
 cases rm with
 | nil=>show absurd BA h.ne
 | cons _ _=>simp
abbrev FV:=PN->AU->Mo W
def Lift (k:Nat)(fr:Bool)(F:FV)(sp:Sp):Prop:=∀vs H Q E,spV k fr F vs H Q E->sp vs H Q E
def FnOk.lift(h:FnOk P w K mg base CX j f fd ps sp)(l:Lift k fr F sp):FnOk P w K mg base CX j f fd ps (spV k fr F):=h.imp l
def zbV (K:AH)(Pn:PN)(p:Addr):Prop:=∃c ns,Pn=#[some (p,c,ns),J0]/\KL K c ns
def ziM (K:AH):FV:=λPn q n R=>∃p zQ,zbV K Pn p/\q=[.pen p,.d (.int zQ)]/\n<=1000000/\1<=zQ/\zQ<1073741824/\∀r,0<=r->r<zQ->R (.d (.int r)) (n+1)
def zjT:Lift 2 false (ziM K) (zob K):=by rintro vs H Q E ⟨Pn,A,ws,n,R,al,F,hl,B,⟨p,zQ,⟨c,ns,rfl,I⟩,rfl,h1,h2,J,O⟩,q⟩;obtain⟨v,y,rfl,U,Y⟩:=zq4 F;have Z:v = .ref p:=U;have e2:y = .int zQ:=Y;subst Z e2;show#[p,c,ns,n,zQ,BA,I,B.1.1,h1,h2,J,λr H' r0 r1 P' S'=>q _ (n+1) _ H' (O r r0 r1) (Val.of BA) #[S',#[P',B.1.2],trivial] λz=>by cases z]
abbrev zt1:FV:=λPn B n R=>∃p c ns q,Pn=#[some (p,c,ns),J0]/\B=[.pen p,.d (.int q)]/\n+20<=1000000/\4<=q/\q<=256/\∀rm,RoomOk rm->zY rm<=q->R (.d (stD rm)) (n+10)
abbrev znm:FV:=λPn q n R=>∃p c ns rm,Pn=#[some (p,c,ns),J0]/\q=[.pen p,.d (stD rm)]/\n+20<=1000000/\RoomOk rm/\∀st,st.length=rm.length->(∀b:Int,0<=b->b<rm.length->0<=zQ st b/\zQ st b<zQ rm b)->R (.d (stD st)) (n+10)
def zpw (g:List (Int×Int)):(Dt.tup (g.map uu)).noL=true:=by
 have:∀g:List (Int×Int),Dt.noLs (g.map uu)=true:=by
  intro g
  induction g with
  | nil=>rfl
  | cons q g B=>simp only[aB,Dt.noLs,B,fE];rfl
 show this g
abbrev zua (g:List (Int×Int)):Dt:=.tup (g.map uu)
abbrev zrh:FV:=λPn F n R=>∃p c ns rm B,Pn=#[some (p,c,ns),J0]/\F=[.pen p,.d (stD rm),.d (.int B)]/\n+40<=1000000/\RoomOk rm/\∀g,Giv rm g->(∀q∈g,q.1≠B)->g.length<=8->R (.d (zua g)) (n+30)
abbrev zuu:FV:=λ_ q n R=>∃d,q=[.d d]/\R (.d (.bl d.isWhole)) n
abbrev zut:FV:=λ_ q n R=>∃a b,q=[.d (.bl a),.d (.bl b)]/\R (.d (.bl (a==b))) n
abbrev F_prod:FV:=λ_ q n R=>∃ns:AG,q=[.d (stD ns)]/\(∀n∈ns,2<=n/\n<=4)/\R (.d (.int (zY ns))) n
abbrev zus:FV:=λ_ B n R=>∃st g,B=[.d (stD st),.d (zua g)]/\(∀q∈g,0<=q.1/\q.1<st.length)/\R (.d (.bl (uD st g))) n
abbrev uK (BE:AF):Dt:=.lst (BE.map stD)
abbrev F_all:FV:=λ_ q n R=>∃rm,q=[.d (stD rm)]/\RoomOk rm/\zY rm<=256/\R (.d (uK (zam (rm.map zK)))) n
abbrev lsD (c:AG):Dt:=.lst (c.map .int)
abbrev zrb:FV:=λ_ q n R=>∃cs:AF,q=[.d (.lst (cs.map lsD))]/\cs.length<=8/\(∀c∈cs,c.length<=4)/\R (.d (uK (zam cs))) n
def zvF {P:Aa}{w:Ab}{K:AH}{mg:AI}{base:Heap}{x F:Str}{st:Stmt}{f:Addr}{fd:Ac}{N ps:AM}{k r:Nat}{S:AR}(M:AR)(Fu:Fun K x F st f fd)(Sc:FnScope N ps (zd st))(ag:ps.length=1)(hN:N.length=r+2)(hM:∀i∈M,2<=i)
  (Y:∀ (J:Value) (A:Ae) (B:List Env) (s:AZ) (H:Hp) (E:XK) (Pn:PN),Room k (A.deeper (PyProof.Rows.envOfC F (zd st) s.heap.objs.size f J))->
   ∃U zz fs,zB st=U::zz/\QS (zeG CX0 P w K mg base N F (zd st) f J A B s H E).nox U (ziK (zey (zm7 K) [] E0 (zbG (za6 0) zqQ)) (zbA 1))/\
    JSs (zeG CX0 P w K mg base N F (zd st) f J A B s H E).nox Pn S M false zz fs/\∀p c ns,Pn=#[some (p,c,ns),J0]->KL K c ns->fs (none::some (.pen p)::List.replicate r none) 0 { nx:=λ_ _=>False,rt:=λw _=>w = .d (.bl true) }):FnOk P w K mg base CX0 (k+1) f fd ps (zix K):=by
 show Fun.okQ Fu Sc (λvs H Q E h=>?_) (λJ A B s H vs Q E hr h=>?_);obtain⟨a,ns,rfl,_⟩:=h;show ag.symm;obtain⟨a,ns,rfl,hK,hS,hl,q⟩:=h;have Z:=λ(Pn:PN)=>Y J A B s H E Pn hr;have ad:L2.xB N [.ref a]=some (.ref a)::none::List.replicate r none:=by unfold L2.xB;rw[hN];rfl
 have hd:∃U zz,zB st=U::zz:=let ⟨U,zz,_,e,_⟩:=Z #[none,J0];#[U,zz,e];obtain⟨U,zz,e0⟩:=hd;rw[e0];have c2:∀Pn,∃fs,JSs (zeG CX0 P w K mg base N F (zd st) f J A B s H E).nox Pn S M false zz fs/\∀p c ns,Pn=#[some (p,c,ns),J0]->KL K c ns->fs (none::some (.pen p)::List.replicate r none) 0 { nx:=λ_ _=>False,rt:=λw _=>w = .d (.bl true) }:=λPn=>by obtain⟨al,ac,fs,e,_,h1,h2⟩:=Z Pn;rw[e0] at e;cases e;show#[fs,h1,h2]
 have q1:QS (zeG CX0 P w K mg base N F (zd st) f J A B s H E).nox U (ziK (zey (zm7 K) [] E0 (zbG (za6 0) zqQ)) (zbA 1)):=by
  obtain⟨al,ac,fs,e,h0,_⟩:=Z #[none,J0];right
 show#[_,yi q1 (u:=λBG G H=>∃Pn,(c2 Pn).choose_spec.1.ex.choose BG G H) #[λBB s' G H BG I ⟨Pn,z⟩=>(c2 Pn).choose_spec.1.ex.choose_spec.1.run BB s' G H BG I z],?_];show#[.ref a,by rw[ad];rfl,a,ns,BA,hK,hS,hl,λp H1 P1 S1=>#[#[some (p,a,ns),J0],?_]];have hs:=(c2 #[some (p,a,ns),J0]).choose_spec.2 p a ns BA hK;have e1:(L2.xB N [.ref a]).set 1 (some (.ref p))=some (.ref a)::some (.ref p)::List.replicate r none:=by rw[ad];rfl
 rw[e1]
 have O:∀i (u:W),(none::some (.pen p)::List.replicate r none:Ev)[i]?=some (some u)->i=1/\u = .pen p:=λi u e=>by
  match i,e with
  | 0,e=>simp at e
  | 1,e=>show#[BA,by simpa using e.symm]
  | i+2,e=>
   simp only[bL] at e;obtain⟨_,q⟩:=ah.mp e;right
 show (c2 #[some (p,a,ns),J0]).choose_spec.1.ex.choose_spec.2.run { A0:=λ_=>False,H0:=λ_=>none,G0:=λ_=>none,σ0:=some (.ref a)::some (.ref p)::List.replicate r none } (λ_=>False) _ H1 _ 0 _ _ #[#[?_,?_,?_,λ_ z=>z.elim],#[λ_ z=>z,λ_ z=>z.elim,(λb o (z:(none:Option HO)=some o)=>nomatch z),λ_ z=>z.elim,λ_ z=>z.elim,λ_ z=>z.elim],#[#[P1,λ_ _ z=>z,λz=>z],trivial],(λb o (z:(none:Option HO)=some o)=>nomatch z),#[λi hi=>rfl,λ_=>#[λb xs (z:(none:Option HO)=some (.lst xs))=>(nomatch z),λb xs (z:(none:Option HO)=some (.lst xs))=>(nomatch z)]],?_] #[?_,?_,?_,λ_ z=>z,?_] hs;simp;intro i u e;obtain⟨rfl,rfl⟩:=O i u e;show#[.ref p,BA,λ_=>rfl,λz=>absurd (hM 1 z) (by lia)];intro i j u u' b hi hj an e1;obtain⟨rfl,rfl⟩:=O i u e1;show absurd (hM 1 hi) (by lia);intro i u b hi e;obtain⟨rfl,rfl⟩:=O i u e;show absurd (hM 1 hi) (by lia);intro _ _ _ _ _ _ z;show z.elim;intro _ _ _ _ _ _ z;show z.elim;intro _ _ _ _ _ _ z;show z.elim;intro w n' v H' hv st pn _ r;have r':w = .d (.bl true):=r;subst r';have:v = .bl true:=hv;subst this;show q H'
def ziZ {α:Type}{l:AU}{F:Ev}{n:Nat}{mg:W->Ev->(Ev->Prop)->Prop}{Z:Ev->Mo Bool}{fe:AD}{Q:AV}(xs:List α)(I:α->W)(hl:l=xs.map I)(J:Ev->Prop)(P:α->Bool)(E:α->Dt)(ac:xs.length<=lim)(j0:J F)
  (h:∀a∈xs,∀ B,J B->∀C:Ev->Nat->Option Dt->Prop,(∀ q,J q->C q n (if P a then some (E a) else none))->mg (I a) B λq=>Z q n λb n2=>if b=true then fe q n2 λx O=>∃d,x = .d d/\C q O (some d) else C q n2 none)
  (fin:Q (.d (.lst ((xs.filter P).map E))) n):zeP mg Z fe F Q l n:=by
 subst hl;show#[by right,λi B U acc=>J B/\U=n/\acc=((xs.take i).filter P).map E,#[j0,BA,by simp],?_,?_];rintro i w B U acc hw ⟨hj,rfl,rfl⟩;rw[aD] at hw;obtain⟨a,ha,rfl⟩:=aJ.mp hw
 have:=h a (az ha) B hj (λq O o=>match o with
  | some d=>J q/\O=U/\((xs.take i).filter P).map E++[d]=((xs.take (i+1)).filter P).map E
  | none=>J q/\O=U/\((xs.take i).filter P).map E=((xs.take (i+1)).filter P).map E) (λq Y=>by
   rw[zr ha,List.filter_append,aR];by_cases hp:P a=true;right;rw[if_neg hp];show#[Y,BA,by simp[hp]])
 show this;grind
def zlz {α:Type}{l:AU}{F:Ev}{n:Nat}{mg:W->Ev->(Ev->Prop)->Prop}{Z:AD}{Q:AV}(xs:List α)(I:α->W)(hl:l=xs.map I)(J:Ev->Prop)(E:α->Dt)(ac:xs.length<=lim)(j0:J F)
  (h:∀a∈xs,∀ B,J B->∀C:Ev->Nat->Dt->Prop,(∀ q,J q->C q n (E a))->mg (I a) B λq=>Z q n λx O=>∃d,x = .d d/\C q O d)
  (fin:Q (.d (.lst (xs.map E))) n):zeP mg zui Z F Q l n:=by
 subst hl;show#[by right,λi B U acc=>J B/\U=n/\acc=(xs.take i).map E,#[j0,BA,by simp],?_,?_];rintro i w B U acc hw ⟨hj,rfl,rfl⟩;rw[aD] at hw;obtain⟨a,ha,rfl⟩:=aJ.mp hw;show h a (az ha) B hj (λq O d=>J q/\O=U/\(xs.take i).map E++[d]=(xs.take (i+1)).map E) λq Y=>#[Y,BA,by rw[zr ha,aR];rfl];grind
def zoK(I:Nat->Ev->Nat->Prop)(U:I 0 D n)(h:∀i q B,i<r->I i q B->mg (.d (.int (i:Int))) q λF=>fb F B { k with nx:=I (i+1),ct:=I (i+1),bk:=k.nx })(Y:∀ q B,I r q B->k.nx q B):zoJ mg fb D k (ziq 0 r) n:=by
 show#[I,U,λi w q B J O=>?_,λq B O=>Y q B ?_];unfold ziq at J;rw[aD] at J;obtain⟨j,h1,rfl⟩:=aJ.mp J;obtain⟨hi,h2⟩:=ah.mp h1;rw[cF] at h2;right;unfold ziq at O;right
def zjq{α:Type}(xs:List α)(F:α->W)(Y:l=xs.map F)(I:Nat->Ev->Nat->Prop)(Z:I 0 D n)(h:∀i a q B,xs[i]?=some a->I i q B->mg (F a) q λJ=>fb J B { k with nx:=I (i+1),ct:=I (i+1),bk:=k.nx })(hd:∀ q B,I xs.length q B->k.nx q B):zoJ mg fb D k l n:=by
 subst Y;show#[I,Z,λi w q B O U=>?_,λq B U=>hd q B (by right)];rw[aD] at O;obtain⟨a,ha,rfl⟩:=aJ.mp O;show h i a q B ha U
def zeY(I:Nat->Ev->Nat->Prop)(O:I 0 D n)(h:∀i q F,i<r->I i q F->∀ (C B:Ev->Nat->Prop) (E:AV),(∀ {D m},I (i+1) D m->C D m)->(∀ {D m},k.nx D m->B D m)->(∀ {w m},k.rt w m->E w m)->mg (.d (.int (i:Int))) q λJ=>fb J F { rt:=E,nx:=C,ct:=C,bk:=B })(U:∀ q F,I r q F->k.nx q F):zoJ mg fb D k (ziq 0 r) n:=
 zoK I O (λi q F hi Y=>h i q F hi Y (I (i+1)) k.nx k.rt (λz=>z) (λz=>z) λz=>z) U
def yK{α:Type}(xs:List α)(F:α->W)(U:l=xs.map F)(I:Nat->Ev->Nat->Prop)(Y:I 0 D n)(h:∀i a q J,xs[i]?=some a->I i q J->∀ (C B:Ev->Nat->Prop) (E:AV),(∀ {D m},I (i+1) D m->C D m)->(∀ {D m},k.nx D m->B D m)->(∀ {w m},k.rt w m->E w m)->mg (F a) q λO=>fb O J { rt:=E,nx:=C,ct:=C,bk:=B })(Z:∀ q J,I xs.length q J->k.nx q J):zoJ mg fb D k l n:=
 zjq xs F U I Y (λi a q J ha hI=>h i a q J ha hI (I (i+1)) k.nx k.rt (λz=>z) (λz=>z) λz=>z) Z
def zly{α:Type}(xs:List α)(O:α->W)(hl:l=xs.map O)(Z:xs.length<=lim)(I:Nat->Ev->Nat->AS->Prop)(h0:I 0 J n [])(h:∀i a q B acc,xs[i]?=some a->I i q B acc->∀C:Ev->Nat->AS->Prop,(∀ {D m l},I (i+1) D m l->C D m l)->mg (O a) q λF=>U F B λb n2=>if b=true then Y F n2 λx n3=>∃d,x = .d d/\C F n3 (acc++[d]) else C F n2 acc)(fin:∀ q B acc,I xs.length q B acc->Q (.d (.lst acc)) B):zeP mg U Y J Q l n:=by
 subst hl;show#[by right,I,h0,λi w q B acc hw hI=>?_,λq B acc hI=>fin q B acc (by right)];rw[aD] at hw;obtain⟨a,ha,rfl⟩:=aJ.mp hw;show h i a q B acc ha hI (I (i+1)) λz=>z
def zeI {α:Type}{l:List α}{i:Nat}{x:α}(h:l[i]?=some x):atI l (i:Int)=some x:=by
 have:=(ah.mp h).1;unfold atI ixN;right
def zrj {α:Type}{l:List α}{i:Int}(B:0<=i)(h1:i<l.length):∃d,atI l i=some d/\d∈l:=by
 obtain⟨j,rfl⟩:∃j:Nat,i=j:=#[i.toNat,by lia];have q:j<l.length:=by lia
 show#[l[j],zeI (ak q),bD q]
def xT {a b:Dt}:atI [a,b] 0=some a:=rfl
def zby {a b:Dt}:atI [a,b] 1=some b:=rfl
def zom {st:AG}{b:Int}(B:0<=b)(h1:b<st.length):atI (st.map Dt.int) b=some (.int (zQ st b)):=by
 obtain⟨j,rfl⟩:∃j:Nat,b=j:=#[b.toNat,by lia];have q:j<st.length:=by lia
 show zeI ?_;rw[aD,ak q,zH];simp[q]
def gw (g:List (Int×Int))(i:Nat):AQ:=(g.find? λq=>decide (q.1=(i:Int))).map (·.2)
def cho (rm:AG)(g:List (Int×Int))(i:Nat):AG:=match gw g i with
 | some w=>[w]
 | none=>zK (rm.getD i 0)
def chs (rm:AG)(g:List (Int×Int)):AF:=(List.range rm.length).map (cho rm g)
def zvj (rm:AG)(g:List (Int×Int)):AF:=zam (chs rm g)
section
variable {X:Cx}{Pn:PN}{M S:AR}{fr fr':Bool}{e a b c:Expr}{es:AO}{f fa fb fc:AD}{pos p p2:Pos}
theorem zhR:∀ (l k:AS) (i:Nat),(ziW l k)[i]?=(l[i]?).bind λx=>(k[i]?).map λy=>W.d (.tup [x,y])
 | [],_,_=>by simp[ziW]
 | _::_,[],_=>by simp[ziW]
 | x::r,y::s,0=>by simp[ziW]
 | x::r,y::s,i+1=>by have:=zhR r s i;simp only[ziW,bL,this]
theorem zhS:∀ (l k:AS),(ziW l k).length=min l.length k.length
 | [],_=>by simp[ziW]
 | _::_,[]=>by simp[ziW]
 | x::r,y::s=>by rw[ziW,aK,aK,aK,zhS r s];lia
def zpj (fa:AC):AC:=λD n Q=>fa D n λq m=>∃l k,q=[.d (.lst l),.d (.lst k)]/\Q (ziW l k) m
def zlZ(h:ya A H I=some (.lst xs))(O:IsL (ya A H) l xs)(h':ya A H J=some (.lst ys))(U:IsL (ya A H) k ys):ItV false A H (Izl K I J) (ziW l k) where
 one:=λi w A2 H2 e s _ hA=>by rw[zhR] at e;obtain⟨d,h1,e⟩:=eD.mp e;obtain⟨d',q,rfl⟩:=aJ.mp e;obtain⟨x,Y,hd⟩:=O.getD h1;obtain⟨y,Z,B⟩:=U.getD q;have g:=zn _ _ (s.lst h);have g':=zn _ _ (s.lst h');show#[#[xs,ys,x,y,.of g,.of g',Y,Z],?_];rintro v H3 ⟨T,z,z',e1,hT,e3,hz,F⟩;subst e1 e3;have q1:=hz xs (.of g);have q2:=F ys (.of g');rw[Y] at q1;rw[Z] at q2;cases q1;cases q2;have S:=yZ.upd (o:=.tup [x,y]) hT;show#[S,Val.of #[T,_,BA,zw (hA T hT) zh,_,_,BA,(hd.stay s).stay (zA.same (x5 S)),_,_,BA,(B.stay s).stay (zA.same (x5 S)),BA]]
 stop:=λA2 H2 s _=>#[xs,ys,.of (zn _ _ (s.lst h)),.of (zn _ _ (s.lst h')),by rw[zhS,O.length,U.length];lia]
def zo3 {B:AO}{x1}{tpos:Pos}{fs:AC}(O:Gl X "zip")(U:X.mg "zip" = none)(Y:JA X Pn M [a,b] fs)(hs:starEach [a,b] X.env=[(false,eval a X.env),(false,eval b X.env)]:=by rfl)(J:starEach [b] X.env=[(false,eval b X.env)]:=by rfl):JI X Pn M false (.Tuple B x1 tpos) (.Call (.Name "zip" p) [a,b] [] pos) (zpj fs):=by obtain⟨te,q,r⟩:=Y.ex;show#[_,zqk O U q hs J,#[λA G H D n Q R E P Z k=>?_]];show r.run A G H D n _ _ E P Z  ?_;rintro ws m vs H1 ⟨l,kk,e,r⟩ hv g;subst e;obtain⟨v,s,rfl,⟨ad,xs,rfl,F,hl⟩,v2,s2,rfl,⟨bd,ys,rfl,I,hk⟩,hs⟩:=hv;cases hs;show#[ad,bd,BA,#[xs,.of (zn _ _ F)],#[ys,.of (zn _ _ I)],k _ m _ H1 r (zlZ F hl I hk) g]
def zvo (i:Nat)(f:AD):Ms:=λD n k=>(∃l,D[i]?=some (some (.d (.lst l))))/\f D n λw m=>∃l q,D[i]?=some (some (.d (.lst l)))/\w = .d (.lst q)/\l.length+q.length<=lim/\k.nx (D.set i (some (.d (.lst (l++q))))) m
def znF (i:Nat){x:Str}{ap U sp Y:Pos}(he:JE X Pn M fr' e f)(hi:i∈M:=by ext)(hN:X.N[i]?=some x:=by rfl)(hv:Vis X.env.scope x:=by fail"v")(hd:Ah x:=by ext)
  (al:(x==("__classdict__" : Str))=false:=by ext) (Z:starEach (e::[]) X.env=(false,eval e X.env)::starEach [] X.env:=by rfl) (hs:swapsWith (.Call (.Attribute (.Name x Y) "extend" ap) [e] [] U) none sp.line X.env=pure false:=by rfl) (J:attributeBase (.Name x Y) "extend" X.env (eval (.Name x Y) X.env)=eval (.Name x Y) X.env:=by rfl) (O:(ap.endLine==U.line)=true:=by rfl)
  (ac:((backTo U (starEach [e] X.env)).all (λx=>!x.1)&&(backToKw U (keywordEach [] X.env)).all (λx=>x.1.isSome)&&decide (([e]:AO).length+([]:List Keyword).length+(if ([]:List Keyword).isEmpty then 0 else 1)<30))=true:=by rfl) (I:(backTo U (starEach [] X.env)).any (·.1)=false:=by rfl) :
  JS X Pn S M fr (.Expr (.Call (.Attribute (.Name x Y) "extend" ap) [e] [] U) sp) (zvo i f):=by
 obtain⟨te,q,r⟩:=he.ex;show#[_,zgB (znX eu PySem.F.slot_list_extend PySem.F.type_list_extend zj9 (qv i hN hv hd al) (zL q yM Z) J ac O Z I) hs,#[ ?_]];rintro B A G H D n k BG a kk ⟨⟨l0,e0⟩,hf⟩;obtain⟨ad,as,s1,hA,g0,_⟩:=a.own hi e0;show#[.ref ad,s1,.inl #[BA,_,SqL.of g0],?_];show r.run A G H D n _ _ a.env a.pn hf  ?_;rintro w m v H' ⟨l,l2,e,ed,hz,r⟩ hv g _;subst ed;have a':=a.step g;obtain⟨a0,xs,s2,_,g4,hl⟩:=a'.own hi e;rw[s1] at s2;cases s2;obtain⟨b2,ys,rfl,an,ag⟩:=hv;show#[ad,b2,xs,ys,BA,BA,g4,zn _ _ an,zc7 (by rw[hl.length,ag.length];show hz),kk.nx A G _ _ m (a'.wr hi e s1 (hl.append ag)) r]
def znB {α:Type}(l:List α)(k:Nat)(x:α):List α:=l.take k++x::l.drop k
def zvq (i:Nat)(fk f:AD):Ms:=λD n k=>(∃l,D[i]?=some (some (.d (.lst l))))/\fk D n λy m=>f D m λw q=>∃l d j,D[i]?=some (some (.d (.lst l)))/\w = .d d/\y = .d (.int j)/\0<=j/\j<=l.length/\l.length<lim/\k.nx (D.set i (some (.d (.lst (znB l j.toNat d))))) q
def znG(i:Nat){x:Str}{ap U sp Y:Pos}(hc:JE X Pn M ag c fc)(he:JE X Pn M fr' e f)(hi:i∈M:=by ext)(hN:X.N[i]?=some x:=by rfl)(hv:Vis X.env.scope x:=by fail"v")(hd:Ah x:=by ext)(al:(x==("__classdict__" : Str))=false:=by ext)(Z:starEach (c::[e]) X.env=(false,eval c X.env)::starEach [e] X.env:=by rfl)(an:starEach (e::[]) X.env=(false,eval e X.env)::starEach [] X.env:=by rfl)(hs:swapsWith (.Call (.Attribute (.Name x Y) "insert" ap) [c,e] [] U) none sp.line X.env=pure false:=by rfl)(J:attributeBase (.Name x Y) "insert" X.env (eval (.Name x Y) X.env)=eval (.Name x Y) X.env:=by rfl)(O:(ap.endLine==U.line)=true:=by rfl)(ac:((backTo U (starEach [c,e] X.env)).all (λx=>!x.1)&&(backToKw U (keywordEach [] X.env)).all (λx=>x.1.isSome)&&decide (([c,e]:AO).length+([]:List Keyword).length+(if ([]:List Keyword).isEmpty then 0 else 1)<30))=true:=by rfl)(I:(backTo U (starEach [e] X.env)).any (·.1)=false:=by rfl) :
  JS X Pn S M fr (.Expr (.Call (.Attribute (.Name x Y) "insert" ap) [c,e] [] U) sp) (zvq i fc f):=by
 obtain⟨te,q,r⟩:=he.ex;obtain⟨tc,qc,rc⟩:=hc.ex;show#[_,zgB (znX eu PySem.F.slot_list_insert PySem.F.type_list_insert zka (qv i hN hv hd al) (zL qc (zL q yM an) Z) J ac O Z I) hs,#[ ?_]];rintro B A G H D n k BG a kk ⟨⟨l0,e0⟩,hf⟩;obtain⟨ad,a0,s1,hA,g0,_⟩:=a.own hi e0;show#[.ref ad,s1,.inl #[BA,_,SqL.of g0],?_];show rc.run A G H D n _ _ a.env a.pn hf λw1 m1 v1 H1 r1 as g1 _=>?_;have a1:=a.step g1;show r.run A G H1 D m1 _ _ a1.env a1.pn r1  ?_;rintro w m v H' ⟨l,d,j,e,ed,ey,j0,j1,hz,r⟩ hv g _;subst ed ey;have e1:v1 = .int j:=as;subst e1;have a':=a1.step g;obtain⟨a2,xs,s2,_,g4,hl⟩:=a'.own hi e;rw[s1] at s2;cases s2;show#[ad,xs,j,v,BA,BA,g4,j0,by rw[hl.length];show j1,zhl (by rw[hl.length];show c7 hz),kk.nx A G _ _ m (a'.wr hi e s1 ?_) r];show (hl.take _).append #[v,_,BA,hv.is,hl.drop _]
def zjn:AU->Mo W:=λB n Q=>∃ns:AG,B=[.d (.lst (ns.map .int))]/\ns.length<64/\∀q:AG,q.Perm ns->q.Pairwise (·<=·)->Q (.d (.lst (q.map .int))) n
def zq2:FL Pn true zkJ zjn:=#[by
 rintro A H xs Z n Q R I b P ⟨ns,e,q,h⟩ k;subst e;obtain⟨v,rfl,J⟩:=zbW b;obtain⟨a,ys,rfl,O,U⟩:=xn J;obtain rfl:=U.of_ints;show#[a,ns,BA,O,q,λB Y hs p H' F g S=>k _ n _ H' (h B Y hs) (uA (H:=H) IsL.ints (zA.same S) (I.new F) g) (Go.same P S) λz=>uj (H:=H) IsL.ints S F g]]
def zlm {κ:Type}[DecidableEq κ](BC:List (κ×Dt))(k:κ)(d:Dt):List (κ×Dt):=
 if (BC.any λkv=>decide (kv.1=k))=true then BC.map (λkv=>if kv.1=k then (kv.1,d) else kv) else BC++[(k,d)]
theorem uM.any {κ:Type}[DecidableEq κ]{BF:Hp}{k:κ}:∀ {BC:List (κ×Dt)} {ks:List (κ×V)},uM BF BC ks->(ks.any λkv=>decide (kv.1=k))=BC.any λkv=>decide (kv.1=k)
 | [],_,h=>by cases h;rfl
 | q::r,ks,⟨v,s,e,h1,h2⟩=>by subst e;rw[dq,dq,uM.any h2]
theorem uM.map1 {κ:Type}[DecidableEq κ]{BF:Hp}{k:κ}{d:Dt}{x:V}(F:Is BF d x):∀ {BC:List (κ×Dt)} {ks:List (κ×V)},uM BF BC ks->uM BF (BC.map λkv=>if kv.1=k then (kv.1,d) else kv) (ks.map λkv=>if kv.1=k then (kv.1,x) else kv)
 | [],_,h=>by cases h;rfl
 | q::r,ks,⟨v,s,e,h1,h2⟩=>by
  subst e;rw[aB,aB];by_cases B:q.1=k;rw[if_pos B,if_pos B];show#[x,_,BA,F,uM.map1 F h2];rw[if_neg B,if_neg B];show#[v,_,BA,h1,uM.map1 F h2]
theorem uM.snoc {κ:Type}{BF:Hp}{k:κ}{d:Dt}{x:V}(B:Is BF d x):∀ {BC:List (κ×Dt)} {ks:List (κ×V)},uM BF BC ks->uM BF (BC++[(k,d)]) (ks++[(k,x)])
 | [],_,h=>by cases h;show#[x,[],BA,B,BA]
 | q::r,ks,⟨v,s,e,h1,h2⟩=>by subst e;show#[v,_,BA,h1,uM.snoc B h2]
def uM.put{κ:Type}[DecidableEq κ]{k:κ}{BC:List (κ×Dt)}{ks:List (κ×V)}(h:uM BF BC ks)(q:Is BF d x):uM BF (zlm BC k d) (uZ ks k x):=by
 unfold zlm uZ;rw[h.any];split;show h.map1 q;show h.snoc q
theorem uM.len {κ:Type}{BF:Hp}:∀ {BC:List (κ×Dt)} {ks:List (κ×V)},uM BF BC ks->ks.length=BC.length
 | [],_,h=>by cases h;rfl
 | q::r,ks,⟨v,s,e,h1,h2⟩=>by subst e;rw[aK,aK,uM.len h2]
def At3.wrX(h:At3 Pn B S M A G H D n)(hi:i∈M)(e:D[i]?=some (some w))(s:G[i]?=some (some (.ref ad)))(hw:WAt (L2.upd H ad o) (ya A H) w' (.ref ad))(hm':w'.mut=true)(np:NP o)(nt:Mt o):At3 Pn B S M A G (L2.upd H ad o) (D.set i (some w')) n:=by
 obtain⟨v,s1,_,s3⟩:=h.env.val i w e;rw[s] at s1;cases s1;obtain⟨a2,e2,hA,_,_⟩:=s3 hi;cases e2;have hlen:i<D.length:=(ah.mp e).1
 have hE:EnvR A M G (L2.upd H ad o) (D.set i (some w')):=by
  show#[by rw[bR];show h.env.len,λj u ej=>?_,λj q u u' b hj hq hne e1 e2=>?_,λb hb=>?_];by_cases hj:j=i;subst hj;rw[aV hlen] at ej;cases ej;show#[.ref ad,s,λz=>absurd hi z,λ_=>#[ad,BA,hA,by change WAt _ _ _ _;rw[yw hA];show hw,hm']];rw[aw (Ne.symm hj)] at ej;obtain⟨v,t1,t2,t3⟩:=h.env.val j u ej;show#[v,t1,λz=>?_,λz=>?_];change WAt _ _ _ _;rw[yw hA];show t2 z;obtain⟨b,rfl,hb,hbb,hm⟩:=t3 z;have hne:b≠ad:=λq=>h.env.dis i j w u ad hi z (Ne.symm hj) e ej s (by rw[t1,q]);show#[b,BA,hb,?_,hm];change WAt _ _ _ _;rw[yw hA]
  cases u with
  | d x=>
   cases x with
   | lst l=>obtain⟨a2,xs,e2,g1,g2⟩:=hbb;cases e2;show#[b,xs,BA,by rw[zf hne];show g1,g2]
   | dct=>obtain⟨a2,xs,e2,g1,g2⟩:=hbb;cases e2;show#[b,xs,BA,by rw[zf hne];show g1,g2]
   | _=>cases hm
  | pen p=>cases hm
  | dk k=>obtain⟨a2,xs,e2,g1,g2⟩:=hbb;cases e2;show#[b,xs,BA,by rw[zf hne];show g1,g2]
  | dt k=>obtain⟨a2,xs,e2,g1,g2⟩:=hbb;cases e2;show#[b,xs,BA,by rw[zf hne];show g1,g2]
  | ss P w k=>obtain⟨a2,xs,e2,g1,g2⟩:=hbb;cases e2;show#[b,xs,BA,by rw[zf hne];show g1,g2]
  | df k=>obtain⟨a2,ob,xs,e2,g1,g2⟩:=hbb;cases e2;show#[b,ob,xs,BA,by right,g2]
  | kf k=>obtain⟨a2,ob,xs,e2,g1,g2⟩:=hbb;cases e2;show#[b,ob,xs,BA,by right,g2]
  | ad a x=>cases hm
  | tz BC x=>cases hm
  | fl k=>obtain⟨a2,ob,xs,e2,g1,g2⟩:=hbb;cases e2;show#[b,ob,xs,BA,by right,g2]
  have get:∀q (u:W),(D.set i (some w'))[q]?=some (some u)->∃u',D[q]?=some (some u'):=λq u z=>by
   by_cases hq:q=i;subst hq;show#[w,e];rw[aw (Ne.symm hq)] at z;show#[u,z]
  obtain⟨v1,f1⟩:=get j u e1;obtain⟨v2,f2⟩:=get q u' e2;show h.env.dis j q v1 v2 b hj hq hne f1 f2;by_cases hb':b=ad;subst hb';show#[_,zh,np,nt];rw[zf hb'];show h.env.al b hb
 show#[hE,#[h.frm.sub,h.frm.new,λb o eb nn nc=>?_,h.frm.al,h.frm.cn,λb z=>(by
  by_cases hb':b=ad;subst hb';show#[_,zh,np];rw[zf hb'];show h.frm.cs b z)],h.pn.upd hA,by rw[yw hA];show h.prot,h.fix,λj u b hj ej sj=>?_]
 have hne:b≠ad:=λq=>by
  subst q;rcases h.mine i w b hi e s with z | z;show z o eb nn;show nc z
 rw[zf hne];show h.frm.st b o eb nn nc;by_cases hj':j=i;subst hj';show h.mine j w b hj e sj;rw[aw (Ne.symm hj')] at ej;show h.mine j u b hj ej sj
def zj1 (i:Nat)(fk f:AD):Ms:=λD n k=>(∃BC,D[i]?=some (some (.dt BC)))/\f D n λw m=>fk D m λy q=>∃BC st d,D[i]?=some (some (.dt BC))/\w = .d d/\y = .d (stD st)/\BC.length<lim/\k.nx (D.set i (some (.dt (zlm BC st d)))) q
def zl5 (i:Nat){x:Str}{np sp:Pos}(hu:X.A.units+1<cLine)(hk:JB X Pn M c fc)(he:JE X Pn M fr' e f)(hi:i∈M:=by ext)(hN:X.N[i]?=some x:=by rfl)(hv:Vis X.env.scope x:=by fail"v")(hd:Ah x:=by ext)
  (I:(x==("__classdict__" : Str))=false:=by ext) (hs:swapsWith e (some (.Subscript (.Name x np) c p)) sp.line X.env=pure false:=by rfl) :
  JS X Pn S M fr (.Assign [.Subscript (.Name x np) c p] e sp) (zj1 i fc f):=by
 obtain⟨te,q,r⟩:=he.ex;obtain⟨tk,qk,rk⟩:=hk.ex;show#[_,zem hu (qv i hN hv hd I) qk q hs,#[ ?_]];rintro B A G H D n k BG a kk ⟨⟨l0,e0⟩,hf⟩;obtain⟨v0,J,_,o3⟩:=a.env.val i _ e0;obtain⟨O,rfl,hA,ag,_⟩:=o3 hi;show r.run A G H D n _ _ a.env a.pn hf λw m v H1 r1 U g1 _=>#[.ref O,J,?_];have Y:=a.step g1;show rk.run A G H1 D m _ _ Y.env Y.pn r1  ?_;rintro y m2 v2 H2 ⟨BC,st,d,e,ed,ey,hz,r2⟩ b2 g2;subst ed ey;have a2:=Y.step g2;obtain⟨v3,s3,_,o4⟩:=a2.env.val i _ e;rw[J] at s3;cases s3;obtain⟨al,e4,_,hb,_⟩:=o4 hi;cases e4;obtain⟨a5,ks,e5,Z,F⟩:=hb;cases e5;obtain⟨bd,xs,rfl,ac,hx⟩:=uh b2;obtain rfl:=hx.of_ints;show#[O,_,BA,zeE.i Z ac (zhl (by rw[F.len];show c7 hz)),kk.nx A G _ _ m2 (a2.wrX (w':=.dt (zlm BC st d)) hi e J #[O,_,BA,zh,F.put (U.stay g2.st).is] BA (λk z=>by cases z) BA) r2]
end
end L3
namespace L3
open L2
section
variable {X:Cx}{Pn:PN}{M S:AR}{fr fr':Bool}{e a b c:Expr}{es:AO}{f fa fb fc:AD}{pos p:Pos}
def zvU(h1:QI X tg e w1)(h2:QI X tg e w2):QI X tg e (λG H R=>w1 G H R\/w2 G H R):=#[λBB s G H R I h=>h.elim (h1.run BB s G H R I) (h2.run BB s G H R I)]
def zvt (fa:AD):AC:=λD n Q=>zuf fa D n Q\/zug fa D n Q
def znE(K:AH)(q:X.K=K)(h:JE X Pn M fr e f):JI X Pn M false tg e (zvt f):=by obtain⟨U,B,F⟩:=(um (tg:=tg) K q h).ex;obtain⟨Y,I,J⟩:=(zhg (tg:=tg) K q h).ex;show#[_,zvU B I,#[λA G H D n Q R E P O k=>O.elim (λz=>.inl (F.run A G H D n Q R E P z k)) λz=>.inr (J.run A G H D n Q R E P z k)]]
def zpk (fa:AC):AC:=λD n Q=>fa D n λq m=>∃l k,q=[.d (.lst l),.d (.tup k)]/\l.length=k.length/\Q (ziW l k) m
def zo4 {B:AO}{x1}{tpos:Pos}{fs:AC}(U:Gl X "zip")(Y:X.mg "zip" = none)(Z:JA X Pn M [a,b] fs)(hs:starEach [a,b] X.env=[(false,eval a X.env),(false,eval b X.env)]:=by rfl)(O:starEach [b] X.env=[(false,eval b X.env)]:=by rfl):JI X Pn M false (.Tuple B x1 tpos) (.Call (.Name "zip" p) [a,b] [] pos) (zpk fs):=by obtain⟨te,q,r⟩:=Z.ex;show#[_,zqj false U Y q hs O,#[λA G H D n Q R E P hf k=>?_]];show r.run A G H D n _ _ E P hf  ?_;rintro ws m vs H1 ⟨l,kk,e,F,r⟩ hv g;subst e;obtain⟨v,s,rfl,⟨ad,xs,rfl,I,hl⟩,v2,s2,rfl,⟨bd,ys,rfl,J,hk⟩,hs⟩:=hv;cases hs;show#[ad,bd,BA,#[xs,.of (zn _ _ I)],#[ys,.of (zn _ _ J)],k _ m _ H1 r (zlY F (λs=>.of (zn _ _ (s.lst I))) hl J hk) g]
theorem uM.keys {κ:Type}{BF:Hp}:∀ {BC:List (κ×Dt)} {ks:List (κ×V)},uM BF BC ks->ks.map (·.1)=BC.map (·.1)
 | [],_,h=>by cases h;rfl
 | q::r,_,⟨v,s,e,_,h⟩=>by subst e;rw[aB,aB,uM.keys h]
def zao(BG:DfnD X.K X.mg x st ps ds fA fd)(BF:FnOk X.prog X.w X.K X.mg X.base CX0 j fA fd ps (spV k fr F))(O:Room J X.A)(U:JA X Pn M (e::es) fs)(q:j<=J:=by ext)(Y:Gl X x:=by rfl)(B:Ah x:=by ext)(Z:starEach (e::es) X.env=(false,eval e X.env)::starEach es X.env:=by rfl)(I:(backTo pos (starEach es X.env)).any (·.1)=false:=by rfl) :
  JE X Pn M fr (.Call (.Name x p) (e::es) [] pos) (mFn k (F Pn) fs):=by
 obtain⟨ta,qa,ra⟩:=U.ex;show#[_,znY BG BF O qa q Y B Z I,zs6 ra]
def zpm (i j:Nat):Ms:=λD n k=>∃w,D[j]?=some (some w)/\k.nx ((D.set j none).set i (some w)) n
def zvw (i j:Nat)(fs:AC):Ms:=λD n k=>fs D n λq m=>∃w u,q=[w,u]/\k.nx ((D.set i (some w)).set j (some u)) m
def zrY {i j:Nat}{x y:Str}{fs:AC}{px F I:Pos}{kt k2 pt2}(Z:X.calm=true)(hN:X.N.Nodup)(hi:X.N[i]?=some x)(hj:X.N[j]?=some y)(hx:X.env.scope.names.lookup x=some .local)(hy:X.env.scope.names.lookup y=some .local)(ha:JA X Pn M [a,b] fs)(J:i≠j:=by ext)(O:i∉M:=by ext)(U:j∉M:=by ext)(ac:i∉S:=by ext)(ad:j∉S:=by ext)
  (hw:swappedStores [.Tuple [.Name x px,.Name y F] kt I] (.Tuple [a,b] k2 pt2) X.env=pure (some [x,y]):=by rfl)
  (hs:swapsWithSole [.Tuple [.Name x px,.Name y F] kt I] (.Tuple [a,b] k2 pt2) pos.line X.env=pure false:=by rfl) :
  JS X Pn S M fr (.Assign [.Tuple [.Name x px,.Name y F] kt I] (.Tuple [a,b] k2 pt2) pos) (zvw i j fs):=by
 obtain⟨ta,qa,ra⟩:=ha.ex;show#[_,#[zsP Z hN hi hj J hx hy qa.run hw hs],#[λB A G H D n k BG a kk hf=>?_]];show ra.run A G H D n _ _ a.env a.pn hf  ?_;rintro ws m vs H1 ⟨w,u,e,r⟩ hv g;subst e;obtain⟨v,y,rfl,b1,b2⟩:=zq4 hv;have Y:=a.step g;show#[v,y,BA,kk.nx A _ H1 _ m (EnvR.mineG Y ((Y.env.set O b1).set U b2) λq hq=>?_) r];have qi:i≠q:=λz=>by right
 have qj:j≠q:=λz=>by right
 right
end
end L3
namespace L3
open L2
def zgF (n w:Nat):List.range ((n+1) * w)=List.range w++(List.range (n * w)).map (w+·):=by rw[gA,Nat.add_comm,List.range_add]
theorem zg4 (w:Nat)(B:0<w):∀rows:AF,(List.range (rows.length * w)).map (λk=>rows.getD (k / w) []++[((k % w:Nat):Int)])=xW rows (zK w)
 | []=>by simp[xW]
 | r::rows=>by
  have F:=zg4 w B rows;have e:xW (r::rows) (zK w)=(zK w).map (λv=>r++[v])++xW rows (zK w):=by unfold xW;rw[List.flatMap_cons]
  rw[e,aK,zgF,aR,aI,<- F];congr 1;unfold zK;rw[aI,aS];apply bP;intro k I;have q:=aM.mp I;rw[gv q,Nat.mod_eq_of_lt q];rfl;apply bP;right
structure StOk (rm st:AG):Prop where
 len:st.length=rm.length
 box:∀b:Int,0<=b->b<rm.length->0<=zQ st b/\zQ st b<zQ rm b
def ug:∀ (ns:AG),(∀n∈ns,1<=n)->((zam (ns.map zK)).length:Int)=zY ns:=by
 have:∀ (k:Nat) (ns:AG),ns.length=k->(∀n∈ns,1<=n)->((zam (ns.map zK)).length:Int)=zY ns:=by
  intro k
  induction k with
  | zero=>intro ns e _;rw[bf e];rfl
  | succ k B=>
   intro ns e h
   obtain⟨m,x,rfl⟩:∃m x,ns=m++[x]:=by
    have q:ns≠[]:=by intro z;rw[z] at e;cases e
    show#[ns.dropLast,ns.getLast q,(bv q).symm]
   rw[am] at e;rw[aR,aB,eU,xm,zc5,yR,zdg];have h1:=B m (by simpa using e) λn hn=>h n (bH _ hn);have h2:=h x (aU _ (by simp));rw[eA,h1,fO (by lia)]
 right
def zkw:∀ {ns:AG},(∀n∈ns,1<=n)->1<=zY ns:=λ{ns} h=>by
 have h1:=ug ns h
 have:∀ (ns:AG) (a:Int),1<=a->(∀n∈ns,1<=n)->1<=ns.foldl (· * ·) a:=by
  intro ns
  induction ns with
  | nil=>intro a q _;show q
  | cons n ns B=>
   intro a q hn;show B (a * n) ?_ λm F=>hn m (av _ F);have:=hn n ao;show Int.le_trans (by ext) (Int.mul_le_mul q this (by ext) (by lia))
 show this ns 1 (by ext) h
def zkx {ns:AG}(q:ns≠[])(h:∀n∈ns,2<=n):2<=zY ns:=by
 obtain⟨m,x,rfl⟩:∃m x,ns=m++[x]:=#[ns.dropLast,ns.getLast q,(bv q).symm];rw[yR];have h1:=zkw (ns:=m) λn hn=>by have:=h n (bH _ hn);lia
 have h2:=h x (aU _ (by simp));show Int.le_trans (by simp) (Int.mul_le_mul h1 h2 (by ext) (by lia))
def zoM (a b:AG)(k:Nat):Wi:=#[((List.range a.length).filter λi=>!decide (i=k)).map λi:Nat=>((i:Int),a.getD i 0),(k:Int),b.getD k 0,a.getD k 0]
def zlO {rm a b:AG}{k:Nat}(J:StOk rm a)(O:StOk rm b)(U:k<a.length)(F:a.getD k 0≠b.getD k 0):WishOk rm (zoM a b k):=by
 have Y:=J.len;have A:∀i:Nat,i<rm.length->0<=a.getD i 0/\a.getD i 0<zQ rm (i:Int):=λi hi=>by have:=J.box (i:Int) (by lia) (by lia);rwa[zH] at this
 have Bb:∀i:Nat,i<rm.length->0<=b.getD i 0/\b.getD i 0<zQ rm (i:Int):=λi hi=>by have:=O.box (i:Int) (by lia) (by lia);rwa[zH] at this
 have B:k<rm.length:=by lia
 show#[#[λq I=>?_,?_],by change (0:Int)<=(k:Int);lia,by change (k:Int)<_;lia,λq I=>?_,(Bb k B).1,(Bb k B).2,(A k B).1,(A k B).2,λz=>F z.symm];obtain⟨i,hi,rfl⟩:=au.mp I;right;change List.Pairwise (λa b:Int×Int=>a.1<b.1) (((List.range a.length).filter λi=>!decide (i=k)).map λi:Nat=>((i:Int),a.getD i 0));rw[cz];show gl (R:=λi j:Nat=>i<j) (λ{i j} h=>?_) (List.Pairwise.filter _ List.pairwise_lt_range);grind;obtain⟨i,hi,rfl⟩:=au.mp I;have:=(cR.mp hi).2;change (i:Int)≠(k:Int);grind
def zuA (rm:AG)(bk:AW)(g:List (Int×Int)):AF:=(zvj rm g).filter λst=>decide (zcS bk st (g.map (·.1))=[])
abbrev xV (bk:AW):Dt:=.tup (bk.map yN)
def xR (rm:AG)(bk:AW):Prop:=∀x∈bk,WishOk rm x
def zhs (x:Wi):(yN x).noL=true:=by have h:=zpw x.g;unfold yN;simp only[Dt.noL,Dt.noLs,fE,Bool.true_and] at h ⊢;show h
abbrev F_bett:FV:=λ_ q n R=>∃rm bk st hs,q=[.d (stD rm),.d (xV bk),.d (stD st),.d (stD hs)]/\RoomOk rm/\xR rm bk/\st.length=rm.length/\R (.d (uK (yH bk st hs))) n
abbrev zt0:FV:=λ_ q n R=>∃rm bk g,q=[.d (stD rm),.d (xV bk),.d (zua g)]/\RoomOk rm/\xR rm bk/\Giv rm g/\R (.d (uK (zuA rm bk g))) n
def xG (r:Nat):ziq 0 r=(List.range r).map λk:Nat=>W.d (.int (k:Int)):=by
 unfold ziq;right
def zaD{rows:AF}(h:i<rows.length):atI (rows.map stD) (i:Int)=some (stD (rows.getD i [])):=by
 show zeI ?_;right
def zgT {ns:AG}(I:ns.length<=8)(q:∀m∈ns,2<=m/\m<=4)(k:Nat):(zam ((ns.take k).map zK)).length<=65536:=by
 have:=zln (cs:=ns.map zK) (by right) (λc B=>by obtain⟨m,F,rfl⟩:=au.mp B;have:=q m F;rw[zdg];lia) k;right
def yD{rows:AF}(h:i<rows.length):rows.getD i []∈rows:=by right
def zri {L:AS}{a:Int}{BF:Dt->Prop}(q:0<=a)(h1:a<L.length)(h:∀x∈L,BF x):∃x,atI L a=some x/\BF x:=by obtain⟨d,h2,B⟩:=zrj q h1;show#[d,h2,h d B]
def zqy (rm:AG):Bool:=decide (rm≠[]/\rm.length<=8/\(∀r∈rm,2<=r/\r<=4)/\zY rm<=256)
def uy(rm:AG)(e:d=stD rm)(h:zqy rm=true):∃rm,d=stD rm/\RoomOk rm/\zY rm<=256:=by obtain⟨h1,h2,q,B⟩:=bp h;show#[rm,e,#[h1,h2,q],B]
def zbp:∀ {rm:AG},(∀r∈rm,2<=r/\r<=4)->zY rm<=256->rm.length<=8:=λ{rm} B I=>by
 have:∀ (k:Nat) (rm:AG),rm.length=k->(∀r∈rm,2<=r/\r<=4)->(2:Int) ^ k<=zY rm:=by
  intro k
  induction k with
  | zero=>intro rm e _;rw[bf e];decide
  | succ k F=>
   intro rm e B
   obtain⟨m,x,rfl⟩:∃m x,rm=m++[x]:=by
    have q:rm≠[]:=by intro z;rw[z] at e;cases e
    show#[rm.dropLast,rm.getLast q,(bv q).symm]
   rw[am] at e;have h1:=F m (by simpa using e) λn hn=>B n (bH _ hn);have h2:=B x (aU _ (by simp));rw[yR,Int.pow_succ];have J:(0:Int)<=2 ^ k:=Int.pow_nonneg (by ext);show Int.mul_le_mul h1 h2.1 (by ext) (by lia)
 apply bG;intro hn;have h1:=this _ rm BA B
 have h2:(2:Int) ^ 9<=2 ^ rm.length:=by
  have:(2:Nat) ^ 9<=2 ^ rm.length:=dL (by ext) (by lia)
  exact_mod_cast this
 grind
def zje {a b:AG}(B:a.length=b.length)(q:a≠b):∃k zz,((List.range a.length).filter λk=>!decide (a.getD k 0=b.getD k 0))=k::zz/\k<a.length/\a.getD k 0≠b.getD k 0:=by
 cases h:(List.range a.length).filter λk=>!decide (a.getD k 0=b.getD k 0) with
 | nil=>
  exfalso;apply q;apply dS B;right
 | cons k zz=>
  have F:k∈(List.range a.length).filter λk=>!decide (a.getD k 0=b.getD k 0):=by rw[h];simp
  obtain⟨h1,h2⟩:=cR.mp F;right
def StOk.snoc {rm st:AG}{w v:Int}(h:StOk rm st)(I:0<=v)(J:v<w):StOk (rm++[w]) (st++[v]):=by
 have O:=h.len;show#[by right,λb q B=>?_];rw[am] at B;by_cases F:b<(rm.length:Int);rw[zbm q (by lia),zbm q F];show h.box b q F
 have e:b=(rm.length:Int):=by
  have:b<(rm.length:Int)+1:=by simpa using B
  lia
 subst e;rw[zbl,<- O,zbl];show#[I,J]
def ziw {BE q B:AF}{k w:Nat}(I:k<BE.length)(hN:BE.Nodup)(h1:q.Nodup)(h2:∀x∈q,∃a∈BE.take k,∃v:Int,0<=v/\v<w/\x=a++[v])(h3:q.length=k * w)(J:B.Perm ((List.range w).map λv:Nat=>BE.getD k []++[(v:Int)])) :
  (q++B).Nodup/\(∀x∈q++B,∃a∈BE.take (k+1),∃v:Int,0<=v/\v<w/\x=a++[v])/\(q++B).length=(k+1) * w:=by
 have O:BE.getD k []=BE[k]:=by simp[I]
 have ht:BE.take (k+1)=BE.take k++[BE[k]]:=zr (ak I)
 have U:∀x∈B,∃v:Int,0<=v/\v<w/\x=BE[k]++[v]:=λx F=>by
  obtain⟨v,hv,rfl⟩:=au.mp (J.mem_iff.mp F);right
 have nB:B.Nodup:=by
  show J.nodup_iff.mpr ?_;change List.Pairwise _ _;rw[cz];show gl (λ{a b} h e=>h ?_) dU;have:=List.append_cancel_left e;grind
 have ac:BE[k]∉BE.take k:=λz=>by have Y:=hN;rw[<- aX k BE,b6 I] at Y;show (eP.mp Y).2.2 _ z _ ao BA
 show#[eP.mpr #[h1,nB,λx F y hy e=>?_],λx F=>?_,?_];obtain⟨a,Z,v,_,_,rfl⟩:=h2 x F;obtain⟨u,_,_,rfl⟩:=U y hy;right;rw[ht];rcases aF.mp F with z | z;obtain⟨a,Z,r⟩:=h2 x z;show#[a,bH _ Z,r];obtain⟨v,r⟩:=U x z;show#[_,aU _ (by simp),v,r];rw[am,h3,J.length_eq,ab,aG,gA]
def zbb {α q:Type}(f:α->q)(l:List α)(lo hi:AQ):zcQ (l.map f) lo hi=(zcQ l lo hi).map f:=by
 unfold zcQ;right
def zf7 {α:Type}{l:List α}{lo hi:AQ}{x:α}(h:x∈zcQ l lo hi):x∈l:=cK (bI h)
def zdC {α:Type}(l:List α)(lo hi:AQ):(zcQ l lo hi).length<=l.length:=by unfold zcQ;rw[bq,dw];lia
def zc9 {l:AF}(h:l.Nodup){k:Nat}(q:k+1<l.length):l.getD k []≠l.getD (k+1) []:=by have:=bN.mp h k (k+1) (by lia) q (by lia);simpa [show k<l.length by lia,q] using this
def xR.cut{rm:AG}(h:xR rm bk)(lo hi:AQ):xR rm (zcQ bk lo hi):=λx q=>h x (zf7 q)
def xR.app{rm:AG}(h:xR rm bk)(h':xR rm q):xR rm (bk++q):=λx B=>(aF.mp B).elim (h x) (h' x)
def xR.set{rm:AG}(h:xR rm bk)(q:WishOk rm x)(i:Nat):xR rm (bk.set i x):=λy B=>(List.mem_or_eq_of_mem_set B).elim (h y) λe=>e ▸ q
def xR.ins{rm:AG}(h:xR rm bk)(q:WishOk rm x)(i:Nat):xR rm (znB bk i x):=λy B=>by
 rcases aF.mp B with z | z;show h y (bI z);rcases aA.mp z with rfl | z;show q;show h y (cK z)
def zoU {α q:Type}(f:α->q)(l:List α)(i:Nat)(x:α):znB (l.map f) i (f x)=(znB l i x).map f:=by
 unfold znB;right
def zoT {α:Type}(l:List α)(i:Nat)(x:α):(znB l i x).length=l.length+1:=by
 unfold znB;grind
def zdJ (n:Nat):AG:=(List.range n).map λi:Nat=>(i:Int)
def zfy (n:Nat):zmV n=(zdJ n).map Dt.int:=by unfold zmV zdJ;rw[aI];rfl
def zb1{x:Int}(h:x∈zdJ n):0<=x/\x<n:=by
 obtain⟨i,hi,rfl⟩:=au.mp h;grind
def yS (n:Nat):(zdJ n).length=n:=by unfold zdJ;rw[ab,aG]
def zb2 (n:Nat):(zdJ n).Nodup:=by unfold zdJ;change List.Pairwise _ _;rw[cz];show gl (by grind) dU
def unI:Dt->Int
 | .int i=>i
 | _=>0
def zcu{xs:AG}(h:l.Perm (xs.map Dt.int)):∃ys:AG,l=ys.map Dt.int/\ys.Perm xs:=by
 show#[l.map unI,?_,?_];rw[aI];have:∀d∈l,(Dt.int ∘ unI) d=d:=λd q=>by obtain⟨x,_,rfl⟩:=au.mp (h.mem_iff.mp q);rfl
 show (List.map_id'' (f:=Dt.int ∘ unI) (l:=l) |> λ_=>(bP this).trans (List.map_id l)).symm;have:=h.map unI;rw[aI] at this;have e:xs.map (unI ∘ Dt.int)=xs:=(bP λ_ _=>rfl).trans (List.map_id xs);rwa[e] at this
def zag {α:Type}(l:List α)(k:Nat):zcQ l none (some (k:Int))=l.take k:=by
 unfold zcQ;rw[HT.sIx_none,HT.sIx_nat,dN,Nat.sub_zero];grind
structure ParOk (rm:AG)(box:Int)(qs:AG):Prop where
 up:qs.Pairwise (· < ·)
 ok:∀q∈qs,0<=q/\q<rm.length/\q≠box
def ParOk.cut {rm:AG}{B:Int}{F:AG}(h:ParOk rm B F)(lo hi:AQ):ParOk rm B (zcQ F lo hi):=
 #[(h.up.drop).take,λq I=>h.ok q (zf7 I)]
def zst{rm:AG}{B ps I:AG}{t:AQ}(O:B.Perm (zdJ rm.length))(U:k<B.length)(Y:ps.Perm (B.take k))(Z:I.Perm (zcQ ps none t))(hu:I.Pairwise (·<=·)):ParOk rm (B.getD k 0) I:=by
 have nb:B.Nodup:=O.nodup_iff.mpr (zb2 _);have np:ps.Nodup:=Y.nodup_iff.mpr (nb.sublist (cw _ _));have nq:I.Nodup:=Z.nodup_iff.mpr ((np.sublist (eM _ _)).sublist (cw _ _));have F:B.getD k 0=B[k]:=by simp[U]
 show#[?_,λq J=>?_];show (List.Pairwise.and hu nq).imp λ{a b} h=>by obtain⟨h1,h2⟩:=h;lia
 have h1:q∈B.take k:=Y.mem_iff.mp (zf7 (Z.mem_iff.mp J));have h2:=zb1 (O.mem_iff.mp (bI h1));show#[h2.1,h2.2,λz=>?_];have hd:=nb;rw[<- aX k B,b6 U] at hd;show (eP.mp hd).2.2 _ h1 _ ao (by rw[z,F])
def zok:∀ (ns st:AG),st∈zam (ns.map zK)->StOk ns st:=by
 have:∀ (k:Nat) (ns:AG),ns.length=k->∀st,st∈zam (ns.map zK)->StOk ns st:=by
  intro k
  induction k with
  | zero=>
   intro ns e st q;rw[bf e] at q ⊢;rw[aq.mp q];show#[BA,λb Y F=>absurd F (by simp;lia)]
  | succ k I=>
   intro ns e st q
   obtain⟨m,x,rfl⟩:∃m x,ns=m++[x]:=by
    have B:ns≠[]:=by intro z;rw[z] at e;cases e
    show#[ns.dropLast,ns.getLast B,(bv B).symm]
   rw[am] at e;rw[aR,aB,eU,xm] at q;obtain⟨r,J,q⟩:=List.mem_flatMap.mp q;obtain⟨v,O,rfl⟩:=au.mp q;obtain⟨j,U,rfl⟩:=au.mp O;have:=aM.mp U;show (I m (by simpa using e) r J).snoc (by lia) (by lia)
 right
def zoO {rm:AG}{I:Int}{B st:AG}(h:ParOk rm I B)(hs:StOk (B.map (zQ rm)) st):Giv rm (B.zip st)/\∀q∈B.zip st,q.1≠I:=by
 have O:=hs.len;rw[ab] at O;have J:∀q∈B.zip st,q.1∈B:=λq F=>(fH F).1;show#[#[λq F=>?_,?_],λq F=>(h.ok _ (J q F)).2.2];obtain⟨i,hi,e⟩:=bt.mp F;rw[List.getElem_zip] at e;rw[List.length_zip] at hi;have h1:=h.ok _ (J q F);have h2:=hs.box (i:Int) (by lia) (by grind);have U:zQ st (i:Int)=q.2:=by rw[zH,<- e];simp[show i<st.length by lia]
 have Y:zQ (B.map (zQ rm)) (i:Int)=zQ rm q.1:=by rw[zH,<- e];simp[show i<B.length by lia]
 right;have e:(B.zip st).map (·.1)=B:=List.map_fst_zip (by lia);have:=h.up;rw[<- e,cz] at this;show this
theorem zhT:∀ (B st:AG),ziW (B.map Dt.int) (st.map Dt.int)=(B.zip st).map λq=>W.d (uu q)
 | [],_=>by cases ‹AG› <;> rfl
 | _::_,[]=>rfl
 | q::B,s::st=>by change _::ziW (B.map Dt.int) (st.map Dt.int)=_::_;rw[zhT B st];rfl
section
variable {X:Cx}{Pn:PN}{M S:AR}{fr fr':Bool}{e a b c:Expr}{es:AO}{f fa fb fc:AD}{pos p:Pos}
def zj8 (t:Ev->Mo Bool)(fb:Ms):Ms:=λD n k=>∃I:Nat->Ev->Nat->Prop,(∃m,I m D n)/\
 ∀m q O,I m q O->t q O λb U=>if b=true then fb q U { k with nx:=λB J=>∃F,F<m/\I F B J,ct:=λB J=>∃F,F<m/\I F B J,bk:=k.nx } else k.nx q U
def zhh {body:List Stmt}{t:Ev->Mo Bool}{fb:Ms}(hp:PassesOwn (model X.prog X.w) X.A X.env X.xe)(hc:JT X Pn M c t)(hb:JSs X Pn S M fr body fb):JS X Pn S M fr (.While c body [] pos) (zj8 t fb):=by
 obtain⟨tc,qc,rc⟩:=hc.ex;obtain⟨tb,qb,rb⟩:=hb.ex;show#[_,#[zmE hp qc.run qb.run],#[ ?_]];rintro B A G H D n k BG a kk ⟨I,⟨m0,i0⟩,it⟩;show#[λm F H'=>∃A' q U,At3 Pn B S M A' F H' q U/\I m q U,#[m0,A,D,n,a,i0],?_];rintro m F H' ⟨A',q,U,a',hI⟩;show rc.run A' F H' q U _ _ a'.env a'.pn (it m q U hI) λb n2 H2 r g=>?_;have a2:=a'.step g
 cases b with
 | false=>
  rw[if_neg (by ext)] at r ⊢;show kk.nx A' F H2 q n2 a2 r
 | true=>
  rw[if_pos rfl] at r ⊢;show#[λac H3=>∃A' q U,At3 Pn B S M A' ac H3 q U/\∃O,O<m/\I O q U,λac H3 ⟨A3,ad,n3,a3,O,hm,h⟩=>#[O,hm,A3,ad,n3,a3,h],?_];show rb.run B A' F H2 q n2 { k with nx:=λY n3=>∃O,O<m/\I O Y n3,ct:=λY n3=>∃O,O<m/\I O Y n3,bk:=k.nx } _ a2 #[?_,?_,?_,kk.fc,?_] r;show λA4 Z H4 J n4 a4 r4=>#[A4,J,n4,a4,r4];show λA4 Z H4 J n4 a4 r4=>kk.nx A4 Z H4 J n4 a4 r4;show λA4 Z H4 J n4 a4 r4=>#[A4,J,n4,a4,r4];show kk.rt
def zli{t:Ev->Mo Bool}{fb:Ms}{D:Ev}{k:Kt}(I:Nat->Ev->Nat->Prop)(O:Nat)(Z:I O D n)(h:∀m q U,I m q U->t q U λb Y=>if b=true then fb q Y { k with nx:=λB J=>∃F,F<m/\I F B J,ct:=λB J=>∃F,F<m/\I F B J,bk:=k.nx } else k.nx q Y):zj8 t fb D n k:=#[I,#[O,Z],h]
end
end L3
namespace L2
open PyProof.Rows
section
variable {prog:Aa}{w:Ab}{A:Ae}{E:AA}{R:Result->AZ->Prop}{s:AZ}
variable {X:Cx}{BB:AB}{G:St}{H:Hp}{a:Addr}{y v:V}{u r:Value}{o:Option V}
def zi8(hu:A.units+1<cLine)(I:Inv X BB G H s)(g:zeE H a y v H')(ry:yo y u)(rv:yo v r)(h:∀s',Inv X BB G H' s'->Q () s') :
  wpAny (model X.prog X.w) A (dictSet a u r) Q E s:=by
 rcases g with ⟨BC,k,e,ey,l,eH⟩ | ⟨BC,k,b,e,ey,eb,l,eH⟩;subst ey eH;obtain⟨z,O,vs,B,U⟩:=zov I.hok e;have Y:vs.length<=sizeLine:=by rw[<- B.length];show z
 have Z:(uZ BC k v).length<=sizeLine:=by have:=xp BC k v;lia
 show wpAny_dictSet_pairs (hsz:=Y) (zh7 ry) U λh' F hs=>h _ ?_;have he:∃q,h'.get? a=some q:=let ⟨q,_,_,J,_⟩:=F;#[q,J];show zb0 I (by rw[e];show True.intro) hs he (zjf Z O (B.put k rv) F);subst ey eH;cases (show u=Value.ref b from ry);obtain⟨z,O,xs,B,U⟩:=zrE I.hok e;have Y:xs.length<=sizeLine:=by rw[<- gm B];show z
 have Z:(uZ BC k v).length<=sizeLine:=by have:=xp BC k v;lia
 show wpAny_dictSet_heap (hsz:=Y) (Nat.lt_of_succ_lt hu) (zfg I.hok eb) U λh' F hs=>h _ ?_;obtain⟨q,es,ep,J,h2,h3,h4,_,h5⟩:=F;show zb0 I (by rw[e];show True.intro) hs #[q,J] #[Z,O,_,(B.put k eb rv).keeps λc ys ec=>?_,q,es,ep,J,h2,h3,h4,h5];rw[zf (by grind)];show ec
variable {Fam:Cx->Prop}{scope:Scope}{N:AM}{BD:List (Option Nat)}{z:Str}{use:Option (Value->Sem Unit)}{Qp:AA}{elt ke ve tg iter tg2 iter2:Expr}{ifs ifs2:AO}{pos ipos spos px:Pos}{wi wi2:TI}{g g2:TG}{ti ti2:TT}{te tk tv:TE}{Q:VK}{o0:HO}
end
end L2
namespace L3
open L2
section
variable {X:Cx}{Pn:PN}{M S:AR}{fr fr':Bool}{e a b c:Expr}{es:AO}{f fa fb fc:AD}{pos p:Pos}
def zvE (ks:List (AG×V)):NP (dtO ks):=λ_ e=>by cases e
def zrD (mg:W->Ev->(Ev->Prop)->Prop)(U:Ev->Mo Bool)(fk fv:AD)(J:Ev)(Q:AV):AU->Nat->Prop:=λl Y=>l.length<=lim/\∃I:Nat->Ev->Nat->List (AG×Dt)->Prop,I 0 J Y []/\
 (∀i w B F acc,l[i]?=some w->I i B F acc->mg w B λq=>U q F λb O=>if b=true then fk q O λy Z=>fv q Z λx n4=>∃st d,y = .d (stD st)/\x = .d d/\I (i+1) q n4 (zlm acc st d) else I (i+1) q O acc)/\
 ∀ B F acc,I l.length B F acc->Q (.dt acc) F
abbrev zvn (q:AC) (mg:W->Ev->(Ev->Prop)->Prop) (B:Ev->Mo Bool) (fk fv:AD) (BD:List (Option Nat)):AD:=λD n Q=>q D n (zrD mg B fk fv (ziJ D BD) Q)
def zrC (mg:W->Ev->(Ev->Prop)->Prop)(U:Ev->Mo Bool)(fk fv:AD)(J:Ev)(Q:AV):AU->Nat->Prop:=λl Y=>l.length<=lim/\∃I:Nat->Ev->Nat->List (Key×Dt)->Prop,I 0 J Y []/\
 (∀i w B F acc,l[i]?=some w->I i B F acc->mg w B λq=>U q F λb O=>if b=true then fk q O λy Z=>fv q Z λx n4=>∃ (j:Int) (d:Dt),y = .d (.int j)/\x = .d d/\I (i+1) q n4 (zlm acc (Sum.inl j) d) else I (i+1) q O acc)/\
 ∀ B F acc,I l.length B F acc->Q (.dk acc) F
abbrev zvm (q:AC) (mg:W->Ev->(Ev->Prop)->Prop) (B:Ev->Mo Bool) (fk fv:AD) (BD:List (Option Nat)):AD:=λD n Q=>q D n (zrC mg B fk fv (ziJ D BD) Q)
end
abbrev onI (w:W) (P:Int->Prop):Prop:=match w with | .d (.int i)=>P i | _=>False
abbrev onB (w:W) (P:Bool->Prop):Prop:=match w with | .d (.bl i)=>P i | _=>False
abbrev onT (w:W) (P:AS->Prop):Prop:=match w with | .d (.tup i)=>P i | _=>False
abbrev onL (w:W) (P:AS->Prop):Prop:=match w with | .d (.lst i)=>P i | _=>False
abbrev onS (w:W) (P:AS->Prop):Prop:=match w with | .d (.lst i)=>P i | .d (.tup i)=>P i | _=>False
abbrev onD (w:W) (P:Dt->Prop):Prop:=match w with | .d i=>P i | _=>False
abbrev onK (w:W) (P:List (Key×Dt)->Prop):Prop:=match w with | .dk i=>P i | _=>False
abbrev onE (w:W) (P:List (AG×Dt)->Prop):Prop:=match w with | .dt i=>P i | _=>False
abbrev onO {α:Type} (o:Option α) (P:α->Prop):Prop:=match o with | some i=>P i | none=>False
abbrev onC (c:Bool) (A B:Prop):Prop:=match c with | true=>A | false=>B
abbrev on1 (l:AU) (P:W->Prop):Prop:=match l with | [a]=>P a | _=>False
abbrev on2 (l:AU) (P:W->W->Prop):Prop:=match l with | [a,b]=>P a b | _=>False
abbrev onV:Ev->Nat->(W->Prop)->Prop
 | [],_,_=>False
 | a::_,0,P=>onO a P
 | _::r,i+1,P=>onV r i P
abbrev onP:Ev->Nat->W->(Ev->Prop)->Prop
 | [],_,_,Q=>Q []
 | _::r,0,w,Q=>Q (some w::r)
 | a::r,i+1,w,Q=>onP r i w λq=>Q (a::q)
abbrev onN:Ev->Nat->(Ev->Prop)->Prop
 | [],_,Q=>Q []
 | _::r,0,Q=>Q (none::r)
 | a::r,i+1,Q=>onN r i λq=>Q (a::q)
abbrev zco {α:Type}:Nat->List α->Prop->Prop
 | 0,[],P=>P
 | k+1,_::r,P=>zco k r P
 | _,_,_=>False
def uW{P:Int->Prop}:onI w P = ∃i,w = .d (.int i)/\P i:=propext #[λh=>by rcases w with (x|x|x|x|_|_) <;> first | show False.elim h | (cases x <;> first | show False.elim h | show#[_,BA,h]),by right]
def zdc:onB w P = ∃i,w = .d (.bl i)/\P i:=propext #[λh=>by rcases w with (x|x|x|x|_|_) <;> first | show False.elim h | (cases x <;> first | show False.elim h | show#[_,BA,h]),by rintro⟨i,e,h⟩;subst e;show h]
def zcp:onT w P = ∃i,w = .d (.tup i)/\P i:=propext #[λh=>by rcases w with (x|x|x|x|_|_) <;> first | show False.elim h | (cases x <;> first | show False.elim h | show#[_,BA,h]),by right]
def uc:onL w P = ∃i,w = .d (.lst i)/\P i:=propext #[λh=>by rcases w with (x|x|x|x|_|_) <;> first | show False.elim h | (cases x <;> first | show False.elim h | show#[_,BA,h]),by right]
def zkl:onS w P = ∃i,(w = .d (.lst i)\/w = .d (.tup i))/\P i:=propext #[λh=>by rcases w with (x|x|x|x|_|_) <;> first | show False.elim h | (cases x <;> first | show False.elim h | show#[_,.inl BA,h] | show#[_,.inr BA,h]),by rintro⟨i,e,h⟩;rcases e with e | e <;> subst e <;> show h]
def xb:onD w P = ∃i,w = .d i/\P i:=propext #[λh=>by cases w <;> first | show False.elim h | show#[_,BA,h],by right]
def zkk{P:List (AG×Dt)->Prop}:onE w P = ∃i,w = .dt i/\P i:=propext #[λh=>by cases w <;> first | show False.elim h | show#[_,BA,h],by right]
def zdd {α:Type}{w:Option α}{P:α->Prop}:onO w P = ∃i,w=some i/\P i:=propext #[λh=>by cases w <;> first | show False.elim h | show#[_,BA,h],by right]
def zbo{A B:Prop}:onC c A B=if c=true then A else B:=by cases c <;> simp[onC]
def uV:on1 l P = ∃a,l=[a]/\P a:=propext #[λh=>by rcases l with (_|⟨a,_|⟨b,l⟩⟩) <;> first | show False.elim h | show#[_,BA,h],by right]
def zki:on2 l P = ∃a b,l=[a,b]/\P a b:=propext #[λh=>by rcases l with (_|⟨a,_|⟨b,_|⟨c,l⟩⟩⟩) <;> first | show False.elim h | show#[_,_,BA,h],by right]
theorem zaw:∀ {D:Ev} {i:Nat} {P:W->Prop},onV D i P = ∃w,D[i]?=some (some w)/\P w
 | [],i,P=>by simp[onV]
 | some w::r,0,P=>by simp[onV]
 | none::r,0,P=>by simp[onV]
 | some w::r,i+1,P=>by simpa [onV] using zaw (D:=r) (i:=i) (P:=P)
 | none::r,i+1,P=>by simpa [onV] using zaw (D:=r) (i:=i) (P:=P)
theorem xF:∀ {D:Ev} {i:Nat} {w:W} {Q:Ev->Prop},onP D i w Q=Q (D.set i (some w))
 | [],i,w,Q=>rfl
 | a::r,0,w,Q=>rfl
 | a::r,i+1,w,Q=>by rw[onP,xF];rfl
theorem znN:∀ {D:Ev} {i:Nat} {Q:Ev->Prop},onN D i Q=Q (D.set i none)
 | [],i,Q=>rfl
 | a::r,0,Q=>rfl
 | a::r,i+1,Q=>by rw[onN,znN];rfl
theorem zbR {α:Type}:∀ {k:Nat} {l:List α} {P:Prop},zco k l P=(l.length=k/\P)
 | 0,[],P=>by simp[zco]
 | 0,a::r,P=>by simp[zco]
 | k+1,[],P=>by simp[zco]
 | k+1,a::r,P=>by simp[zco,zbR (l:=r)]
def x9 {P:Prop}[Decidable P]{A B:Prop}(h1:P->A)(h2:¬ P->B):onC (decide P) A B:=by
 by_cases h:P
 all_goals right
def zkj {P:Prop}[Decidable P]{A B:Prop}(h1:¬ P->A)(h2:P->B):onC (!decide P) A B:=by
 by_cases h:P
 all_goals right
def zmp{A B:Prop}(h1:c=true->A)(h2:c=false->B):onC c A B:=by
 cases c;show h2 BA;show h1 BA
def zav{A B:Prop}(h1:c=false->A)(h2:c=true->B):onC (!c) A B:=by
 cases c;show h1 BA;show h2 BA
def zd9{A B:Prop}(h:c=true)(h1:A):onC c A B:=by subst h;show h1
def zbD{A B:Prop}(h:c=false)(h1:B):onC c A B:=by subst h;show h1
def zV {α:Type}{o:Option α}{a:α}{P:α->Prop}(e:o=some a)(h:P a):onO o P:=by subst e;show h
def onA{st:AG}{b:Int}(q:0<=b)(h1:b<st.length)(h:P (.int (zQ st b))):onO (atI (st.map Dt.int) b) P:=zV (zom q h1) h
def zsg {L:AS}{a:Int}{P:Dt->Prop}(q:0<=a)(h1:a<L.length)(h:∀x∈L,P x):onO (atI L a) P:=by obtain⟨x,e,B⟩:=zri q h1 h;show zV e B
section
variable {X:Cx}{Pn:PN}{M S:AR}{fr fr':Bool}{e a b c:Expr}{es:AO}{f fa fb fc g:AD}{pos p:Pos}{t u:Ev->Mo Bool}{fs gs:AC}
def wE (h:f=g)(j:JE X Pn M fr e f):JE X Pn M fr e g:=h ▸ j
def wB (h:f=g)(j:JB X Pn M e f):JB X Pn M e g:=h ▸ j
def wT (h:t=u)(j:JT X Pn M e t):JT X Pn M e u:=h ▸ j
def wW (h:t=u)(j:JW X Pn M e t):JW X Pn M e u:=h ▸ j
def wO {f g:Ev->Mo AQ}{e:Option Expr}(h:f=g)(j:JO X Pn M e f):JO X Pn M e g:=h ▸ j
def wG {f g:W->Ev->(Ev->Prop)->Prop}(h:f=g)(j:JG X S M e f):JG X S M e g:=h ▸ j
def wH {f g:AS->Ev->(Ev->Prop)->Prop}(h:f=g)(j:JGs X S M es f):JGs X S M es g:=h ▸ j
def wI(h:fs=gs)(j:JI X Pn M q tg e fs):JI X Pn M q tg e gs:=h ▸ j
def wS {s:Stmt}{f g:Ms}(h:f=g)(j:JS X Pn S M fr s f):JS X Pn S M fr s g:=h ▸ j
abbrev zrc (i:Nat):AD:=λD n Q=>onV D i λw=>Q w n
def zj7:zr9 i=zrc i:=by funext D n Q;show zaw.symm
def kv (i:Nat){x:Str}(hi:i∉M:=by ext)(B:X.N[i]?=some x:=by rfl)(F:Vis X.env.scope x:=by fail"v")(I:Ah x:=by ext)
  (q:(x==("__classdict__" : Str))=false:=by ext):JE X Pn M false (.Name x pos) (zrc i):=wE zj7 (zvg i hi B F I q)
def kb(i:Nat)(B:X.N[i]?=some x:=by rfl)(F:Vis X.env.scope x:=by fail"v")(I:Ah x:=by ext)(q:(x==("__classdict__" : Str))=false:=by ext):JB X Pn M (.Name x pos) (zrc i):=wB zj7 (zve i B F I q)
abbrev zuW (fa:AD):Ev->Mo Bool:=λD n Q=>fa D n λx m=>onB x λc=>Q c m
def zl:znL fa=zuW fa:=by funext D n Q;simp only[znL,zuW,zdc]
abbrev dAnd (t u:Ev->Mo Bool):Ev->Mo Bool:=λD n Q=>t D n λc m=>onC c (u D m Q) (Q false m)
def zcd:zud t u=dAnd t u:=by funext D n Q;simp only[zud,dAnd,zbo]
abbrev dOr (t u:Ev->Mo Bool):Ev->Mo Bool:=λD n Q=>t D n λc m=>onC c (Q true m) (u D m Q)
def zaQ:mOr t u=dOr t u:=by funext D n Q;simp only[mOr,dOr,zbo]
abbrev dNot (t:Ev->Mo Bool):Ev->Mo Bool:=λD n Q=>t D n λc m=>onC c (Q false m) (Q true m)
def xu:zvv t=dNot t:=by funext D n Q;simp only[zvv,dNot];congr 1;funext c m;cases c <;> rfl
abbrev zrq (fa fb:AD):AD:=λD n Q=>fa D n λx m=>onB x λc=>onC c (fb D m Q) (Q (.d (.bl false)) m)
def zaP:zpf fa fb=zrq fa fb:=by funext D n Q;simp only[zpf,zrq,zbo,zdc]
abbrev dOrV (fa fb:AD):AD:=λD n Q=>fa D n λx m=>onB x λc=>onC c (Q (.d (.bl true)) m) (fb D m Q)
abbrev zrw (fa:AD):AD:=λD n Q=>fa D n λx m=>onB x λc=>Q (.d (.bl (!c))) m
def zmg:zpo fa=zrw fa:=by funext D n Q;simp only[zpo,zrw,zdc]
abbrev dIf (t:Ev->Mo Bool) (fa fb:AD):AD:=λD n Q=>t D n λc m=>onC c (fa D m Q) (fb D m Q)
abbrev dI (C:Int->Int->Prop) (g:Int->Int->Dt):W->W->Mo W:=λx y n Q=>onI x λi=>onI y λj=>C i j/\Q (.d (g i j)) n
def zoB {C:Int->Int->Prop}{g:Int->Int->Dt}:fI C g=dI C g:=by funext x y n Q;simp only[dI,uW];show propext #[by rintro⟨i,j,q,B,h⟩;show#[i,q,j,B,h],by rintro⟨i,q,j,B,h⟩;show#[i,j,q,B,h]]
abbrev dI0 (g:Int->Int->Dt):W->W->Mo W:=λx y n Q=>onI x λi=>onI y λj=>Q (.d (g i j)) n
def zeX {g:Int->Int->Dt}:fI0 g=dI0 g:=by funext x y n Q;simp only[dI0,uW];show propext #[by rintro⟨i,j,q,B,h⟩;show#[i,q,j,B,h],by rintro⟨i,q,j,B,h⟩;show#[i,j,q,B,h]]
def zbH:F2 Pn false (rI0 λi j=>.int (i+j)) (dI0 λi j=>.int (i+j)):=zeX ▸ zwg
def zqZ:F2 Pn false (rI0 λi j=>.int (i - j)) (dI0 λi j=>.int (i - j)):=zeX ▸ zwr
def zqW:F2 Pn false (rI znl λi j=>.int (i * j)) (dI znl λi j=>.int (i * j)):=zoB ▸ zwo
def ztI:F2 Pn false (rI zra λi j=>.int (i / j)) (dI zra λi j=>.int (i / j)):=zoB ▸ ztU
def znd:F2 Pn false (rI (λ_ j=>0<j) λi j=>.int (i % j)) (dI (λ_ j=>0<j) λi j=>.int (i % j)):=zoB ▸ zwn
def zur:F2 Pn false (rI0 λi j=>.bl (decide (i<j))) (dI0 λi j=>.bl (decide (i<j))):=zeX ▸ v_lt
def zuq:F2 Pn false (rI0 λi j=>.bl (decide (i<=j))) (dI0 λi j=>.bl (decide (i<=j))):=zeX ▸ v_le
def zup:F2 Pn false (rI0 λi j=>.bl (decide (i > j))) (dI0 λi j=>.bl (decide (j<i))):=zeX ▸ v_gt
abbrev zuP:W->Mo W:=λx n Q=>onI x λi=>Q (.d (.int (-i))) n
def zwd:F1 Pn false (rU λi=>.int (-i)) zuP:=(show zu6=zuP by funext x n Q;simp only[zu6,zuP,uW]) ▸ zwq
abbrev dEq:W->W->Mo W:=λx y n Q=>onD x λa=>onD y λb=>onO (sEq a b) λr=>Q (.d (.bl r)) n
def zrH:fEq=dEq:=by
 funext x y n Q;simp only[fEq,dEq,xb,zdd];right
abbrev dNe:W->W->Mo W:=λx y n Q=>onD x λa=>onD y λb=>onO (sEq a b) λr=>Q (.d (.bl (!r))) n
def zrJ:fNe=dNe:=by
 funext x y n Q;simp only[fNe,dNe,xb,zdd];right
def zfP:F2 Pn false rEq dEq:=zrH ▸ v_eq
def zne:F2 Pn false rNe dNe:=zrJ ▸ v_ne
abbrev zuE:W->W->Mo W:=λx y n Q=>onD x λa=>onD y λb=>a.eqOk/\b.eqOk/\∀r:Bool,(r=true↔a=b)->Q (.d (.bl r)) n
abbrev zuO:W->W->Mo W:=λx y n Q=>onD x λa=>onD y λb=>a.eqOk/\b.eqOk/\∀r:Bool,(r=true↔a=b)->Q (.d (.bl (!r))) n
def zoA:zuZ=zuE:=by
 funext x y n Q;simp only[zuZ,zuE,xb];right
def zoH:zu5=zuO:=by
 funext x y n Q;simp only[zu5,zuO,xb];right
def znc:F2 Pn false zul zuE:=zoA ▸ zwi
def ztL:F2 Pn false zun zuO:=zoH ▸ zwp
abbrev zuI:W->W->Mo W:=λx y n Q=>onB x λa=>onB y λb=>Q (.d (.bl (a==b))) n
abbrev zf8:W->W->Mo W:=λx y n Q=>onB x λa=>onB y λb=>Q (.d (.bl (a != b))) n
def zoD:zu1=zuI:=by
 funext x y n Q;simp only[zu1,zuI,zdc];right
def zh3:zgc=zf8:=by
 funext x y n Q;simp only[zgc,zf8,zdc];right
def zla:F2 Pn false (λx y H Q=>∃a b,x = .bl a/\y = .bl b/\Q (.bl (a==b)) H) zuI:=zoD ▸ zq1
def zdp:F2 Pn false (λx y H Q=>∃a b,x = .bl a/\y = .bl b/\Q (.bl (a != b)) H) zf8:=zh3 ▸ ziH
abbrev dInI:W->W->Mo W:=λx y n Q=>onI x λb=>onS y λl=>∃ns:AG,l=ns.map .int/\Q (.d (.bl (ns.contains b))) n
abbrev zuT:W->W->Mo W:=λx y n Q=>onI x λb=>onS y λl=>∃ns:AG,l=ns.map .int/\Q (.d (.bl (!ns.contains b))) n
abbrev xr:Bool->Bool->Bool
 | false,b=>b
 | true,b=>!b
abbrev zuG (q:Bool):W->W->Mo W:=λx y n Q=>onD x λd=>onS y λds=>d.eqOk/\(Dt.lst ds).eqOk/\∀b:Bool,(b=true↔d∈ds)->Q (.d (.bl (xr q b))) n
def ztZ {q b:Bool}:(if q then !b else b)=xr q b:=by cases q <;> rfl
def zoC:zu0 q=zuG q:=by
 funext x y n Q;simp only[zu0,zuG,xb,zkl,ztZ];right
def ztJ:F2 Pn false (zvX q) (zuG q):=zoC ▸ zwj
abbrev zt7:W->W->Mo W:=λx y n Q=>onT x λl=>onI y λi=>onO (atI l i) λd=>Q (.d d) n
abbrev zuL:W->W->Mo W:=λx y n Q=>onL x λl=>onI y λi=>onO (atI l i) λd=>Q (.d d) n
def zoF:zu3=zt7:=by
 funext x y n Q;simp only[zu3,zt7,zcp,uW,zdd];right
def zoE:zu2=zuL:=by
 funext x y n Q;simp only[zu2,zuL,uc,uW,zdd];right
def yz:F2 Pn false (zrf K) zt7:=zoF ▸ zwl
def uL:F2 Pn false (zum K) zuL:=zoE ▸ zwk
abbrev zot:W->W->Mo W:=λx y n Q=>onT x λl=>onT y λm=>l.length+m.length<=lim/\Q (.d (.tup (l++m))) n
abbrev zos:W->W->Mo W:=λx y n Q=>onL x λl=>onL y λm=>l.length+m.length<=lim/\Q (.d (.lst (l++m))) n
def zlL:zoz=zot:=by
 funext x y n Q;simp only[zoz,zot,zcp];right
def zlK:zoy=zos:=by
 funext x y n Q;simp only[zoy,zos,uc];right
def zfO:F2 Pn false (zmN K) zot:=zlL ▸ ztT
def zhO:F2 Pn true zqo zos:=zlK ▸ ztS
abbrev dRepT:W->W->Mo W:=λx y n Q=>onT x λl=>onI y λj=>(1<=j/\j<=1000000/\l.length * j.toNat<=lim)/\Q (.d (.tup (List.replicate j.toNat l).flatten)) n
abbrev dRepL:W->W->Mo W:=λx y n Q=>onL x λl=>onI y λj=>(0<=j/\j<=1000000/\l.length * j.toNat<=lim)/\Q (.d (.lst (List.replicate j.toNat l).flatten)) n
def ws1:on1 q P = ∃a,q=[a]/\P a:=uV
abbrev zuM:AU->Mo W:=λq n Q=>on1 q λx=>onO (lenD x) λk=>Q (.d (.int (k:Int))) n
def zoG:zu4=zuM:=by
 funext ws n Q;simp only[zu4,zuM,uV,zdd];right
def yY:FL Pn false (λxs H Q=>∃x n,xs=[x]/\zt3 K x H n/\Q (.int n) H) zuM:=zoG ▸ zwm
abbrev dAbs:AU->Mo W:=λq n Q=>on1 q λx=>onI x λi=>Q (.d (.int (if i<0 then -i else i))) n
abbrev dMin:AU->Mo W:=λq n Q=>on2 q λx y=>onI x λi=>onI y λj=>Q (.d (.int (if j<i then j else i))) n
abbrev dMax:AU->Mo W:=λq n Q=>on2 q λx y=>onI x λi=>onI y λj=>Q (.d (.int (if j > i then j else i))) n
abbrev zuD:AU->Mo W:=λB n Q=>on1 B λx=>onL x λl=>∃q:List Bool,l=q.map .bl/\Q (.d (.bl (q.all id))) n
def zox:zuY=zuD:=by funext ws n Q;simp only[zuY,zuD,uV,uc];show propext #[by rintro⟨x,e,h⟩;show#[_,e,_,BA,x,BA,h],by right]
def zwa:FL Pn false (λxs H Q=>∃ (p:Addr) (q:List Bool),xs=[.ref p]/\H p=some (.lst (q.map V.bl))/\Q (.bl (q.all id)) H) zuD:=zox ▸ zwh
abbrev zru:AU->Mo W:=λq n Q=>on1 q λx=>onS x λl=>Q (.d (.lst l)) n
abbrev znx:AU->Mo W:=λq n Q=>on1 q λx=>onS x λl=>Q (.d (.tup l)) n
def ztn:(∃l,(q=[.d (.lst l)]\/q=[.d (.tup l)])/\P l)=on1 q λx=>onS x P:=by
 simp only[uV,zkl];grind
def ztK:FL Pn true (zkI K) zru:=(show zrI=zru by funext ws n Q;show ztn) ▸ ztV
def xQ:FL Pn false (zgE K) znx:=(show znA=znx by funext ws n Q;show ztn) ▸ zq3
abbrev dDictT:AU->Mo W:=λq n Q=>on1 q λx=>onT x λl=>∃ps:List (Int×Dt),l=ps.map prD/\(ps.map (·.1)).Nodup/\ps.length<=1000/\Q (.dk (ps.map kvD)) n
abbrev dInt1:AU->Mo W:=λq n Q=>on1 q λx=>match x with
 | .d (.int i)=>Q (.d (.int i)) n
 | .d (.bl b)=>Q (.d (.int (if b then 1 else 0))) n
 | _=>False
abbrev zi7:AU->Mo W:=λB n Q=>on1 B λx=>onL x λl=>∃ns:AG,l=ns.map .int/\ns.length<64/\∀q:AG,q.Perm ns->q.Pairwise (·<=·)->Q (.d (.lst (q.map .int))) n
def zjo:zjn=zi7:=by funext ws n Q;simp only[zjn,zi7,uV,uc];show propext #[by rintro⟨x,e,h⟩;show#[_,e,_,BA,x,BA,h],by right]
def zqX:FL Pn true zkJ zi7:=zjo ▸ zq2
abbrev dSortT:AU->Mo W:=λB n Q=>on1 B λx=>onL x λl=>∃ (BE:AF) (m:Nat),l=BE.map stD/\1<=m/\(∀st∈BE,st.length=m)/\BE.Nodup/\∀q:AF,q.Perm BE->(q.Pairwise λa b=>HT.lexLt a b=true)->Q (.d (uK q)) n
abbrev dListD:AU->Mo W:=λq n Q=>on1 q λx=>onE x λBC=>((BC.map (·.1)).Nodup->Q (.d (.lst ((BC.map (·.1)).map stD))) n)
end
section
variable {fa fb fc f fk fd fv:AD}{t u:Ev->Mo Bool}{fs gs:AC}
abbrev zrx (fa:AD):Ev->Mo AQ:=λD n Q=>fa D n λx m=>onI x λi=>Q (some i) m
def xE:zpq fa=zrx fa:=by funext D n Q;simp only[zpq,zrx,uW]
abbrev dSlT (fa:AD) (fl q:Ev->Mo AQ):AD:=λD n Q=>fa D n λx B=>fl D B λlo F=>q D F λhi I=>onT x λl=>Q (.d (.tup (zcQ l lo hi))) I
abbrev dSlL (fa:AD) (fl q:Ev->Mo AQ):AD:=λD n Q=>fa D n λx B=>fl D B λlo F=>q D F λhi I=>onL x λl=>Q (.d (.lst (zcQ l lo hi))) I
def uT {fl q:Ev->Mo AQ}:zvy fa fl q=dSlL fa fl q:=by funext D n Q;simp only[zvy,dSlL,uc]
abbrev dRevT (fa:AD):AD:=λD n Q=>fa D n λx m=>onT x λl=>Q (.d (.tup l.reverse)) m
abbrev zrz (fa:AD):AD:=λD n Q=>fa D n λx m=>onL x λl=>Q (.d (.lst l.reverse)) m
def zaR:zps fa=zrz fa:=by funext D n Q;simp only[zps,zrz,uc]
abbrev dDGet (fd fk:AD):AD:=λD n Q=>fd D n λx q=>fk D q λy B=>onK x λBC=>onO (zuc y) λk=>onO (xq BC k) λd=>Q (.d d) B
abbrev dDIn (q:Bool) (fk fd:AD):AD:=λD n Q=>fk D n λy B=>fd D B λx F=>onK x λBC=>onO (zuc y) λk=>Q (.d (.bl (xr q (xq BC k).isSome))) F
abbrev dFn (k:Nat) (F:AU->Mo W) (fs:AC):AD:=λD n Q=>fs D n λq m=>zco k q (F q m Q)
def zk:mFn k F fs=dFn k F fs:=by funext D n Q;simp only[mFn,dFn,zbR]
abbrev dFnB (k:Nat) (fr:Bool) (F:AU->Mo W) (fs:AC):AD:=λD n Q=>fs D n λq m=>zco k q (F q m λw B=>W.flat fr w=true/\Q w B)
abbrev eN (i:Nat):W->Ev->(Ev->Prop)->Prop:=λw D Q=>onP D i w Q
def yf:gN i=eN i:=by funext w D Q;show xF.symm
abbrev eNl:AS->Ev->(Ev->Prop)->Prop:=λds D Q=>match ds with | []=>Q D | _=>False
def ze0:gNl=eNl:=by
 funext ds D Q
 cases ds with
 | nil=>simp[gNl,eNl]
 | cons _ _=>simp[gNl,eNl]
abbrev eCn (g:W->Ev->(Ev->Prop)->Prop) (u:AS->Ev->(Ev->Prop)->Prop):AS->Ev->(Ev->Prop)->Prop:=λds D Q=>match ds with | d::r=>g (.d d) D λq=>u r q Q | []=>False
def xY {g:W->Ev->(Ev->Prop)->Prop}{u:AS->Ev->(Ev->Prop)->Prop}:gCn g u=eCn g u:=by
 funext ds D Q
 cases ds with
 | nil=>simp[gCn,eCn]
 | cons d r=>show propext #[by rintro⟨d',q,e,h⟩;cases e;show h,λh=>#[d,r,BA,h]]
abbrev eTp (n:Nat) (u:AS->Ev->(Ev->Prop)->Prop):W->Ev->(Ev->Prop)->Prop:=λw D Q=>onT w λds=>zco n ds (u ds D Q)
def zhb {n:Nat}{u:AS->Ev->(Ev->Prop)->Prop}:gTp n u=eTp n u:=by funext w D Q;simp only[gTp,eTp,zcp,zbR]
abbrev zuJ (fa:AD):AC:=λD n Q=>fa D n λx m=>onL x λl=>Q (l.map W.d) m
abbrev zuK (fa:AD):AC:=λD n Q=>fa D n λx m=>onT x λl=>Q (l.map W.d) m
def uo:zuf fa=zuJ fa:=by funext D n Q;simp only[zuf,zuJ,uc]
def zdV:zug fa=zuK fa:=by funext D n Q;simp only[zug,zuK,zcp]
abbrev dItR (fs:AC):AC:=λD n Q=>fs D n λq m=>on1 q λx=>onI x λj=>(j<=1000000/\-1000000<=j)/\Q (ziq 0 j.toNat) m
def yP:zvs fs=dItR fs:=by funext D n Q;simp only[zvs,dItR,uV,uW];congr 1;funext ws m;show propext #[by right,by right]
abbrev dItR2 (fs:AC):AC:=λD n Q=>fs D n λq m=>on2 q λx y=>onI x λi=>onI y λj=>(j<=1000000/\-1000000<=j/\i<=1000000/\-1000000<=i)/\Q (ziq i (j - i).toNat) m
abbrev dItE (fs:AC):AC:=λD n Q=>fs D n λq m=>on1 q λx=>onT x λl=>Q (enW 0 l) m
abbrev dItEL (fs:AC):AC:=λD n Q=>fs D n λq m=>on1 q λx=>onL x λl=>Q (enW 0 l) m
def zpi:zvr fs=dItE fs:=by funext D n Q;simp only[zvr,dItE,uV,zcp];congr 1;funext ws m;show propext #[by right,by right]
abbrev dItZ (fs:AC):AC:=λD n Q=>fs D n λq m=>on2 q λx y=>onT x λl=>onT y λk=>l.length=k.length/\Q (ziW l k) m
abbrev zrt (fs:AC):AC:=λD n Q=>fs D n λq m=>on2 q λx y=>onL x λl=>onT y λk=>l.length=k.length/\Q (ziW l k) m
abbrev zrs (fs:AC):AC:=λD n Q=>fs D n λq m=>on2 q λx y=>onL x λl=>onL y λk=>Q (ziW l k) m
def zme:zpk fs=zrt fs:=by funext D n Q;simp only[zpk,zrt,zki,zcp,uc];congr 1;funext ws m;show propext #[by rintro⟨i,j,e,h⟩;show#[_,_,e,i,BA,j,BA,h],by rintro⟨x,y,e,i,q,j,B,h⟩;subst q B;show#[i,j,e,h]]
def zmd:zpj fs=zrs fs:=by funext D n Q;simp only[zpj,zrs,zki,uc];congr 1;funext ws m;show propext #[by rintro⟨i,j,e,h⟩;show#[_,_,e,i,BA,j,BA,h],by rintro⟨x,y,e,i,q,j,B,h⟩;subst q B;show#[i,j,e,h]]
abbrev dIfS (t:Ev->Mo Bool) (f g:Ms):Ms:=λD n k=>t D n λc m=>onC c (blk f D m k) (blk g D m k)
def zy {f g:Ms}:zvp t f g=dIfS t f g:=by funext D n k;simp only[zvp,dIfS,zbo]
abbrev zuU (i:Nat):Ms:=λD n k=>onV D i λw=>k.rt w n
def zhp:zpr i=zuU i:=by funext D n k;show zaw.symm
abbrev dSet (i:Nat) (f:AD):Ms:=λD n k=>f D n λw m=>onP D i w λq=>k.nx q m
def zm:zpg f (gN i)=dSet i f:=by change zpg f (gN i)=zpg f (eN i);rw[yf]
abbrev dOwn (i:Nat) (f:AD):Ms:=λD n k=>f D n λw m=>onC (W.mut w) (onP D i w λρ'=>k.nx ρ' m) False
def y8:zr8 i f=dOwn i f:=by funext D n k;simp only[zr8,dOwn,xF (Q:=λρ'=>k.nx ρ' _)];congr 1;funext w m;cases h:W.mut w <;> simp
abbrev dApp (i:Nat) (f:AD):Ms:=λD n k=>onV D i λv=>onL v λl=>f D n λw m=>onD w λd=>l.length<lim/\onP D i (.d (.lst (l++[d]))) λq=>k.nx q m
def zdT:(onV D i λv=>onL v P) = ∃l,D[i]?=some (some (.d (.lst l)))/\P l:=by simp only[zaw,uc];show propext #[by right,by right]
def zrF{P:List (AG×Dt)->Prop}:(onV D i λv=>onE v P) = ∃l,D[i]?=some (some (.dt l))/\P l:=by simp only[zaw,zkk];show propext #[by right,by right]
def zgq:zue i f=dApp i f:=by
 funext D n k;simp only[zue,dApp,zdT,xb,xF (Q:=λq=>k.nx q _)];show propext #[λ⟨⟨l,e⟩,h⟩=>#[l,e,?_],λ⟨l,e,h⟩=>#[#[l,e],?_]]
 all_goals
  right
abbrev dExt (i:Nat) (f:AD):Ms:=λD n k=>onV D i λv=>onL v λl=>f D n λw m=>onL w λB=>l.length+B.length<=lim/\onP D i (.d (.lst (l++B))) λq=>k.nx q m
def zj3:zvo i f=dExt i f:=by
 funext D n k;simp only[zvo,dExt,zdT];simp only[uc,xF (Q:=λq=>k.nx q _)];show propext #[λ⟨⟨l,e⟩,h⟩=>#[l,e,?_],λ⟨l,e,h⟩=>#[#[l,e],?_]]
 all_goals
  right
abbrev dIns (i:Nat) (fk f:AD):Ms:=λD n k=>onV D i λv=>onL v λl=>fk D n λy m=>f D m λw B=>onD w λd=>onI y λj=>(0<=j/\j<=l.length/\l.length<lim)/\onP D i (.d (.lst (znB l j.toNat d))) λq=>k.nx q B
def zj4:zvq i fk f=dIns i fk f:=by
 funext D n k;simp only[zvq,dIns,zdT,xb,uW,xF (Q:=λq=>k.nx q _)];show propext #[λ⟨⟨l,e⟩,h⟩=>#[l,e,?_],λ⟨l,e,h⟩=>#[#[l,e],?_]]
 all_goals
  show (congrArg (fk D n) ?_).mp h;funext y m;show congrArg (f D m) ?_;funext w m2;show propext ?_;simp[e,and_assoc]
abbrev dPopS (i:Nat) (fk:AD):Ms:=λD n k=>onV D i λv=>onL v λl=>fk D n λy m=>onI y λj=>(0<=j/\j<l.length/\l.length<=lim)/\onP D i (.d (.lst (l.eraseIdx j.toNat))) λq=>k.nx q m
abbrev zt9 (i:Nat):Ms:=λD n k=>onV D i λv=>onL v λl=>onP D i (.d (.lst l.reverse)) λq=>k.nx q n
abbrev dPut (i:Nat) (fk f:AD):Ms:=λD n k=>onV D i λv=>onL v λl=>f D n λw m=>fk D m λy B=>onD w λd=>onI y λj=>(0<=j/\j<l.length)/\onP D i (.d (.lst (l.set j.toNat d))) λq=>k.nx q B
def zj6:zvx i fk f=dPut i fk f:=by
 funext D n k;simp only[zvx,dPut,zdT,xb,uW,xF (Q:=λq=>k.nx q _)];show propext #[λ⟨⟨l,e⟩,h⟩=>#[l,e,?_],λ⟨l,e,h⟩=>#[#[l,e],?_]]
 all_goals
  show (congrArg (f D n) ?_).mp h;funext y m;show congrArg (fk D m) ?_;funext w m2;show propext ?_;simp[e,and_assoc]
abbrev onSt (w:W) (P:AG->Prop):Prop:=∃st,w = .d (stD st)/\P st
abbrev dDGetT (fd fk:AD):AD:=λD n Q=>fd D n λx q=>fk D q λy B=>onE x λBC=>∃st,y = .d (stD st)/\onO (xq BC st) λd=>Q (.d d) B
abbrev znu (i:Nat) (fk f:AD):Ms:=λD n k=>onV D i λv=>onE v λBC=>f D n λw m=>fk D m λy B=>onD w λd=>∃st,y = .d (stD st)/\BC.length<lim/\onP D i (.dt (zlm BC st d)) λq=>k.nx q B
def zj2:zj1 i fk f=znu i fk f:=by
 funext D n k;simp only[zj1,znu,zrF,xb,xF (Q:=λB=>k.nx B _)];show propext #[λ⟨⟨l,e⟩,h⟩=>#[l,e,?_],λ⟨l,e,h⟩=>#[#[l,e],?_]]
 all_goals
  show (congrArg (f D n) ?_).mp h;funext y m;show congrArg (fk D m) ?_;funext w m2;show propext ?_;constructor
 rintro⟨BC,st,d,q,F,I,h1,h2⟩;rw[e] at q;cases q;show#[d,F,st,I,h1,h2];right;right;rintro⟨BC,st,d,q,F,I,h1,h2⟩;rw[e] at q;cases q;show#[d,F,st,I,h1,h2]
abbrev zrv (i j:Nat):Ms:=λD n k=>onV D j λw=>onN D j λq=>onP q i w λB=>k.nx B n
def zmf:zpm i j=zrv i j:=by funext D n k;simp only[zpm,zrv,zaw,xF (Q:=λq=>k.nx q _),znN (Q:=λB=>k.nx (B.set i (some _)) n)]
abbrev dPar (i j:Nat) (fs:AC):Ms:=λD n k=>fs D n λF m=>on2 F λw u=>onP D i w λq=>onP q j u λB=>k.nx B m
def zpp:zvw i j fs=dPar i j fs:=by funext D n k;simp only[zvw,dPar,zki,xF (Q:=λq=>k.nx q _),xF (Q:=λB=>k.nx (B.set j (some _)) _)]
abbrev dIsi (B:Dt->Bool) (f:AD):AD:=λD n Q=>f D n λw m=>onD w λd=>Q (.d (.bl (B d))) m
def zdU:znK B f=dIsi B f:=by funext D n Q;simp only[znK,dIsi,xb]
abbrev zg5 (fs:AC):AD:=λD n Q=>fs D n λq m=>on1 q λx=>onI x λj=>(0<=j/\j<=1000)/\Q (.d (.lst (zmV j.toNat))) m
abbrev zrB (fs:AC):AD:=λD n Q=>fs D n λq m=>on1 q λx=>onI x λj=>(0<=j/\j<=1000)/\Q (.d (.tup (zmV j.toNat))) m
def ztd {q:AU}{P:Nat->Prop}:(∃j:Nat,q=[.d (.int (j:Int))]/\j<=1000/\P j)=on1 q λx=>onI x λj=>(0<=j/\j<=1000)/\P j.toNat:=by simp only[uV,uW];show propext #[by rintro⟨j,e,h1,h⟩;show#[_,e,_,BA,#[by lia,by lia],by simpa using h],by rintro⟨x,e,j,B,⟨h1,h2⟩,h⟩;show#[j.toNat,by grind,by lia,h]]
def zce:zdW fs=zg5 fs:=by funext D n Q;simp only[zdW,zg5];congr 1;funext ws m;show ztd (P:=λj=>Q (.d (.lst (zmV j))) m)
abbrev dTru (f:AD):Ev->Mo Bool:=λD n Q=>f D n λw m=>onO (truD w) λb=>Q b m
abbrev znt (F BF:W->W->Mo W) (fa fb fc:AD):AD:=λD n Q=>fa D n λx B=>fb D B λy I=>F x y I λz q=>onB z λk=>onC k (fc D q λu J=>BF y u J Q) (Q (.d (.bl false)) q)
def zj0:zho F BF fa fb fc=znt F BF fa fb fc:=by funext D n Q;simp only[zho,znt,zdc,zbo]
def zg0{α:Type}(xs:List α)(F:α->W)(hl:l=xs.map F)(U:xs.length<=lim)(I:Nat->Ev->Nat->AS->Prop)(h0:I 0 O n [])(h:∀i a q J acc,xs[i]?=some a->I i q J acc->∀C:Ev->Nat->AS->Prop,(∀ {D m l},I (i+1) D m l->C D m l)->mg (F a) q λB=>Y B J λb n2=>onC b (Z B n2 λx n3=>onD x λd=>C B n3 (acc++[d])) (C B n2 acc))(fin:∀ q J acc,I xs.length q J acc->Q (.d (.lst acc)) J):zeP mg Y Z O Q l n:=by
 show zly xs F hl U I h0 (λi a q J acc ha hI C hC=>?_) fin;have:=h i a q J acc ha hI C hC;simp only[zbo,xb] at this;show this
def zbZ{α:Type}(xs:List α)(F:α->W)(hl:l=xs.map F)(J:Ev->Prop)(P:α->Bool)(E:α->Dt)(O:xs.length<=lim)(j0:J I)(h:∀a∈xs,∀ B,J B->∀C:Ev->Nat->Option Dt->Prop,(∀ {q},P a=true->J q->C q n (some (E a)))->(∀ {q},P a=false->J q->C q n none)->mg (F a) B λq=>U q n λb Z=>onC b (Y q Z λx n3=>onD x λd=>C q n3 (some d)) (C q Z none))(fin:Q (.d (.lst ((xs.filter P).map E))) n):zeP mg U Y I Q l n:=by
 show ziZ xs F hl J P E O j0 (λa ha B hj C hC=>?_) fin;have:=h a ha B hj C (λ{q} e z=>by right) λ{q} e z=>by have:=hC q z;rwa[if_neg (by rw[e];decide)] at this
 simp only[zbo,xb] at this;show this
def zbY{α:Type}(xs:List α)(F:α->W)(Y:l=xs.map F)(J:Ev->Prop)(E:α->Dt)(O:xs.length<=lim)(Z:J I)(h:∀a∈xs,∀ B,J B->∀C:Ev->Nat->Dt->Prop,(∀ {q},J q->C q n (E a))->mg (F a) B λq=>U q n λx n3=>onD x λd=>C q n3 d)(fin:Q (.d (.lst (xs.map E))) n):zeP mg zui U I Q l n:=by
 show zlz xs F Y J E O Z (λa ha B hj C hC=>?_) fin;have:=h a ha B hj C λ{q} z=>hC q z;simp only[xb] at this;show this
def zog{t:Ev->Mo Bool}{fb:Ms}{D:Ev}{k:Kt}(I:Nat->Ev->Nat->Prop)(U:Nat)(Z:I U D n)(h:∀m q J,I m q J->∀ (C B:Ev->Nat->Prop) (E:AV),(∀ {D n} (F:Nat),F<m->I F D n->C D n)->(∀ {D n},k.nx D n->B D n)->(∀ {w n},k.rt w n->E w n)->t q J λb Y=>onC b (blk fb q Y { rt:=E,nx:=C,ct:=C,bk:=B }) (B q Y)):zj8 t fb D n k:=by
 show zli I U Z λm q J hI=>?_;have:=h m q J hI (λO n3=>∃F,F<m/\I F O n3) k.nx k.rt (λF a b=>#[F,a,b]) (λz=>z) λz=>z;simp only[zbo,zrl] at this;show this
end
abbrev rep:Nat->(Ev->Prop)->Prop
 | 0,Q=>Q []
 | k+1,Q=>rep k λD=>Q (none::D)
abbrev beg:AU->Nat->(Ev->Prop)->Prop
 | [],r,Q=>rep r Q
 | w::q,r,Q=>beg q r λD=>Q (some w::D)
theorem zkO:∀ {r:Nat} {Q:Ev->Prop},rep r Q=Q (List.replicate r none)
 | 0,Q=>rfl
 | r+1,Q=>by rw[rep,zkO];rfl
theorem znr:∀ {q:AU} {r:Nat} {Q:Ev->Prop},beg q r Q=Q (q.map some++List.replicate r none)
 | [],r,Q=>by rw[beg,zkO];rfl
 | w::q,r,Q=>by rw[beg,znr];rfl
def znM {P:Aa}{w:Ab}{K:AH}{mg:AI}{base:Heap}{I:Str}{st:Stmt}{f:Addr}{fd:Ac}{N ps:AM}{k m:Nat}{fr:Bool}{F:PN->AU->Mo W}(M:AR)(r:Nat)(U:(∀vs H Q E,spV m fr F vs H Q E->vs.length=ps.length)->(∀ (B:Value) (A:Ae) (q:List Env) (s:AZ) (H:Hp) (vs:AT) (Q:VK) (E:XK),Room k (A.deeper (PyProof.Rows.envOfC I (zd st) s.heap.objs.size f B))->spV m fr F vs H Q E->
   ∃t,QSs (zeG CX0 P w K mg base N I (zd st) f B A q s H E).nox (zB st) t/\t { nx:=λ_ H'=>Q .non H',rt:=Q } (L2.xB N vs) H)->FnOk P w K mg base CX0 (k+1) f fd ps (spV m fr F)) (Y:m=ps.length) (Z:∀i∈M,m<=i) (hN:N.length=m+r)
  (J:∀ (B:Value) (A:Ae) (q:List Env) (s:AZ) (H:Hp) (E:XK) (Pn:PN),Room k (A.deeper (PyProof.Rows.envOfC I (zd st) s.heap.objs.size f B))->
   ∃fs,JSs (zeG CX0 P w K mg base N I (zd st) f B A q s H E).nox Pn [] M fr (zB st) fs/\∀O n R,F Pn O n R->beg O r λD=>fs D n { nx:=λ_ n'=>onC fr False (R (.d .non) n'),rt:=R }):FnOk P w K mg base CX0 (k+1) f fd ps (spV m fr F):=by
 show zse M U Y Z λB A q s H E Pn hr=>?_;obtain⟨fs,h1,h2⟩:=J B A q s H E Pn hr;show#[fs,h1,λO n R hl hF=>?_];have:=h2 O n R hF;rw[znr] at this;have e:za4 N O=O.map some++List.replicate r none:=by unfold za4;rw[hN,hl,Nat.add_sub_cancel_left]
 grind
def Fun.okW(M:AR)(r:Nat)(Fu:Fun K x q st f fd)(S:FnScope N ps (zd st))(U:m=ps.length)(Y:∀i∈M,m<=i)(Z:N.length=m+r)(B:∀ (J:Value) (A:Ae) (I:List Env) (s:AZ) (H:Hp) (E:XK) (Pn:PN),Room k (A.deeper (PyProof.Rows.envOfC q (zd st) s.heap.objs.size f J))->
   ∃fs,JSs (zeG CX0 P w K mg base N q (zd st) f J A I s H E).nox Pn [] M fr (zB st) fs/\∀O n R,F Pn O n R->beg O r λD=>fs D n { nx:=λ_ n'=>onC fr False (R (.d .non) n'),rt:=R }):FnOk P w K mg base CX0 (k+1) f fd ps (spV m fr F):=znM M r (λl b=>Fun.okQ Fu S l b) U Y Z B
def FunD.okW(M:AR)(r:Nat)(Fu:FunD K x q st f fd)(S:FnScope N ps (zd st))(U:m=ps.length)(Y:∀i∈M,m<=i)(Z:N.length=m+r)(B:∀ (J:Value) (A:Ae) (I:List Env) (s:AZ) (H:Hp) (E:XK) (Pn:PN),Room k (A.deeper (PyProof.Rows.envOfC q (zd st) s.heap.objs.size f J))->
   ∃fs,JSs (zeG CX0 P w K mg base N q (zd st) f J A I s H E).nox Pn [] M fr (zB st) fs/\∀O n R,F Pn O n R->beg O r λD=>fs D n { nx:=λ_ n'=>onC fr False (R (.d .non) n'),rt:=R }):FnOk P w K mg base CX0 (k+1) f fd ps (spV m fr F):=znM M r (λl b=>FunD.okQ Fu S l b) U Y Z B
abbrev dItS (i:Nat):AC:=λD n Q=>onV D i λx=>onS x λl=>Q (l.map W.d) n
def zj5:zvt (zrc i)=dItS i:=by
 funext D n Q;simp only[zvt,uo,zdV,zuJ,zuK,dItS,zaw,zkl,uc,zcp];grind
def zta{fs:Ms}(h:rep r λD=>fs (a::b::D) n k):fs (a::b::List.replicate r none) n k:=by rw[zkO] at h;show h
def zvD {BF:Prop}(b:Nat)(P:Nat->Prop)(h:(∀a,a<=b->P a)->BF)(r:∀a,a<=b->P a):BF:=h r
def zsb {BF:Prop}(P:W->Prop)(h:(∀a,P a)->BF)(r:∀a,P a):BF:=h r
def zsa {α:Type}{BF:Prop}(C:α->Prop)(P:α->Prop)(h:(∀a,C a->P a)->BF)(r:∀a,C a->P a):BF:=h r
def zvk {st:AG}{x:Dt}(h:st.length<=1000):(st.map Dt.int).length+[x].length<=lim:=by rw[ab];show aH (by simp;lia:_<=1001) (by ext)
def zt6 {st:AG}{x:Int}:st.map Dt.int++[Dt.int x]=(st++[x]).map Dt.int:=by right
def scR (mg:W->Ev->(Ev->Prop)->Prop)(U:Ev->Mo Bool)(Y:AD)(J:Ev)(Q:AF->Nat->Prop):AU->Nat->Prop:=λl Z=>∃I:Nat->Ev->Nat->AF->Prop,I 0 J Z []/\
 (∀i w q F acc,l[i]?=some w->I i q F acc->mg w q λB=>U B F λb O=>if b=true then Y B O λx n3=>∃st,x = .d (stD st)/\I (i+1) B n3 (acc++[st]) else I (i+1) B O acc)/\
 (∀i q F acc ks,I i q F acc->List.Nodup ks->(∀z∈ks,z∈acc)->ks.length<300)/\
 ∀ q F acc ks,I l.length q F acc->List.Nodup ks->(∀z,z∈ks↔z∈acc)->Q ks F
abbrev zvz (q:AC) (mg:W->Ev->(Ev->Prop)->Prop) (B:Ev->Mo Bool) (F:AD) (BD:List (Option Nat)):AD:=λD n Q=>q D n (scR mg B F (ziJ D BD) λks I=>∃m,ks.length<64/\1<=m/\(∀st∈ks,st.length=m)/\∀l':AF,l'.Perm ks->(l'.Pairwise λa b=>HT.lexLt a b=true)->Q (.d (uK l')) I)
section
variable {X:Cx}{Pn:PN}{M S:AR}{fr fr':Bool}{pos p:Pos}
end
abbrev dGetI (fd fk q:AD):AD:=λD n Q=>fd D n λx B=>onK x λBC=>fk D B λy F=>q D F λz I=>onO (zuc y) λk=>onI z λi=>Q (.d ((xq BC k).getD (.int i))) I
section
variable {X:Cx}{Pn:PN}{M:AR}{a b c:Expr}{fa fb fc:AD}{apos cpos:Pos}
end
end L3
namespace L2
open PyProof.Rows
section
variable {X:Cx}{e lo st:Expr}{te tl tk:TE}{pos p2:Pos}
end
end L2
namespace L3
open L2
abbrev dFromL (fa fl fk:AD):AD:=λD n Q=>fa D n λx q=>onL x λl=>fl D q λy B=>onI y λc=>fk D B λz F=>onI z λk=>(0<=c/\1<=k)/\∀ys:AS,ys.Sublist (l.drop c.toNat)->Q (.d (.lst ys)) F
section
variable {X:Cx}{Pn:PN}{M:AR}{e lo st:Expr}{f fl fk:AD}{pos p2:Pos}
end
def zu9:HO:=.dK [(Sum.inr "at",.non)]
abbrev gone (H:Hp)(a:Addr):Hp:=L2.upd H a zu9
section
variable {X:Cx}{Pn:PN}{M S:AR}{fr fr':Bool}{pos p:Pos}
abbrev dGiv (i:Nat) (F:AU->Mo W) (f1 f2:AD):Ms:=λD n k=>f1 D n λw1 m1=>f2 D m1 λw2 m2=>onV D i λw=>F [w1,w2,w] m2 λw' m'=>onC (W.mut w') (onP D i w' λρ'=>k.nx ρ' m') False
end
end L3
namespace L2
open PyProof.Rows PySem.W PySem.SeqAt
section
variable {X:Cx}
end
end L2
namespace L3
open L2
section
variable {X:Cx}{Pn:PN}{M S:AR}{fr fr':Bool}{e o:Expr}{f fo:AD}{pos p:Pos}
abbrev dLenK:AU->Mo W:=λq n Q=>on1 q λx=>onK x λBC=>Q (.d (.int (BC.length:Nat))) n
abbrev dListK:AU->Mo W:=λq n Q=>on1 q λx=>onK x λBC=>∃ns:AG,BC.map (·.1)=ns.map Sum.inl/\Q (.d (.lst (ns.map .int))) n
abbrev dIndex (fo f:AD):AD:=λD n Q=>fo D n λx q=>onL x λl=>f D q λy B=>onI y λk=>∃ns:AG,l=ns.map .int/\k∈ns/\Q (.d (.int (ns.idxOf k:Nat))) B
abbrev zuN (f:AD):AD:=λD n Q=>f D n λx q=>onL x λl=>∃ns:AG,l=ns.map .int/\ns.Nodup/\ns.length<=1000/\Q (.d (.int (ns.length:Nat))) q
end
end L3
namespace L2
def us_1 {α:Type}{us:List α}(h:us.length=1):∃a,us=[a]:=match us,h with | [a],_=>#[a,BA]
def us_2 {α:Type}{us:List α}(h:us.length=2):∃a b,us=[a,b]:=match us,h with | [a,b],_=>#[a,b,BA]
def us_3 {α:Type}{us:List α}(h:us.length=3):∃a b c,us=[a,b,c]:=match us,h with | [a,b,c],_=>#[a,b,c,BA]
def zwe {α:Type}{us:List α}(h:us.length=4):∃a b c d,us=[a,b,c,d]:=match us,h with | [a,b,c,d],_=>#[a,b,c,d,BA]
def zwf {α:Type}{us:List α}(h:us.length=5):∃a b c d e,us=[a,b,c,d,e]:=match us,h with | [a,b,c,d,e],_=>#[a,b,c,d,e,BA]
def us_6 {α:Type}{us:List α}(h:us.length=6):∃a b c d e f,us=[a,b,c,d,e,f]:=match us,h with | [a,b,c,d,e,f],_=>#[a,b,c,d,e,f,BA]
open PyProof.Rows PySem.W PySem.Calls
end L2
namespace L3
open L2
section
variable {X:Cx}{Pn:PN}{M S:AR}{fr fr':Bool}{e a b c:Expr}{es:AO}{f fa fb fc:AD}{pos p:Pos}
variable {K:AH}
abbrev dInB:W->W->Mo W:=λx y n Q=>onB x λb=>onL y λl=>∃q:List Bool,l=q.map .bl/\Q (.d (.bl (q.contains b))) n
end
end L3
namespace L2
open PyProof.Rows PySem.W PySem.Calls
section
variable {prog:Aa}{w:Ab}{A:Ae}{E:AA}{s:AZ}
variable {X:Cx}
end
end L2
namespace L3
open L2
section
variable {X:Cx}{Pn:PN}{M S:AR}{fr fr':Bool}{pos p:Pos}{e:Expr}{f:AD}
def zqK{ks:AF}(h:Bor A H (.ss P w ks) v):∃a,v = .ref a/\zcP P w H a ks:=by obtain⟨a,xs,e,B,g2,F,I⟩:=h;show#[a,e,xs,B,λq J=>zn _ _ (F q J),g2,I]
abbrev dSAdd (P:Aa) (w:Ab) (i:Nat) (f:AD):Ms:=λD n k=>onV D i λv=>∃ks,v = .ss P w ks/\f D n λx m=>∃st:AG,x = .d (stD st)/\ks.length<300/\
 ∀q:AF,(∀y,y∈q↔y=st\/y∈ks)->q.length<=ks.length+1->q.Nodup->onP D i (.ss P w q) λB=>k.nx B m
abbrev znv (P:Aa) (w:Ab):AU->Mo W:=λB n Q=>on1 B λx=>∃ (ks:AF) (m:Nat),x = .ss P w ks/\ks.length<64/\1<=m/\(∀st∈ks,st.length=m)/\∀q:AF,q.Perm ks->(q.Pairwise λa b=>HT.lexLt a b=true)->Q (.d (uK q)) n
def zqY:FL Pn true (zn2 P w) (znv P w):=#[λA H xs ws n Q R J b Pp h k=>by simp only[znv,uV] at h;obtain⟨x,e,ks,m,rfl,F,h1,U,h⟩:=h;subst e;obtain⟨v,rfl,Y⟩:=zbW b;obtain⟨a,rfl,SV⟩:=zqK Y;show#[a,ks,m,BA,SV,F,h1,U,λI q Z hp hs p H' O g S=>?_];have B:IsL (ya A H) (q.map stD) I:=zb4 J.noT (uq q) Z;show k _ n _ H' (h q hp hs) (uA B (zA.same S) (J.new O) g) (Go.same Pp S) λz=>uj B S O g]
end
def zm5 {α:Type}{p:List α->Prop}(q:p [])(hs:∀l x,p l->p (l++[x]))(l:List α):p l:=by
 have h:∀l:List α,p l.reverse:=λl=>by
  induction l with
  | nil=>show q
  | cons x l B=>rw[cP];show hs _ _ B
 have:=h l.reverse;grind
def yc {α:Type}(a b:List α)(i:Nat)(d:α)(h:i<a.length):(a++b).getD i d=a.getD i d:=by grind
def zmi:∀ {cs:AF} {st:AG},st∈zam cs↔st.length=cs.length/\∀i,i<cs.length->st.getD i 0∈cs.getD i []:=by
 intro cs;show zm5 (p:=λcs=>∀ {st:AG},st∈zam cs↔st.length=cs.length/\∀i,i<cs.length->st.getD i 0∈cs.getD i []) ?_ ?_ cs;intro st;simp[zam,List.length_eq_zero_iff];intro cs c I st;rw[xm];unfold xW;rw[List.mem_flatMap];constructor;rintro⟨r,J,h⟩;obtain⟨w,O,rfl⟩:=au.mp h;obtain⟨h1,h2⟩:=I.mp J;show#[by simp[h1],λi hi=>?_];simp at hi;by_cases e:i=cs.length;right;grind;rintro⟨h1,h2⟩;simp at h1;have q:st≠[]:=λz=>by rw[z] at h1;simp at h1
 have F:=bv q;have B:st.dropLast.length=cs.length:=by simp[h1]
 show#[st.dropLast,I.mpr #[B,λi hi=>?_],au.mpr #[st.getLast q,?_,F]];have:=h2 i (by simp;omega);rw[yc _ _ _ _ hi] at this;rw[<- F,yc _ _ _ _ (by omega)] at this;show this;have:=h2 cs.length (by simp);rw[<- F] at this;have e:(st.dropLast++[st.getLast q]).getD cs.length 0=st.getLast q:=by simp[<- B]
 right
def zgV {rm:AG}(q:RoomOk rm):((zam (rm.map zK)).length:Int)=zY rm:=by
 have:=zdn (rr:=rm.reverse) λm B=>by have:=q.box m (bU.mp B);omega
 rw[zmW,ab,aG,this,List.reverse_reverse]
def dr{zQ:Int}(q:zbV K Pn p)(h:∀r,0<=r->r<zQ->Q (.d (.int r)) (n+1))(hn:n<=1000000:=by lia)(h1:1<=zQ:=by lia)(h2:zQ<1073741824:=by lia):ziM K Pn [.pen p,.d (.int zQ)] n Q:=#[p,zQ,q,BA,hn,h1,h2,h]
def zow {α:Type}(f:α->Dt)(d:α)(l:List α):enW 0 (l.map f)=(List.range l.length).map λi:Nat=>W.d (.tup [.int (i:Int),f (l.getD i d)]):=by
 apply dF;intro i;rw[zgb,aD,aD];by_cases h:i<l.length
 all_goals right
def zid {m b:Int}:b∈zK m↔0<=b/\b<m:=by
 unfold zK;rw[au];constructor;rintro⟨k,q,rfl⟩;grind;rintro⟨B,h1⟩;show#[b.toNat,aM.mpr (by lia),by lia]
def zeS {α:Type}(l:List α):zcQ l (some 1) none=l.drop 1:=by
 unfold zcQ
 have h1:HT.sIx l.length 0 (some 1)=min 1 l.length:=by unfold HT.sIx;simp;try lia
 have h2:HT.sIx l.length l.length none=l.length:=rfl;rw[h1,h2,bg (by simp)]
 cases l with
 | nil=>rfl
 | cons a l=>simp
theorem zlj:∀ (l k:AS) (i:Nat),(ziW l k)[i]?=(l[i]?).bind λx=>(k[i]?).map λy=>W.d (.tup [x,y])
 | [],k,i=>by simp[ziW]
 | x::r,[],i=>by
  simp only[ziW,List.getElem?_nil,Option.map_none];right
 | x::r,y::s,0=>rfl
 | x::r,y::s,i+1=>by rw[ziW,bL,bL,bL];show zlj r s i
def znk (q:AF):ziW (q.map stD) (zcQ (q.map stD) (some 1) none)=(List.range (q.length - 1)).map λi:Nat=>W.d (.tup [stD (q.getD i []),stD (q.getD (i+1) [])]):=by
 rw[zeS];apply dF;intro i;rw[zlj,eC,aD,aD,aD];grind
def zgN {rm st:AG}(h:StOk rm st):st∈zam (rm.map zK):=by
 rw[zmi];have q:=h.len;show#[by grind,λi hi=>?_];rw[ab] at hi;have e:(rm.map zK).getD i []=zK (rm.getD i 0):=by simp[hi]
 rw[e,zid];have:=h.box (i:Int) (by lia) (by lia);rw[zH,zH] at this;show this
def zcg {l:AF}{st:AG}:(Dt.tup (st.map Dt.int)∈l.map stD)↔st∈l:=by
 constructor;intro z;obtain⟨s,hs,e⟩:=au.mp z;have:s=st:=List.map_inj_right (by grind) |>.mp (Dt.tup.inj e);grind;show λz=>au.mpr #[_,z,BA]
def zm8 {rm st:AG}{b x:Int}(h:StOk rm st)(q:0<=b)(J:b<rm.length)(O:0<=x)(U:x<zQ rm b):StOk rm (chg st b x):=by
 have F:=h.len;show#[by rw[zdz q (by lia)];show F,λc B I=>?_];rw[zay q (by lia) B];split;right;show h.box c B I
end L3
namespace L3
open L2
def lpE (bk:AW)(q:Int)(st:AG):List (Int×Int):=(lpF bk q st).map λr=>(r.getD 0 0,r.getD 1 0)
end L3
namespace L3
open L2
end L3
namespace L2
open PyProof.Rows PySem.W PySem.Calls
section
variable {X:Cx}{BB:AB}{G:St}{H:Hp}{s:AZ}{a:Addr}
def Inv.frz {BC:List (AG×V)}(I:Inv X BB G H s)(h:H a=some (dtO BC)):∃ob,Inv X BB G (upd H a (.frz ob (dtO BC))) s:=by obtain⟨z,lo,xs,r,o,es,F,h1,h2,J,O,U⟩:=(show yd X.prog X.w H s.heap a (.dT (zcU BC)) from I.hok a _ h);show#[o,I.write (x:=a) (e:=a) (h':=s.heap) (t':=s.toks) (by rw[h];trivial) (.inl BA) (λ_ _ _ e=>e) #[o,h1] #[h1,z,lo,xs,Paired.imp' (λp q y=>?_) r,o,es,F,h1,h2,J,O,U]];obtain⟨Y,B,Z⟩:=y;show#[Y,by rw[zf (λy=>by rw[y,h] at B;cases B)];show B,Z]
end
end L2
namespace L3
open L2
def zhy{ks:List (AG×V)}(h:zaf Pn A n H)(q:H p=some (dtO ks)):zaf Pn A n (L2.upd H p o):=by
 show#[?_,Pn.J.frz h.2 q (zvE _) BA];have h:=h.1;split at h;trivial;show#[?_,h.2];obtain⟨h1,_⟩:=h;obtain⟨a,l,B,g2⟩:=h1.ob;show#[#[a,l,by rw[zf λz=>by rw[z,q] at B;cases B];show B,g2],h1.ls.but λ_ _ _ e=>by rw[zf λz=>by rw[z,q] at e;cases e];show e,h1.len]
abbrev onZ (w:W) (P:List (AG×Dt)->Prop):Prop:=match w with | .df i=>P i | _=>False
def znO{P:List (AG×Dt)->Prop}:onZ w P = ∃i,w = .df i/\P i:=propext #[λh=>by cases w <;> first | show False.elim h | show#[_,BA,h],by right]
section
variable {X:Cx}{Pn:PN}{M S:AR}{fr fr':Bool}{pos p:Pos}{e a b c:Expr}{f fa fb fc:AD}
abbrev dFrz (f:AD):AD:=λD n Q=>f D n λx m=>onE x λBC=>Q (.df BC) m
abbrev dItF (fa:AD):AC:=λD n Q=>fa D n λx m=>onZ x λBC=>(BC.map (·.1)).Nodup->Q (BC.map λq=>W.d (stD q.1)) m
abbrev zuF (fd fk:AD):AD:=λD n Q=>fd D n λx q=>fk D q λy B=>onZ x λBC=>∃st,y = .d (stD st)/\onO (xq BC st) λd=>Q (.d d) B
def zns{BC:List (AG×Dt)}(h:Bor A H (.df BC) v):∃q ks,v = .ref q/\Rd H q (dtO ks)/\uM (ya A H) BC ks:=by obtain⟨q,ob,ks,e,h1,h2⟩:=h;show#[q,ks,e,.inr #[ob,h1],h2]
def zbv.z {H:Hp}{a b:Addr}{BC:List (AG×V)}{st:AG}(e:Rd H a (dtO BC))(q:H b=some (.tup (st.map V.int))):zbv H a (.ref b) (xK BC st):=
 .inr #[_,st.map Sum.inl,b,e,BA,by rw[zbc];show q,(zdS BC st).symm]
def zoZ (J:X.A.units+1<cLine)(O:JB X Pn M a fa)(U:JB X Pn M b fb)(hs:zt4 b):JE X Pn M false (.Subscript a b pos) (zuF fa fb):=by obtain⟨ta,Y,ra⟩:=O.ex;obtain⟨tb,Z,rb⟩:=U.ex;show#[_,uw J Y Z hs,#[λA G H D n Q R E P hf k=>?_]];show ra.run A G H D n _ _ E P hf λw1 m1 v1 H1 r1 b1 B=>?_;show rb.run A G H1 D m1 _ _ (E.stay B.st) B.pn r1 λw2 m2 v2 H2 q b2 g2=>?_;rw[znO] at q;obtain⟨BC,rfl,st,rfl,q⟩:=q;rw[zdd] at q;obtain⟨d,e3,r⟩:=q;obtain⟨ad,ks,rfl,F,hk⟩:=zns (b1.stay g2.st);obtain⟨bd,xs,rfl,I,hx⟩:=uh b2;obtain rfl:=hx.of_ints;obtain⟨v,h1,h2⟩:=(hk.look (k:=st)).2 d e3;show#[ad,v,BA,?_,k _ m2 _ H2 r (Val.of h2) (B.trans g2) λz=>by cases z];rw[<- h1];show zbv.z F I
abbrev dGetFD (fd fk q:AD):AD:=λD n Q=>fd D n λx B=>onZ x λBC=>fk D B λy F=>q D F λz I=>∃st,y = .d (stD st)/\onD z λi=>Q (.d ((xq BC st).getD i)) I
abbrev dDictL:AU->Mo W:=λB n Q=>on1 B λx=>∃BC:List (AG×Dt),x = .d (.lst (BC.map λq=>Dt.tup [stD q.1,q.2]))/\(BC.map (·.1)).Nodup/\BC.length<=lim/\Q (.dt BC) n
end
abbrev lpD (bk:AW) (b:Int) (st:AG):Dt:=.lst ((lpE bk b st).map uu)
abbrev rowD (rm:AG) (bk:AW) (st:AG):Dt:=.lst ((List.range rm.length).map λb:Nat=>lpD bk (b:Int) st)
def ziG {l:AF}(h:Up' l):l.Nodup:=h.imp λh e=>by subst e;rw[xk] at h;cases h
section
variable {X:Cx}{Pn:PN}{M S cM:AR}{fr fr':Bool}{e:Expr}{es:AO}{pos:Pos}{A:AL}{acc:Addr}{H1 H H':Hp}{σc G:St}{ρc D:Ev}{n m:Nat}{ds:AS}
def inR (mg:W->Ev->(Ev->Prop)->Prop)(O:Ev->Mo Bool)(U:AD)(B:Ev)(F:AS)(K:Ev->Nat->AS->Prop):AU->Nat->Prop:=λl Y=>∃I:Nat->Ev->Nat->AS->Prop,I 0 B Y F/\
 (∀i w D n ds,l[i]?=some w->I i D n ds->mg w D λq=>O q n λb J=>if b=true then U q J λx Z=>∃d,x = .d d/\ds.length<=lim/\I (i+1) q Z (ds++[d]) else I (i+1) q J ds)/\
 ∀ D n ds,I l.length D n ds->K D n ds
def zrn (mg:W->Ev->(Ev->Prop)->Prop)(Y:Ev->Mo Bool)(B:AC)(F:W->Ev->(Ev->Prop)->Prop)(J:Ev->Mo Bool)(Z:AD)(O:Ev)(Q:AV):AU->Nat->Prop:=λl n1=>∃I:Nat->Ev->Nat->AS->Prop,I 0 O n1 []/\
 (∀i w D n ds,l[i]?=some w->I i D n ds->mg w D λq=>Y q n λb U=>if b=true then B q U (inR F J Z q ds (I (i+1))) else I (i+1) q U ds)/\
 ∀ D n ds,I l.length D n ds->Q (.d (.lst ds)) n
abbrev mComp2 (I:AC) (mg:W->Ev->(Ev->Prop)->Prop) (J:Ev->Mo Bool) (q:AC) (B:W->Ev->(Ev->Prop)->Prop) (F:Ev->Mo Bool) (O:AD) (BD:List (Option Nat)):AD:=λD n Q=>I D n (zrn mg J q B F O (ziJ D BD) Q)
end
end L3
namespace L2
open PyProof.Rows PySem.W PySem.Calls
section
variable {X:Cx}{BB:AB}{G:St}{H:Hp}{s:AZ}{a:Addr}
end
end L2
namespace L3
open L2
abbrev onY (w:W) (P:List (Key×Dt)->Prop):Prop:=match w with | .kf i=>P i | _=>False
section
variable {X:Cx}{Pn:PN}{M S:AR}{fr fr':Bool}{pos p:Pos}{e a b c:Expr}{f fa fb fc:AD}
abbrev dFrzK (f:AD):AD:=λD n Q=>f D n λx m=>onK x λBC=>Q (.kf BC) m
abbrev dItK (fa:AD):AC:=λD n Q=>fa D n λx m=>onY x λBC=>∃ns:AG,BC.map (·.1)=ns.map Sum.inl/\Q (ns.map λi=>W.d (.int i)) m
abbrev dGetY (fd fk:AD):AD:=λD n Q=>fd D n λx q=>fk D q λy B=>onY x λBC=>onI y λi=>onO (xq BC (Sum.inl i)) λd=>Q (.d d) B
abbrev dListY:AU->Mo W:=λq n Q=>on1 q λx=>onY x λBC=>∃ns:AG,BC.map (·.1)=ns.map Sum.inl/\Q (.d (.lst (ns.map .int))) n
abbrev dRetT (f:AD) (i:Nat):Ms:=λD n k=>f D n λw m=>onD w λd=>onV D i λx=>onL x λl=>k.rt (.d (.tup [d,.lst l])) m
end
end L3
namespace L2
open PyProof.Rows PySem.SeqAt
section
variable {prog:Aa}{w:Ab}{t:SetTable}{es:Array (Int×Value)}{xs:List (List Key×Addr)}{A:Ae}{E:AA}{s:AZ}
def zoI{ns:AG}(Y:A.units<cLine)(S:xl prog w s.heap a xs)(Z:(tk prog w).is s.heap (ns.map Sum.inl) b)(B:∀q∈xs,(tk prog w).is s.heap q.1 q.2)(h:∀r:Option Nat,(r.isSome=true↔(ns.map Sum.inl)∈xs.map (·.1))->Q r s) :
  Ag prog w A (setFind a (.ref b) ((tk prog w).hash (ns.map Sum.inl))) Q E s:=by
 obtain⟨o,es,ep,t,J,hx,O,T,F⟩:=S;unfold setFind;rw[show (100000:Nat)=99999+1 from rfl];unfold setFindIn;show aa (bK J O T.fits ?_);dsimp only;rw[show byScan (.ref b) es=false from rfl];simp only[aN,if_false];unfold setSearch;have U:=T.msk.le;show aa (zcK Y T Z B J O ?found ?free 100000 0 none BA (by unfold SetTable.turns;lia) (aL _) (λm U=>absurd U (cE _)))
 case found=>
  intro r i q hq I hr;obtain rfl:r=some i:=hr.resolve_left λz=>by cases z.2
  show af (h _ #[λ_=>au.mpr #[q,az hq,I],λ_=>rfl])
 case free=>
  intro N hN he hp;show af (h none #[λz=>(by cases z),λz=>absurd z (T.out hN he hp)])
def zvb{ns:AG}(J:A.in1.units<cLine)(S:xl prog w s.heap a xs)(O:(tk prog w).is s.heap (ns.map Sum.inl) b)(B:∀q∈xs,(tk prog w).is s.heap q.1 q.2)(h:∀ (c:Bool) (n:Nat),(c=true↔(ns.map Sum.inl)∈xs.map (·.1))->Q c { s with toks:=n }) :
  Ag prog w A (contains (.ref a) (.ref b)) Q E s:=by
 have I:s.TypeIs (.ref a) "set" := by obtain⟨o,es,ep,t,U,Y,_⟩:=S;show#[o,U,Y.1]
 unfold contains;show bn ?_;show aa (ef I F.slot_set_contains.lookup ?_);change wpAny _ _ (if (some (Value.builtin "set.__contains__")==some Value.none)=true then _ else _) _ E s;rw[if_neg (by rw[beq_builtin_none];show ay)]
 show aa (wpAny_callSpecialUnlessNone?_slot (name:=Str.ofString "__contains__") I F.slot_set_contains
  (aZ F.slot_set_contains I entry_set_contains ?_ (F.args_set_contains_2 _ _)))
 unfold Builtin.«frozenset.__contains__» Builtin.Frozenset.oneOther;simp only[List.isEmpty_nil,bind_assoc];unfold Builtin.Frozenset.addrOf Builtin.Frozenset.withSetAsKey setContains;show aa (af ?_);try dsimp only;show aa (af ?_);try dsimp only;show aa (wpAny_tryCatch ?_);show bn ?_;show aa ((tk prog w).pyHash J O ?_);show aa (zoI (s:={ s with toks:=s.toks+(tk prog w).draws (ns.map Sum.inl) }) J S O B λr Z=>?_);show af ?_;change wpAny _ _ (ret (Value.bool r.isSome)) _ _ _;show af #[_,BA,cr (h _ _ Z)]
variable {X:Cx}
end
end L2
namespace L3
open L2
section
variable {X:Cx}{Pn:PN}{M S:AR}{fr fr':Bool}{pos p:Pos}{e o a b c:Expr}{es:AO}{f fo fa fc:AD}
abbrev dAug (F:Int->Int->Int) (i:Nat) (f:AD):Ms:=λD n k=>onV D i λx=>onI x λa=>f D n λy m=>onI y λb=>onP D i (.d (.int (F a b))) λq=>k.nx q m
def zrX {i:Nat}{x:Str}{op:Operator}{F:Int->Int->Int}{pos':Pos}(hN:X.N.Nodup)(ho:PIp X op (ipI F))(he:JB X Pn M e f)(hi:X.N[i]?=some x:=by rfl)(hx:Loc X.env.scope x:=by first | show Or.inl BA | show Or.inr BA)(J:i∉M:=by ext)(Y:i∉S++M:=by ext)(I:X.fn x=true\/X.env.scope.names.lookup x=some .local:=by fail"l") :
  JS X Pn S M fr (.AugAssign (.Name x pos') op e pos) (dAug F i f):=by
 obtain⟨te,q,r⟩:=he.ex;show#[_,#[zsM hN hi hx q.run ho I],#[λB A G H D n k BG a kk I=>?_]];simp only[dAug,zaw,uW,xF] at I;obtain⟨w0,e0,O,rfl,I⟩:=I;obtain⟨v,s1,s2,_⟩:=a.env.val i _ e0;obtain rfl:v = .int O:=(s2 J).is;show#[_,s1,r.run A G H D n _ _ a.env a.pn I ?_];rintro y m v2 H1 ⟨U,rfl,r1⟩ b1 g1;obtain rfl:v2 = .int U:=y4 b1;have a1:=a.step g1;show#[O,U,BA,BA,(zen J Y).run A G H1 D (.int (F O U)) (.d (.int (F O U))) _ (λZ=>k.nx Z m) a1.env (Val.of BA) r1 λac ad r2 E2 f2=>kk.nx A ac H1 ad m (EnvR.mineG a1 E2 f2) r2]
abbrev dAugT (F:Int->Int->Int) (i:Nat) (fk f:AD):Ms:=λD n k=>onV D i λx=>onE x λBC=>fk D n λy m=>∃st,y = .d (stD st)/\∃a,xq BC st=some (.int a)/\f D m λw B=>onI w λb=>BC.length<lim/\onP D i (.dt (zlm BC st (.int (F a b)))) λq=>k.nx q B
abbrev zrA (P:Aa) (w:Ab):AU->Mo W:=λq n Q=>on1 q λx=>∃BE:AF,x = .d (.lst (BE.map stD))/\(∀ks:AF,ks.Nodup->(∀z∈ks,z∈BE)->ks.length<300)/\∀ks:AF,ks.Nodup->(∀st,st∈ks↔st∈BE)->Q (.ss P w ks) n
def zoe:FL Pn true (zn1 P w) (zrA P w):=#[λA H xs ws n Q R O b Pp h k=>by
 simp only[zrA,uV] at h;obtain⟨x,rfl,BE,rfl,I,h⟩:=h;obtain⟨v,r,rfl,Y,rfl⟩:=b;obtain⟨Z,ys,rfl,ha,hl⟩:=xn Y;show#[Z,ys,BE,BA,ha,hl.stay (zA.same zn),I,λl H' ks U SV mm Sm=>?_];obtain⟨xs,h1,h2,I,J⟩:=SV;have F:=O.stay (zA.same Sm);show k _ n _ H' (h ks J mm) #[l,xs,BA,zw (O.new U) h1,I,λq B=>zw (λz=>F.noT _ _ z (h2 q B)) (h2 q B),J] (Go.same Pp Sm) λ_=>#[l,BA,.of U,l,xs,BA,h1,I,λq B=>zw (λz=>?_) (h2 q B),J];rcases z with z | z;show F.noT _ _ z (h2 q B);have:=h2 q B;rw[z,h1] at this;cases this]
abbrev dInS (P:Aa) (w:Ab):W->W->Mo W:=λx y n Q=>∃ (st:AG) (ks:AF),x = .d (stD st)/\y = .ss P w ks/\∀c:Bool,(c=true↔st∈ks)->Q (.d (.bl c)) n
abbrev dItEF (fa:AC):AC:=λD n Q=>fa D n λq m=>on1 q λx=>onZ x λBC=>(BC.map (·.1)).Nodup->Q (enW 0 ((BC.map (·.1)).map stD)) m
abbrev zuH (fo f:AD):AD:=λD n Q=>fo D n λx q=>onL x λl=>f D q λy B=>onD y λd=>d.eqOk/\(Dt.lst l).eqOk/\d∈l/\∀j:Nat,l[j]?=some d->(∀i,i<j->l[i]?≠some d)->Q (.d (.int j)) B
abbrev snN:AU->(AU->Prop)->Prop
 | [],P=>P [.d .non]
 | a::r,P=>snN r λq=>P (a::q)
abbrev dFnD (k:Nat) (F:AU->Mo W) (fs:AC):AD:=λD n Q=>fs D n λq m=>snN q λus=>zco k us (F us m Q)
end
end L3
namespace L2
open PyProof.Rows
section
variable {X:Cx}{BB:AB}{G:St}{H BF G':Hp}{s:AZ}{d l:Addr}{ob:Obj}{BC:List (List Key×V)}
def DTo (P:Aa)(w:Ab)(BF:Hp)(d:Addr)(ob:Obj)(BC:List (List Key×V)):Prop:=BC.length<=sizeLine/\(d==sysModules)=false/\∃xs:List (List Key×Addr×Value),
 Paired (λ(p:List Key×V) (q:List Key×Addr×Value)=>p.1=q.1/\BF q.2.1=some (.tup (p.1.map kV))/\yo p.2 q.2.2) BC xs/\∃es B,ob.ExactDict/\ob.data = .dict es B/\es.toList=xs.map (entryOfKey (tupleKind (zT P w)))/\(xs.map (·.1)).Nodup
def DTo.st(h:DTo P w BF d ob BC)(t:zfY BF G'):DTo P w G' d ob BC:=by obtain⟨z,lo,xs,r,q⟩:=h;show#[z,lo,xs,Paired.imp' (λp q y=>#[y.1,t _ _ y.2.1,y.2.2]) r,q]
def Inv.thaw (I:Inv X BB G H s)(h:H d=some (kO d ob))(BG:DTo X.prog X.w H d ob BC):Inv X BB G (upd H d (.dT BC)) s:=by obtain⟨z,lo,xs,r,es,B,h2,F,J,O⟩:=BG;have h1:s.heap.get? d=some ob:=(show yd X.prog X.w H s.heap d (kO d ob) from I.hok d _ h).1;show I.write (x:=d) (e:=d) (h':=s.heap) (t':=s.toks) (by rw[h];trivial) (.inl BA) (λ_ _ _ e=>e) #[ob,h1] #[z,lo,xs,Paired.imp' (λp q y=>#[y.1,?_,y.2.2]) r,ob,es,B,h1,h2,F,J,O];rw[zf λe=>by have:=y.2.1;rw[e,h] at this;cases this];show y.2.1
def Inv.keep (I:Inv X BB G H s)(h:H d=some (.dT BC)):∃ob,DTo X.prog X.w H d ob BC/\s.heap.get? d=some ob/\Inv X BB G (upd H d (kO d ob)) s:=by obtain⟨z,lo,xs,r,o,es,q,h1,h2,B,F,J⟩:=(show yd X.prog X.w H s.heap d (.dT BC) from I.hok d _ h);show#[o,#[z,lo,xs,r,es,q,h2,B,F,J],h1,I.write (x:=d) (e:=d) (h':=s.heap) (t':=s.toks) (by rw[h];trivial) (.inl BA) (λ_ _ _ e=>e) #[o,h1] #[h1,#[o,h1],λh1 h2 p k=>k o p]]
def Inv.frzL(I:Inv X BB G H s)(h:H l=some (.lst xs)):∃ob,Inv X BB G (upd H l (.frz ob (.lst xs))) s:=by obtain⟨z,q,n,r,e⟩:=(show yd X.prog X.w H s.heap l (.lst xs) from I.hok l _ h);show#[_,I.write (x:=l) (e:=l) (h':=s.heap) (t':=s.toks) (by rw[h];trivial) (.inl BA) (λ_ _ _ e=>e) #[_,e] #[e,z,q,n,r,e]]
variable {e:Expr}{te:TE}
def ztC (P:Aa)(w:Ab)(te:TE):TE:=λG H Q=>te G H λx H1=>∃d ob BC,H1 d=some (kO d ob)/\DTo P w H1 d ob BC/\Q x (upd H1 d (.dT BC))
def zpP (h:PE X e te):PE X e (ztC X.prog X.w te):=λBB s G H Q I q=>thn (h BB s G H _ I q) λu F ⟨x,H1,I1,r,d,ob,BC,h1,h2,B⟩=>#[x,_,I1.thaw h1 h2,r,B]
def ztt (P:Aa)(w:Ab)(te:TE):TE:=λG H Q=>te G H λx H1=>∃d BC,H1 d=some (.dT BC)/\∀ob,DTo P w H1 d ob BC->(∃h:Heap,h.get? d=some ob)->Q x (upd H1 d (kO d ob))
def zpK (h:PE X e te):PE X e (ztt X.prog X.w te):=λBB s G H Q I q=>thn (h BB s G H _ I q) λu F ⟨x,H1,I1,r,d,BC,h1,B⟩=>by obtain⟨ob,BG,g,I2⟩:=I1.keep h1;show#[x,_,I2,r,B ob BG #[_,g]]
def zod (P:Aa)(w:Ab)(t:TA):TA:=λG H Q=>t G H λvs H1=>∃d BC,H1 d=some (.dT BC)/\∀ob,DTo P w H1 d ob BC->(∃h:Heap,h.get? d=some ob)->Q vs (upd H1 d (kO d ob))
def zpE(h:PA X es t):PA X es (zod X.prog X.w t):=λpos BB s G H Q I q=>by show bM (h pos BB s G H _ I q) ?_ λ_ _ x=>x;rintro us F ⟨vs,H1,I1,r,d,BC,h1,B⟩;obtain⟨ob,BG,g,I2⟩:=I1.keep h1;show#[vs,_,I2,r,B ob BG #[_,g]]
def zts (te:TE):TE:=λG H Q=>te G H λx H1=>∃l xs,x = .ref l/\H1 l=some (.lst xs)/\∀ob,Q x (upd H1 l (.frz ob (.lst xs)))
def zpJ (h:PE X e te):PE X e (zts te):=λBB s G H Q I q=>thn (h BB s G H _ I q) λu F ⟨x,H1,I1,r,l,xs,ex,h1,B⟩=>by obtain⟨ob,I2⟩:=I1.frzL h1;show#[x,_,I2,r,B ob]
end
end L2
namespace L3
open L2
def Sm (BF G':Hp):Prop:=∀b o,BF b=some o->imm o=true\/¬ NP o->G' b=some o
def Sm.t(h:Sm BF G'):zfY BF G':=λb xs e=>h b _ e (.inl BA)
def zsc(h:∃h:Heap,h.get? d=some ob):¬ NP (kO d ob):=λn=>by have:=n [(Sum.inr "at",.non)] (by unfold kO pnK;dsimp only;rw[if_pos #[d,ob,h,BA]]);cases this
structure LdI where
 P:Aa
 w:Ab
 C:Addr
 a:Addr
 dx:Addr
 d:Addr
 rm:AG
 bk:AW
 hs:AG
def LdE (L:LdI)(BF:Hp)(q:AG×V):Prop:=StOk L.rm q.1/\∃B o xs,q.2 = .ref B/\BF B=some (.frz o (.lst xs))/\IsL BF ((yH L.bk q.1 L.hs).map stD) xs
structure LdG (L:LdI)(BF:Hp):Prop where
 ex:∃ (x1 x2 x3:V) (ob:Obj) (ks:List (AG×V)),BF L.a=some (.ins L.C L.dx [("room",x1),("wishes",x2),("held",x3),("known",.ref L.d)])/\BF L.dx=some (.own L.a)/\Is BF (stD L.rm) x1/\Is BF (xV L.bk) x2/\zaC BF x3 L.hs/\
  BF L.d=some (kO L.d ob)/\(∃h:Heap,h.get? L.d=some ob)/\DTo L.P L.w BF L.d ob (zcU ks)/\∀q∈ks,LdE L BF q
 room:RoomOk L.rm
 book:xR L.rm L.bk
def LdE.sm{q:AG×V}(h:LdE L BF q)(s:Sm BF G'):LdE L G' q:=by obtain⟨B,F,o,xs,h1,h2,I⟩:=h;show#[B,F,o,xs,h1,s _ _ h2 (.inl BA),I.stayT s.t (uq _)]
def zaC.stayT{hs:AG}(h:zaC BF v hs)(s:zfY BF G'):zaC G' v hs:=h.imp id λ⟨p,e,q⟩=>#[p,e,s _ _ q]
def LdG.sm(h:LdG L BF)(s:Sm BF G'):LdG L G':=by
 obtain⟨⟨F,I,J,ob,ks,h1,h2,O,U,Y,Z,B,h8,h9⟩,hr,hb⟩:=h;have n1:(stD L.rm).noL=true:=by simpa [Dt.noL] using zaS L.rm
 have n2:(xV L.bk).noL=true:=by simpa [Dt.noL] using zah L.bk
 show#[#[F,I,J,ob,ks,s _ _ h1 (.inl BA),s _ _ h2 (.inl BA),O.stayT s.t n1,U.stayT s.t n2,zaC.stayT Y s.t,s _ _ Z (.inr (zsc B)),B,h8.st s.t,λq hq=>(h9 q hq).sm s],hr,hb]
def LdG.close{ks:List (AG×V)}(h:LdG L BF)(s:∀b o,BF b=some o->b≠L.d->G' b=some o)(e:G' L.d=some (kO L.d ob))(F:∃h:Heap,h.get? L.d=some ob)(BG:DTo L.P L.w G' L.d ob (zcU ks))(q:∀q∈ks,LdE L G' q):LdG L G':=by
 obtain⟨⟨I,J,O,U,Y,h1,h2,Z,h4,h5,B,h7,h8,h9⟩,hr,hb⟩:=h;have n1:(stD L.rm).noL=true:=by simpa [Dt.noL] using zaS L.rm
 have n2:(xV L.bk).noL=true:=by simpa [Dt.noL] using zah L.bk
 have t:zfY BF G':=λb xs z=>s b _ z λy=>by subst y;rw[B] at z;cases z
 show#[#[I,J,O,ob,ks,s _ _ h1 (λy=>by rw[y,B] at h1;cases h1),s _ _ h2 (λy=>by rw[y,B] at h2;cases h2),Z.stayT t n1,h4.stayT t n2,zaC.stayT h5 t,e,F,BG,q],hr,hb]
def zeu (P:Aa)(w:Ab)(C:Addr):Sp:=λvs H Q _=>∃ (L:LdI) (st:AG) (q:Addr),vs=[.ref L.a,.ref q]/\L.P=P/\L.w=w/\L.C=C/\LdG L H/\StOk L.rm st/\H q=some (.tup (st.map V.int))/\
 ∀ (B:Addr) (o:Obj) (ys:AT) (H':Hp),H' B=some (.frz o (.lst ys))->IsL H' ((yH L.bk st L.hs).map stD) ys->LdG L H'->(∀b o,H b=some o->b≠L.d->H' b=some o)->Q (.ref B) H'
def ldF (q B F:V)(d:Addr):List (Str×V):=[("room",q),("wishes",B),("held",F),("known",.ref d)]
def zev (C:Addr):Sp:=λvs H Q _=>∃ (a dx:Addr) (q B F:V),vs=[.ref a,q,B,F]/\H a=some (.ins C dx [])/\
 ∀ (d:Addr) (H':Hp),H d=none->H' a=some (.ins C dx (ldF q B F d))->H' d=some (.dT [])->(∀b o,H b=some o->b≠a->H' b=some o)->Q .non H'
def ldJ (L:LdI):Jv where
 K:=λA H=>LdG L (ya A H)
 same:=λh s=>h.sm λb o e _=>x5 s b o e
 grow:=λ{A A' H} h g=>h.sm λb o e n=>by
  obtain⟨F,B⟩:=zJ.mp e;show zw (λz=>?_) B;rcases g b z with q | ⟨o',q1,q2,q3⟩;show F q;rw[B] at q1;cases q1;rcases n with n | n;rw[show imm o=false from q3] at n;cases n;show n q2
 upd:=λ{A H p o} h I=>by rw[yw I];show h
 frz:=λ{A H p o o'} h I J O=>h.sm λb u e n=>by
  obtain⟨F,B⟩:=zJ.mp e
  have U:b≠p:=λz=>by
   subst z;rw[I] at B;cases B;rcases n with n | n;rw[show imm o=false from O] at n;cases n;show n J
  show zw F (by rw[zf U];show B)
def zhk (q B F:V)(d:Addr):(ldF q B F d).lookup ("room" : Str)=some q:=by unfold ldF;rw[List.lookup,show (("room" : Str) == "room")=true by decide +kernel]
def zh9 (B q F:V)(d:Addr):(ldF B q F d).lookup ("wishes" : Str)=some q:=by unfold ldF;rw[List.lookup,show (("wishes" : Str) == "room")=false by decide +kernel];dsimp only;rw[List.lookup,show (("wishes" : Str) == "wishes")=true by decide +kernel]
def zmc (B F q:V)(d:Addr):(ldF B F q d).lookup ("held" : Str)=some q:=by unfold ldF;rw[List.lookup,show (("held" : Str) == "room")=false by decide +kernel];dsimp only;rw[List.lookup,show (("held" : Str) == "wishes")=false by decide +kernel];dsimp only;rw[List.lookup,show (("held" : Str) == "held")=true by decide +kernel]
def zaK (q B F:V)(d:Addr):(ldF q B F d).lookup ("known" : Str)=some (.ref d):=by unfold ldF;rw[List.lookup,show (("known" : Str) == "room")=false by decide +kernel];dsimp only;rw[List.lookup,show (("known" : Str) == "wishes")=false by decide +kernel];dsimp only;rw[List.lookup,show (("known" : Str) == "held")=false by decide +kernel];dsimp only;rw[List.lookup,show (("known" : Str) == "known")=true by decide +kernel]
def zjP (q B F:V)(d:Addr):(ldF q B F d).lookup ("after" : Str)=none:=by unfold ldF;rw[List.lookup,show (("after" : Str) == "room")=false by decide +kernel];dsimp only;rw[List.lookup,show (("after" : Str) == "wishes")=false by decide +kernel];dsimp only;rw[List.lookup,show (("after" : Str) == "held")=false by decide +kernel];dsimp only;rw[List.lookup,show (("after" : Str) == "known")=false by decide +kernel];rfl
def zpd (q B F:V)(d:Addr):zbE "known" (.ref d) (zbE "held" F (zbE "wishes" B (zbE "room" q [])))=ldF q B F d:=by unfold ldF;simp only[zbE,if_neg (show ¬ ("room" : Str) = "wishes" by decide +kernel),if_neg (show ¬ ("room" : Str) = "held" by decide +kernel),if_neg (show ¬ ("room" : Str) = "known" by decide +kernel),if_neg (show ¬ ("wishes" : Str) = "held" by decide +kernel),if_neg (show ¬ ("wishes" : Str) = "known" by decide +kernel),if_neg (show ¬ ("held" : Str) = "known" by decide +kernel)]
theorem zaW (f:Str)(v:V):∀fs:List (Str×V),(zbE f v fs).length<=fs.length+1
 | []=>ai _
 | (g,x)::r=>by have:=zaW f v r;unfold zbE;split <;> simp <;> omega
structure LdC (K:AH)(C:Addr):Prop where
 cl:Cls K C
 n1:zar K C "room"
 n2:zar K C "wishes"
 n3:zar K C "held"
 n4:zar K C "known"
section
variable {K:AH}{P:Aa}{w:Ab}{C:Addr}{H:Hp}{Q:VK}{E:XK}{BG:Ends}
def zmQ(c:LdC K C)(h:zev C vs H Q E)(J:∀ G H',Q .non H'->BG.nx G H') :
  zqS (ztj K (za6 0) (za6 1) "room") (zqS (ztj K (za6 0) (za6 2) "wishes") (zqS (ztj K (za6 0) (za6 3) "held") (ztj K (za6 0) zoc "known"))) BG (vs.map some) H:=by
 obtain⟨a,dx,U,Y,Z,rfl,O,k⟩:=h;show#[_,BA,_,BA,a,C,dx,[],BA,O,c.cl,c.n1,by ext,?_];show#[_,BA,_,BA,a,C,dx,_,BA,zh,c.cl,c.n2,a6 (zaW _ _ _) (by ext),?_];have I:∀x y:V,(zbE "wishes" x (zbE "room" y [])).length<=2:=λx y=>aH (zaW _ _ _) (dR (zaW _ _ _));show#[_,BA,_,BA,a,C,dx,_,BA,zh,c.cl,c.n3,a6 (I _ _) (by ext),?_];rw[zeC,zeC];intro d F;have q:a≠d:=λe=>by rw[<- e,zh] at F;cases F
 have B:H d=none:=by rwa[zf q.symm] at F
 show#[_,BA,a,C,dx,_,BA,by rw[zf q,zh],c.cl,c.n4,a6 (aH (zaW _ _ _) (dR (I _ _))) (by change 3<1000;decide),J _ _ ?_];rw[zpd];show k d _ B zh (by rw[zf q.symm,zh]) λb o e n=>?_;rw[zf n,zf (zc e B),zf n];show e
def zmD (ns:AG)(h:∀n∈ns,2<=n/\n<=4):zY ns<=4 ^ ns.length:=by
 have:∀ (ns:AG) (c:Int),0<=c->(∀n∈ns,2<=n/\n<=4)->ns.foldl (· * ·) c<=c * 4 ^ ns.length:=by
  intro ns
  induction ns with
  | nil=>intro c _ _;simp
  | cons n ns F=>
   intro c B h;obtain⟨h1,h2⟩:=h n ao;have i:=F (c * n) (Int.mul_nonneg B (by omega)) λm I=>h m (av _ I);have p:(0:Int)<=4 ^ ns.length:=Int.pow_nonneg (by ext);have q:c * n * 4 ^ ns.length<=c * 4 * 4 ^ ns.length:=Int.mul_le_mul_of_nonneg_right (Int.mul_le_mul_of_nonneg_left h2 B) p;rw[List.foldl_cons,aK,Int.pow_succ];have r:c * (4 ^ ns.length * 4)=c * 4 * 4 ^ ns.length:=by rw[Int.mul_comm (4 ^ ns.length) 4,Int.mul_assoc]
   omega
 have:=this ns 1 (by ext) h;unfold zY
 omega
def LdE.len{ks:List (AG×V)}(B:RoomOk L.rm)(h:∀q∈ks,LdE L BF q)(n:(ks.map (·.1)).Nodup):ks.length<=65536:=by
 have h1:=yW (l':=zam (L.rm.map zK)) n λx F=>by obtain⟨q,I,rfl⟩:=au.mp F;show zgN (h q I).1
 have h2:=ug L.rm λn hn=>by have:=B.box n hn;omega
 have J:=zmD L.rm B.box
 have O:(4:Int) ^ L.rm.length<=4 ^ 8:=by
  have:=B.few
  exact_mod_cast dL (by decide:0<4) this
 rw[ab] at h1;have:(4:Int) ^ 8=65536:=by ext
 omega
def DTo.nd{ks:List (AG×V)}(h:DTo P w BF d ob (zcU ks)):(ks.map (·.1)).Nodup:=by
 obtain⟨z,lo,xs,r,es,I,_,_,_,n⟩:=h
 have B:∀ {BC:List (List Key×V)} {xs:List (List Key×Addr×Value)},Paired (λ(p:List Key×V) (q:List Key×Addr×Value)=>p.1=q.1/\BF q.2.1=some (.tup (p.1.map kV))/\yo p.2 q.2.2) BC xs->BC.map (·.1)=xs.map (·.1):=by
  intro BC xs h
  induction h with
  | nil=>rfl
  | cons a _ F=>rw[aB,aB,F,a.1]
 rw[<- B r] at n;unfold zcU at n;rw[aI] at n;have:(ks.map λq=>q.1.map (Sum.inl:Int->Key))=(ks.map (·.1)).map λl=>l.map Sum.inl:=by rw[aI];rfl
 rw[show ((λx:List Key×V=>x.1) ∘ λq:AG×V=>(q.1.map Sum.inl,q.2))=λq:AG×V=>q.1.map (Sum.inl:Int->Key) from rfl,this] at n;show (cz.mp n).imp λh e=>h (by rw[e])
def znf{ks:List (AG×V)}{st:AG}(h:xK ks st=some v):(st,v)∈ks:=by
 unfold xK at h;obtain⟨q,B,rfl⟩:=aJ.mp h;have e:q.1=st:=by simpa using List.find?_some B
 subst e;show List.mem_of_find?_eq_some B
def LdE.st{q:AG×V}(h:LdE L BF q)(B:BF L.d=some (kO L.d ob))(s:∀b o,BF b=some o->b≠L.d->G' b=some o):LdE L G' q:=by obtain⟨F,I,o,xs,h1,h2,J⟩:=h;show#[F,I,o,xs,h1,s _ _ h2 (λz=>by rw[z,B] at h2;cases h2),J.stayT (λb ys e=>s b _ e λz=>by rw[z,B] at e;cases e) (uq _)]
def LdG.at(h:LdG L BF):∃ (ra B:Addr) (xs:AT) (F:V) (ob:Obj) (ks:List (AG×V)),BF L.a=some (.ins L.C L.dx (ldF (.ref ra) (.ref B) F L.d))/\BF ra=some (.tup (L.rm.map V.int))/\BookAt BF L.rm B xs L.bk/\zaC BF F L.hs/\
  BF L.d=some (kO L.d ob)/\(∃h:Heap,h.get? L.d=some ob)/\DTo L.P L.w BF L.d ob (zcU ks)/\∀q∈ks,LdE L BF q:=by
 obtain⟨⟨x1,x2,F,ob,ks,h1,h2,⟨ra,ys,rfl,O,I⟩,⟨B,xs,rfl,U,J⟩,Y,Z,h7,h8,h9⟩,hr,hb⟩:=h;obtain rfl:=I.of_ints;show#[ra,B,xs,F,ob,ks,h1,O,#[U,J,hb],Y,Z,h7,h8,h9]
def zmP(c:LdC K C)(h:zeu P w C vs H Q E)(hD:BG.rt=Q) :
  zqS (zv7 (tB (zgO (za6 1) (ztC P w (zqO K (za6 0) "known")))) (zqB (zqO K (za6 0) "known") (za6 1) (zts (zey zoa [] E' (zbG (zqO K (za6 0) "room") (zbG (zqO K (za6 0) "wishes") (zbG (za6 1) (zbG (zqO K (za6 0) "held") zqQ))))))) zqP)
   (ztz (ztt P w (zqM (zqO K (za6 0) "known") (za6 1)))) BG (vs.map some) H:=by
 obtain⟨L,st,sa,rfl,rfl,rfl,rfl,BF,Z,B,k⟩:=h;subst hD;obtain⟨ra,ba,xs,x3,ob,ks,h1,h2,h3,h4,O,_,h6,h7⟩:=BF.at;have ac:L.a≠L.d:=λe=>by rw[e,O] at h1;cases h1
 have ag:sa≠L.d:=λe=>by rw[e,O] at B;cases B
 have al:H sa=some (.tup ((st.map Sum.inl).map kV)):=by rw[zbc];show B
 have U:∀o,upd H L.d o L.a=some (.ins L.C L.dx (ldF (.ref ra) (.ref ba) x3 L.d)):=λo=>by rw[zf ac];show h1
 have I:zfY H (upd H L.d (.dT (zcU ks))):=λb ys e=>by rw[zf λz=>by rw[z,O] at e;cases e];show e
 show#[_,BA,_,BA,L.a,L.C,L.dx,_,_,BA,h1,c.cl,c.n4,zaK _ _ _ _,L.d,ob,_,O,h6,L.d,_,BA,zbv.t zh (I _ _ al),_,BA,?_];rw[zdS]
 cases e:xK ks st with
 | some v=>
  show zrS ?_;show#[_,BA,L.a,L.C,L.dx,_,_,BA,U _,c.cl,c.n4,zaK _ _ _ _,_,BA,L.d,v,BA,by rw[<- e];show zbv.i (st:=st) zh (I _ _ B),L.d,_,zh,λF D' hh=>?_];rw[zeC];have s:∀b o,H b=some o->b≠L.d->upd H L.d (kO L.d F) b=some o:=λb o e n=>by rw[zf n];show e
  have G':LdG L (upd H L.d (kO L.d F)):=BF.close s zh hh (ks:=ks) (D'.st λb ys e=>by
   have n:b≠L.d:=λz=>by rw[z,zh] at e;cases e
   rw[zf n] at e ⊢;show e) λq J=>(h7 q J).st O s
  obtain⟨_,va,o,ys,e1,e2,e3⟩:=(h7 _ (znf e)).st O s;obtain rfl:v = .ref va:=e1;show k va o ys _ e2 e3 G' s
 | none=>
  show iteT ?_;have hR:=BF.room;show#[_,BA,L.a,L.C,L.dx,_,_,BA,U _,c.cl,c.n1,zhk _ _ _ _,_,BA,L.a,L.C,L.dx,_,_,BA,U _,c.cl,c.n2,zh9 _ _ _ _,_,BA,_,BA,L.a,L.C,L.dx,_,_,BA,U _,c.cl,c.n3,zmc _ _ _ _,?_];show#[.ref ra,x3,ba,sa,L.rm,xs,L.bk,st,L.hs,BA,hR.pos,hR.few,#[I _ _ h3.at',h3.is.stayT I (zah _),h3.ok],hR.box,I _ _ B,Z.len,zaC.stayT h4 I,?_];rintro l H2 nl ⟨ys,hl,an⟩ S;show#[l,ys,BA,hl,λo=>?_];have ad:L.d≠l:=zc zh nl;have ap:H l=none:=by rwa[zf ad.symm] at nl
  have Y:yZ (upd H L.d (.dT (zcU ks))) (upd H2 l (.frz o (.lst ys))):=λb u e=>by rw[zf (zc e nl)];show S b u e
  show#[_,BA,L.a,L.C,L.dx,_,_,BA,Y _ _ (U _),c.cl,c.n4,zaK _ _ _ _,_,BA,L.d,_,BA,zeE.i (st:=st) (Y _ _ zh) (Y _ _ (I _ _ B)) (a6 (LdE.len hR h7 (DTo.nd h6)) (by ext)),?_];have e':xK (uZ ks st (.ref l)) st=some (.ref l):=by rw[zng,if_pos rfl]
  show#[_,BA,L.a,L.C,L.dx,_,_,BA,by rw[zf ac];show Y _ _ (U _),c.cl,c.n4,zaK _ _ _ _,_,BA,L.d,.ref l,BA,by rw[<- e'];show zbv.i (st:=st) zh (by rw[zf ag];show Y _ _ (I _ _ B)),L.d,_,zh,λF D' hh=>?_];rw[zeC];have s:∀b u,H b=some u->b≠L.d->upd (upd H2 l (.frz o (.lst ys))) L.d (kO L.d F) b=some u:=λb u e n=>by rw[zf n];show Y b u (by rw[zf n];show e)
  have el:upd (upd H2 l (.frz o (.lst ys))) L.d (kO L.d F) l=some (.frz o (.lst ys)):=by rw[zf ad.symm,zh]
  have ey:IsL (upd (upd H2 l (.frz o (.lst ys))) L.d (kO L.d F)) ((yH L.bk st L.hs).map stD) ys:=an.stayT (λb zs e=>by
   have n1:b≠l:=λz=>by rw[z,hl] at e;cases e
   have n2:b≠L.d:=λz=>by rw[z,S _ _ zh] at e;cases e
   rw[zf n2,zf n1];show e) (uq _)
  show k l o ys _ el ey (BF.close s zh hh (ks:=uZ ks st (.ref l)) (D'.st λb zs e=>?_) λq J=>?_) s;have n:b≠L.d:=λz=>by rw[z,zh] at e;cases e
  rw[zf n] at e ⊢;show e;rw[zmF _ e] at J;rcases aF.mp J with J | J;show (h7 q J).st O s;obtain rfl:=aq.mp J;show#[Z,l,o,ys,BA,el,ey]
end
end L3
namespace L2
open PyProof.Rows PySem.SeqAt
def rInF (q:Bool):R2:=λx y H Q=>∃ (d:Dt) (ds:AS) (a:Addr) (ob:Obj) (xs:AT),y = .ref a/\H a=some (.frz ob (.lst xs))/\IsL H ds xs/\Is H d x/\d.eqOk/\(Dt.lst ds).eqOk/\∀b:Bool,(b=true↔d∈ds)->Q (.bl (if q then !b else b)) H
section
variable {X:Cx}
def zsq (F:X.A.units+64<cLine):OpQ X (compareOp .In) (rInF false):=#[by
 intro BB s G H x y v u Q I J O h;obtain⟨d,ds,a,ob,xs,rfl,U,Y,Z,B,ks,q⟩:=h;cases O;obtain⟨as,ra⟩:=xc I.hok 8 Z J B;obtain⟨l1,l2,l3⟩:=znI B ks F;obtain⟨_,_,ac,m,rv,e⟩:=(show yd X.prog X.w H s.heap a (.frz ob (.lst xs)) from I.hok a _ U);obtain⟨bs,r⟩:=uk I.hok 7 Y rv (by have k':PySem.W.kqdOk 8 (Dt.lst ds).toW=true:=ks;simpa [Dt.toW,PySem.W.kqdOk] using k');show in_list_reads (reads_list_at e BA BA (by simpa using r)) ra l1 l2 l3 #[.bl _,H,I,BA,q _ (zf0 B ks)]]
end
end L2
namespace L3
open L2
def Pen.but{ns:AG}(h:Pen H p c ns n)(q:∀BC,H d≠some (.dK BC))(B:∀ob xs,H d≠some (.frz ob (.lst xs)))(s:∀b o,H b=some o->b≠d->H' b=some o):Pen H' p c ns n:=by obtain⟨⟨a,l,h1,h2⟩,F,I⟩:=h;show#[#[a,l,s _ _ h1 (λz=>q _ (z ▸ h1)),h2],(F.but λ_ _ _ e=>s _ _ e (λz=>B _ _ (z ▸ e))),I]
mutual
theorem ze7 {H H':Hp}(s:∀b o,H b=some o->(∀BC,o≠.dT BC)->H' b=some o):∀ {x:Dt} {v:V},Is H x v->Is H' x v
 | .non,_,h=>h
 | .bl _,_,h=>h
 | .int _,_,h=>h
 | .str _,_,h=>h
 | .tup l,_,h=>by obtain⟨p,xs,e,hp,hl⟩:=h;show#[p,xs,e,s _ _ hp (λ_ z=>by cases z),zgk s hl]
 | .lst l,_,h=>by obtain⟨p,xs,e,hp,hl⟩:=h;show#[p,xs,e,s _ _ hp (λ_ z=>by cases z),zgk s hl]
 | .dct,_,h=>by obtain⟨p,xs,e,hp,hl⟩:=h;show#[p,xs,e,s _ _ hp (λ_ z=>by cases z),hl]
theorem zgk {H H':Hp}(s:∀b o,H b=some o->(∀BC,o≠.dT BC)->H' b=some o):∀ {ds:AS} {xs:AT},IsL H ds xs->IsL H' ds xs
 | [],_,h=>h
 | d::ds,xs,h=>by obtain⟨x,r,e,h1,h2⟩:=h;show#[x,r,e,ze7 s h1,zgk s h2]
end
abbrev W.isD:W->Bool
 | .d _=>true
 | _=>false
theorem zhP(s:∀b o,ya A H b=some o->(∀BC,o≠.dT BC)->ya A H' b=some o):∀ {q:AU} {vs:AT},(q.all W.isD)=true->zbJ A H q vs->zbJ A H' q vs
 | [],_,_,h=>h
 | w::q,vs,n,h=>by
  obtain⟨v,r,e,h1,h2⟩:=h;rw[ek,bj] at n;show#[v,r,e,?_,zhP s n.2 h2]
  cases w with
  | d x=>show Val.of (ze7 s (Val.is h1))
  | _=>cases n.1
def mFlI (fa:AD):AC:=λD n Q=>fa D n λx m=>∃l,x = .fl l/\Q (l.map W.d) m
def zrT(h:ya A H B=some (.frz ob (.lst xs)))(F:IsL (ya A H) l xs):ItV false A H (Itl K B) (l.map W.d) where
 one:=λi w A2 H2 e s _ _=>by obtain⟨d,x,rfl,I,J⟩:=zgm F e s;have g:SqL K H2 B xs:=.inl (.inr #[ob,zn _ _ (s _ _ h λk q=>by cases q)]);show#[#[xs,x,g,I],?_];rintro y H3 ⟨O,U⟩;subst O;have:=U xs g;rw[I] at this;cases this;show#[λ_ _ z=>z,Val.of J]
 stop:=λA2 H2 s _=>#[xs,.inl (.inr #[ob,zn _ _ (s _ _ h λk q=>by cases q)]),by rw[ab,F.length];show ai _]
section
variable {X:Cx}{Pn:PN}{M:AR}{fr:Bool}{e:Expr}{f:AD}
def zrV(K:AH)(F:X.K=K)(h:JE X Pn M fr e f):JI X Pn M false tg e (mFlI f):=by obtain⟨te,q,r⟩:=h.ex;show#[_,zhC K F q,#[λA G H D n Q R E P I k=>?_]];show r.run A G H D n _ _ E P I  ?_;rintro w m v H1 ⟨l,e,r⟩ J g _;subst e;obtain⟨O,ob,xs,rfl,B,U⟩:=J;show#[O,BA,#[xs,.inl (.inr #[ob,zn _ _ B])],k _ m _ H1 r (zrT B U) g]
abbrev onFl (w:W) (P:AS->Prop):Prop:=match w with | .fl i=>P i | _=>False
def zpy:onFl w P = ∃i,w = .fl i/\P i:=propext #[λh=>by cases w <;> first | show False.elim h | show#[_,BA,h],by right]
abbrev dInF (q:Bool):W->W->Mo W:=λx y n Q=>onD x λd=>onFl y λds=>d.eqOk/\(Dt.lst ds).eqOk/\∀b:Bool,(b=true↔d∈ds)->Q (.d (.bl (xr q b))) n
def zwb:F2 Pn false (rInF q) (dInF q):=#[by
 rintro A H x y wx wy n Q R al I B P h k;simp only[dInF,xb,zpy] at h;obtain⟨d,rfl,ds,rfl,J,O,h⟩:=h;obtain⟨U,ob,xs,rfl,F,Y⟩:=B;show#[d,ds,U,ob,xs,BA,F,Y.stay (zA.same zn),I.is,J,O,λb Z=>by rw[ztZ];show k _ n _ H (h b Z) (Val.of BA) (Go.refl P) λz=>by cases z]]
def znJ (P:Aa)(w:Ab)(C:Addr)(Pn:PN)(i:Nat)(fs:AC):AD:=λD n R=>∃L,Pn.J=ldJ L/\L.P=P/\L.w=w/\L.C=C/\D[i]?=some (some (.pen L.a))/\fs D n λq m=>∃st,q=[.d (stD st)]/\StOk L.rm st/\R (.fl ((yH L.bk st L.hs).map stD)) m
def zmR(hi:i∉M)(ra:RA Pn M t fs):RE Pn M false (ztw C "after" (zeu P w C) [] E' (za6 i) t) (znJ P w C Pn i fs):=#[by
 rintro A G H D n Q R E Pp ⟨L,U,rfl,rfl,rfl,Y,hf⟩ k;obtain⟨v,hv,Z,_⟩:=E.val i _ Y;obtain rfl:v = .ref L.a:=Z hi;have G0:LdG L (ya A H):=by have:=Pp.2;rw[U] at this;show this
 obtain⟨a1,ba,xs,x3,ob,ks,h1,h2,h3,h4,h5,_,h6,h7⟩:=G0.at;show#[_,hv,L.a,L.dx,_,BA,zn _ _ h1,zjP _ _ _ _,?_];show ra.run A G H D n _ _ E Pp hf ?_;rintro ws m vs H1 ⟨st,rfl,ac,r⟩ ad g;obtain⟨v1,zz,rfl,b1,b2⟩:=ad;obtain rfl:zz=[]:=b2;obtain⟨sa,rfl,ag⟩:=ztW b1;have G1:LdG L (ya A H1):=by have:=g.pn.2;rw[U] at this;show this
 obtain⟨_,_,_,_,an,_,_,_,_,_,g5,g6,_,_⟩:=G1.at;obtain⟨nd,B⟩:=zJ.mp g5;have al:Al A H1:=(E.stay g.st).al;show#[L,st,sa,BA,BA,BA,BA,G1.sm λb o e _=>zn _ _ e,ac,ag,λva o ys H' e1 e2 G' s=>?_];have F:∀b,A b->∃u,H' b=some u/\NP u/\Mt u:=λb O=>by obtain⟨u,q,J,I⟩:=al b O;show#[u,s b u q (λz=>nd (z ▸ O)),J,I]
 have ap:¬ A va:=λz=>by obtain⟨u,q,J,I⟩:=F va z;rw[e1] at q;cases q;cases I
 have as:∀b xs,A b->H' b≠some (.tup xs):=λb xs O e=>by obtain⟨u,q,J,I⟩:=F b O;rw[e] at q;cases q;cases I
 have np:¬ NP (kO L.d an):=zsc g6;have a0:zA H1 H':=λb u e n=>s b u e λz=>by subst z;rw[B] at e;cases e;show np n
 show k _ m _ H' r #[va,o,ys,BA,zw ap e1,zb4 as (uq _) e2] #[g.st.trans a0,?_,?_] λz=>by cases z
 have hp:=g.pn.1;split at hp;trivial;show#[Pen.but hp.1 (λ_ z=>by rw[B] at z;cases z) (λ_ _ z=>by rw[B] at z;cases z) s,hp.2];rw[U];show G'.sm λb u e n=>zw (λz=>?_) e;obtain⟨u',q,J,I⟩:=F b z;rw[e] at q;cases q;rcases n with n | n;rw[show imm u=false from I] at n;cases n;show n J]
def mFnL (k:Nat)(P:Aa)(w:Ab)(C:Addr)(F:PN->AU->Mo W)(Pn:PN)(dv:AU)(I O:AC):AD:=λD n R=>Pn.J=J0/\I D n λws1 U=>∃rm bk hs B,ws1++dv=[.d (stD rm),.d (xV bk),B]/\(B = .d (stD hs)\/hs=[]/\B = .d .non)/\RoomOk rm/\xR rm bk/\
 O D U λq Y=>q.length+1=k/\q.all W.isD=true/\∀L:LdI,L.P=P->L.w=w->L.C=C->L.rm=rm->L.bk=bk->L.hs=hs->F #[Pn.pn,ldJ L] (.pen L.a::q) Y R
def zs7(ap:∀A H,zbJ A H dv dvs)(r1:RA Pn M t1 f1)(r2:RA Pn M t2 f2) :
  RE Pn M fr (zey (spV k fr F) [] E0 (zod P w (zbG (ztv C (zev C) dvs E' t1) t2))) (mFnL k P w C F Pn dv f1 f2):=#[by
 rintro A G H D n Q R E Pp ⟨hJ,hf⟩ kk;show r1.run A G H D n _ _ E Pp hf ?_;rintro ws1 m1 J H1 ⟨rm,bk,hs,v3,B,as,hR,hB,O⟩ b1 g1 x dx nx U Y;have E1:=E.stay g1.st
 have bb:zbJ A H1 (ws1++dv) (J++dvs):=by
  clear B O
  induction ws1 generalizing J with
  | nil=>cases b1;show ap A H1
  | cons w0 ws1 ih=>obtain⟨v,r,rfl,q1,q2⟩:=b1;show#[v,_,BA,q1,ih _ q2]
 rw[B] at bb;obtain⟨y1,y2,y3,ev,q1,q2,q3⟩:=zwt bb;rw[ev];have s1:yZ H1 (upd (upd H1 dx (.own x)) x (.ins C dx [])):=λb o e=>by rw[zf (zc e nx),zf (zc e U)];show e
 show#[x,dx,y1,y2,y3,BA,zh,λd H2 nd h1 h2 Z=>#[BA,?_]];have ac:x≠d:=λe=>by rw[<- e,zh] at nd;cases nd
 have s2:yZ H1 H2:=λb o e=>Z b o (s1 b o e) (zc e nx);have a0:H2 dx=some (.own x):=Z _ _ (by rw[zf Y,zh]) Y;have ad:H1 d=none:=s1.free nd;have E2:=E1.stay (zA.same s2);show r2.run A G H2 D m1 _ _ E2 (g1.pn.same s2) O ?_;rintro a1 m2 a2 H3 ⟨hk,a3,hF⟩ b2 g2;have z1:H3 x=some (.ins C dx (ldF y1 y2 y3 d)):=g2.st _ _ h1 λk q=>by cases q
 have z2:H3 d=some (.dT []):=g2.st _ _ h2 λk q=>by cases q
 have z3:H3 dx=some (.own x):=g2.st _ _ a0 λk q=>by cases q
 show#[d,[],z2,λob BG hh=>?_];have E3:=E2.stay g2.st;have ag:¬ A d:=E1.new ad;have I:∀b o,H3 b=some o->b≠d->upd H3 d (kO d ob) b=some o:=λb o e n=>by rw[zf n];show e
 have s5:∀b o,ya A H3 b=some o->(∀BC,o≠.dT BC)->ya A (upd H3 d (kO d ob)) b=some o:=λb o e n=>by obtain⟨B,e2⟩:=zJ.mp e;show zw B (I b o e2 λz=>by rw[z,z2] at e2;cases e2;show n _ BA)
 have an:zA H1 H3:=(zA.same s2).trans g2.st;have sH:zA H (upd H3 d (kO d ob)):=λb o e np=>by have B:=g1.st b o e np;show I b o (an b o B np) λz=>by rw[z,ad] at B;cases B
 have up:∀ {x:Dt} {v:V},Val A H1 (.d x) v->Is (ya A (upd H3 d (kO d ob))) x v:=λh=>ze7 s5 (Val.is (h.stay an))
 have BF:LdG #[P,w,C,x,dx,d,rm,bk,hs] (ya A (upd H3 d (kO d ob))):=by
  show#[#[y1,y2,y3,ob,[],zw (E1.new nx) (I _ _ z1 ac),zw (E1.new U) (I _ _ z3 λz=>?_),up q1,up q2,?_,zw ag zh,hh,?_,λq z=>by cases z],hR,hB];have z:dx=d:=z;rw[z,z2] at z3;cases z3;rcases as with rfl | ⟨rfl,rfl⟩;obtain⟨p,ys,rfl,i1,i2⟩:=up q3;obtain rfl:=i2.of_ints;show .inr #[p,BA,i1];show .inl #[up q3,BA];obtain⟨u1,u2,us,u3,u4⟩:=BG;cases u3;show#[u1,u2,[],.nil,u4]
 change spV k fr F ((V.ref x::a2)++[]) _ Q E0;rw[cB];show#[#[Pn.pn,ldJ #[P,w,C,x,dx,d,rm,bk,hs]],A,.pen x::a1,m2,R,λa ha=>?_,#[_,_,BA,BA,zhP s5 a3 b2],hk,#[?_,BF],hF _ BA BA BA BA BA BA,λw' m' v H' h1 h2 Z h4=>kk w' m' v H' h1 h2 #[sH.trans Z.st,Z.pn.1,by rw[hJ];trivial] λz=>(h4 z).back sH];obtain⟨o,i1,i2⟩:=E3.al a ha;show#[o,I a o i1 (λz=>ag (z ▸ ha)),i2];have hp:=g2.pn.1;change match Pn.pn with | none=>True | some (p,c,ns)=>Pen _ p c ns m2/\(∀r,ns=0::r->¬ A c)/\¬ A p
 generalize Pn.pn=o at hp ⊢;rcases o with _ | ⟨p,c,ns⟩;trivial;show#[Pen.but hp.1 (λ_ z=>by rw[z2] at z;cases z) (λ_ _ z=>by rw[z2] at z;cases z) I,hp.2]]
end
def ym (s:Stmt)(i:Nat):Stmt:=match s with
 | .ClassDef (body:=b) ..=>b.getD i (.Pass #[0,0,0,0])
 | _=>.Pass #[0,0,0,0]
structure LdT (K:AH)(mg:AI)(s:Stmt)(C fI fA:Addr)(dI dA:Ac):Prop where
 c:LdC K C
 mM:Mk K C fI
 me:Meth K C "after" fA
 m:mg "Leads" = some (.ref C)
 FI:FunD K "__init__" "Leads.__init__" (ym s 0) fI dI
 FA:Fun K "after" "Leads.after" (ym s 1) fA dA
 b:zal K dI [Ai,Aj,Ak,Am] []
 bd:zal K dI [Ai,Aj,Ak,Am] [Value.none]
 bA:zal K dA [Ai,An] []
def Cm(X:K.In h)(BF:h.Ns mainGlobals mg)(a:PySem.W.nsIn K mainGlobals "Leads" = some (some (.ref C)))(a1:PySem.W.findIn K (.ref C) "__init__" = some (some (.ref Z)))(i1:PySem.W.isFn K (.ref Z)=true)(l1:K.lookup Z=some #[as,a3,.func (PySem.W.fnOf "__init__" "Leads.__init__" (z9 (ym st 0)) (zB (ym st 0)) (zd (ym st 0)) (.ref T) B F I O q J),a7])(c1:PySem.W.codeIn K q "Leads.__init__" = true)(k1:PySem.W.keepIn K (.ref Z)=true)(t:K.lookup T=some #[ot,a5,.seq Y n3,bb])(a2:PySem.W.findIn K (.ref C) "after" = some (some (.ref f2)))(i2:PySem.W.isFn K (.ref f2)=true)(l2:K.lookup f2=some #[a0,a4,.func (PySem.W.fnOf "after" "Leads.after" (z9 (ym st 1)) (zB (ym st 1)) (zd (ym st 1)) .none ac ad ag ap U al),ba])(c2:PySem.W.codeIn K U "Leads.after" = true)(k2:PySem.W.keepIn K (.ref f2)=true)(pg:PySem.W.plainGet K C Str.empty=true)(hd:PySem.W.hasDictIn K C=true)(po:PySem.W.plainOver K C=true)(sa:PySem.W.findIn K (.ref C) "__setattr__" = some (some (.builtin "object.__setattr__")))(mk:PySem.W.makesIn K C=true)(kc:PySem.W.keepIn K (.ref C)=true)(n1:PySem.W.findIn K (.ref C) "room" = some none)(n2:PySem.W.findIn K (.ref C) "wishes" = some none)(n3:PySem.W.findIn K (.ref C) "held" = some none)(n4:PySem.W.findIn K (.ref C) "known" = some none)(b:∀us:AN,(us++[]).length=4->∃k:Option AK->Sem (List (Str×Value)),bindArgs (PySem.W.fnOf "__init__" "Leads.__init__" (z9 (ym st 0)) (zB (ym st 0)) (zd (ym st 0)) (.ref T) B F I O q J) #[us,[]]=seqItems? (.ref T) >>= k/\k (some Y)=pure (([Ai,Aj,Ak,Am]:AM).zip (us++[])))(e:∀us:AN,(us++[Value.none]).length=4->∃k:Option AK->Sem (List (Str×Value)),bindArgs (PySem.W.fnOf "__init__" "Leads.__init__" (z9 (ym st 0)) (zB (ym st 0)) (zd (ym st 0)) (.ref T) B F I O q J) #[us,[]]=seqItems? (.ref T) >>= k/\k (some Y)=pure (([Ai,Aj,Ak,Am]:AM).zip (us++[Value.none])))(bA:∀ (kV dc pm:Value) (an:Option Addr) (cd ct:Value) (us:AN),us.length=2->bindArgs (PySem.W.fnOf "after" "Leads.after" (z9 (ym st 1)) (zB (ym st 1)) (zd (ym st 1)) .none kV dc pm an cd ct) #[us,[]]=pure (([Ai,An]:AM).zip us)) :
  LdT K mg st C Z f2 (PySem.W.fnOf "__init__" "Leads.__init__" (z9 (ym st 0)) (zB (ym st 0)) (zd (ym st 0)) (.ref T) B F I O q J) (PySem.W.fnOf "after" "Leads.after" (z9 (ym st 1)) (zB (ym st 1)) (zd (ym st 1)) .none ac ad ag ap U al):=
 #[#[#[pg,hd,po,sa],n1,n2,n3,n4],#[mk,a1,i1,kc],#[a2,i2,k2],PySem.W.mg_of X BF a,zjr l1 c1 k1,zha l2 c2 k2,zgX l1 BA t b,zgX l1 BA t e,(zha l2 c2 k2).binds bA]
section
variable {X:Cx}{Pn:PN}{M:AR}{fr:Bool}{s:Stmt}{C fI fA:Addr}{dI dA:Ac}
def zgn {x:Str}{i j kk:Nat}{p apos pos:Pos}{e:Expr}{fs:AC}{pl:Sem Bool}(P:Aa)(w:Ab)(hP:X.prog=P)(hw:X.w=w)(T:LdT X.K X.mg s C fI fA dI dA)(BF:FnOk X.prog X.w X.K X.mg X.base CX0 j fA dA [Ai,An] (zeu P w C))(hr:Room kk X.A)(hv:QE X (.Name x p) (za6 i))(hi:i∉M)(ha:JA X Pn M [e] fs)(hjk:j<=kk:=by ext)
  (hst:starEach [e] X.env=(false,eval e X.env)::starEach [] X.env:=by rfl) (hpl:(backTo pos (starEach [] X.env)).any (·.1)=false:=by rfl)
  (ht:eval (.Call (.Attribute (.Name x p) "after" apos) [e] [] pos) X.env=(do
   let ov <- eval (.Name x p) X.env
   standAt apos.atName
   let (f,first) <- holding [ov] (getMethod ov "after" pl)
   callWith pos f first (backTo pos (starEach [e] X.env)) (backToKw pos (keywordEach [] X.env))):=by rfl) :
  JE X Pn M false (.Call (.Attribute (.Name x p) "after" apos) [e] [] pos) (znJ P w C Pn i fs):=by
 obtain⟨t,q,r⟩:=ha.ex;show#[_,#[zpN hv.run T.c.cl T.me BF (hr.mono hjk) T.bA .nil zmv q.run hst hpl ht],zmR hi r]
def zl0{x:Str}{st:Stmt}{ps:AM}{f:Addr}{fd:Ac}{F:PN->AU->Mo W}{dv:AU}{dvs:AT}{p p1 pos B:Pos}{q es:AO}{f1 f2:AC}(P:Aa)(w:Ab)(hP:X.prog=P)(hw:X.w=w)(T:LdT X.K X.mg s C fI fA dI dA)(BG:Dfn X.K X.mg x st ps f fd)(GI:FnOk X.prog X.w X.K X.mg X.base CX0 jI fI dI [Ai,Aj,Ak,Am] (zev C))(BF:FnOk X.prog X.w X.K X.mg X.base CX0 j f fd ps (spV k fr F))(hr:Room O X.A)(hb:zal X.K dI [Ai,Aj,Ak,Am] ds)(hd:yb dvs ds)(U:∀A H,zbJ A H dv dvs)(h1:JA X Pn M (I::q) f1)(h2:JA X Pn M es f2)(Y:j<=O:=by ext)(Z:jI+1<=O:=by ext)(hg:Gl X x:=by rfl)(ac:Ah x:=by ext)(ad:Gl X "Leads" := by rfl)(ag:starEach (I::q) X.env=(false,eval I X.env)::starEach q X.env:=by rfl)(J:(backTo B (starEach q X.env)).any (·.1)=false:=by rfl)(he:starEach (.Call (.Name "Leads" p1) (I::q) [] B::es) X.env=(false,eval (.Call (.Name "Leads" p1) (I::q) [] B) X.env)::starEach es X.env:=by rfl)(al:(backTo pos (starEach es X.env)).any (·.1)=false:=by rfl) :
  JE X Pn M fr (.Call (.Name x p) (.Call (.Name "Leads" p1) (I::q) [] B::es) [] pos) (mFnL k P w C F Pn dv f1 f2):=by
 subst hP hw;obtain⟨t1,q1,r1⟩:=h1.ex;obtain⟨t2,q2,r2⟩:=h2.ex;show#[_,#[zsx BG BF hr (zpE (zbg (zpM T.mM GI (hr.mono Z) ad T.m hb hd zmv q1.run (by ext) ag J) q2.run he)) Y hg ac he al],zs7 U r1 r2]
def zpl (C:Addr)(Pn:PN)(i:Nat):AD:=λD n R=>∃L,Pn.J=ldJ L/\L.C=C/\D[i]?=some (some (.pen L.a))/\R (.d (stD L.rm)) n
def zl2(I:LdC X.K C)(q:QE X (.Name x p) (za6 i))(hi:i∉M)(J:attributeBase (.Name x p) "room" X.env (eval (.Name x p) X.env)=eval (.Name x p) X.env:=by rfl):JE X Pn M false (.Attribute (.Name x p) "room" pos) (zpl C Pn i):=by
 show#[_,#[zct q.run J],#[?_]];rintro A G H D n Q R E Pp ⟨L,O,rfl,B,r⟩ k;obtain⟨v,q,F,_⟩:=E.val i _ B;obtain rfl:v = .ref L.a:=F hi;have G0:LdG L (ya A H):=by have:=Pp.2;rw[O] at this;show this
 obtain⟨ra,U,xs,Y,ob,ks,h1,h2,Z⟩:=G0.at;show#[_,q,L.a,L.C,L.dx,_,_,BA,zn _ _ h1,I.cl,I.n1,zhk _ _ _ _,k _ n _ H r (Val.of #[ra,_,BA,h2,IsL.ints]) (Go.refl Pp) λz=>by cases z]
end
end L3
namespace L2
open PyProof.Rows PySem.SeqAt
def okT:Nat->Dt->Bool
 | _,.non=>true
 | _,.int _=>true
 | _,.bl _=>true
 | _,.str x=>PyData.strOk x
 | n+1,.tup l=>l.all (okT n)
 | n+1,.lst l=>l.all (okT n)
 | _,_=>false
abbrev Dt.py (d:Dt):PyData:=PySem.W.kqdP d.toW
section
variable {P:Aa}{w:Ab}{H:Hp}{h:Heap}
variable {X:Cx}
end
end L2
namespace L3
open L2
section
variable {X:Cx}{Pn:PN}{M:AR}{e:Expr}{f:AD}{pos p:Pos}
abbrev dNeT:W->W->Mo W:=λx y n Q=>onD x λd=>onD y λe=>d=e/\okT 8 d=true/\Q (.d (.bl false)) n
abbrev dNiT:W->W->Mo W:=λx y n Q=>onD x λd=>onL y λds=>okT 8 d=true/\(Dt.lst ds).eqOk/\∀b:Bool,(d∈ds->b=true)->(b=true->∃e∈ds,PyData.eqv e.py d.py=true)->Q (.d (.bl (!b))) n
abbrev zt8 (f:AD):AD:=λD n Q=>f D n λx q=>onL x λl=>∃BE:AF,l=BE.map stD/\(∀ks:AF,ks.Nodup->(∀z∈ks,z∈BE)->ks.length<300)/\∀ks:AF,ks.Nodup->(∀st,st∈ks↔st∈BE)->Q (.d (.int (ks.length:Nat))) q
end
end L3
namespace L2
open PyProof.Rows
section
variable {X:Cx}
end
end L2
namespace L3
open L2
section
variable {Pn:PN}
abbrev dMaxT:AU->Mo W:=λq n Q=>on1 q λx=>∃ns:AG,x = .d (stD ns)/\ns≠[]/\∀m,m∈ns->(∀x∈ns,x<=m)->Q (.d (.int m)) n
end
end L3
namespace L2
open PyProof.Rows
end L2
namespace L3
open L2
section
variable {X:Cx}{Pn:PN}{M S:AR}{fr:Bool}{a:Expr}{pos p:Pos}
def W.nl:W->Prop
 | .d x=>x.noL=true
 | .pen _=>True
 | _=>False
def Fg:Ev->Ev->Prop
 | [],q=>q=[]
 | o::D,q=>∃o' r,q=o'::r/\(o'=none\/(o'=o/\∀w,o=some w->w.nl))/\Fg D r
abbrev mInClr (i:Nat):Ms:=λD n k=>∃F l st q,D[i]?=some (some (.d (.tup [F,.lst l])))/\F.noL=true/\stD st∈l/\Fg D q/\onP q i (.d (.tup [F,.lst []])) λB=>k.nx B n
end
end L3
namespace L2
open PyProof.Rows PySem.W PySem.SeqAt
section
variable {X:Cx}
end
end L2
namespace L3
open L2
section
variable {X:Cx}{Pn:PN}{M S:AR}{fr fr':Bool}{e:Expr}{f:AD}{pos:Pos}
abbrev W.pl:W->W
 | .ad _ x=>.d x
 | w=>w
abbrev mVarA (i:Nat):AD:=λD n Q=>onV D i λw=>Q w.pl n
abbrev mSetA (i:Nat) (f:AD):Ms:=λD n k=>f D n λw m=>match w with
 | .d (.lst l)=>Dt.noLs l=true/\∀a,onP D i (.ad a (.lst l)) λq=>k.nx q m
 | w=>onP D i w λq=>k.nx q m
def NewA (q:Addr)(D:Ev):Prop:=∀ (j:Nat) (a:Addr) (l:AS),D[j]?=some (some (W.ad a (.lst l)))->a≠q
abbrev mSetW (i:Nat) (f:AD):Ms:=λD n k=>∃ q,Fg D q/\f q n λw m=>match w with
 | .d (.tup [F,.lst l])=>F.noL=true/\Dt.noLs l=true/\∀I,NewA I D->onP D i (.ad I (.tup [F,.lst l])) λB=>k.nx B m
 | _=>False
def W.nlA (q:Addr):W->Prop
 | .d x=>x.noL=true
 | .pen _=>True
 | .ad a _=>a≠q
 | _=>False
def FgA (B:Addr):Ev->Ev->Prop
 | [],q=>q=[]
 | o::D,q=>∃o' r,q=o'::r/\(o'=none\/(o'=o/\∀w,o=some w->w.nlA B))/\FgA B D r
abbrev mInApp (i:Nat):Ms:=λD n k=>onV D i λw=>match w with
 | .ad B (.tup [_,.lst l])=>l.length<10000/\∃ q,FgA B D q/\k.nx q n
 | _=>False
abbrev mRem (i:Nat) (fk:AD):Ms:=λD n k=>onV D i λv=>onL v λl=>fk D n λy m=>onI y λj=>∃ns:AG,l=ns.map Dt.int/\j∈ns/\onP D i (.d (lsD (ns.erase j))) λq=>k.nx q m
end
end L3
namespace L3
open L2
section
variable {X:Cx}{Pn:PN}{M S:AR}{fr fr':Bool}{e:Expr}{f:AD}{pos:Pos}
def One (x:Dt):Prop:=∃q l,x = .tup (q++[.lst l])/\Dt.noLs q=true/\Dt.noLs l=true
def NewB (q:Addr)(D:Ev):Prop:=∀ (j:Nat) (a:Addr) (x:Dt),D[j]?=some (some (W.ad a x))->One x->a≠q
abbrev mSetB (i:Nat) (f:AD):Ms:=λD n k=>∃ B,Fg D B/\f B n λw m=>onD w λx=>
 (x.noL=true/\onP D i (.d x) λq=>k.nx q m)\/(One x/\∀F,NewB F D->onP D i (.ad F x) λq=>k.nx q m)
abbrev zuh (i:Nat):Ms:=λD n k=>onV D i λw=>match w with
 | .ad F x=>One x/\(∀B l,x = .tup (B++[.lst l])->l.length<10000)/\∃ q,FgA F D q/\k.nx q n
 | _=>False
abbrev dGivA (i:Nat) (F:AU->Mo W) (I J:AD):Ms:=λD n k=>I D n λw1 O=>J D O λw2 U=>onV D i λw=>match w with
 | .ad Y (.lst l)=>(w1.nl/\w2.nl/\Dt.noLs l=true)/\∃ q,FgA Y D q/\F [w1,w2,.d (.lst l)] U λw' Z=>match w' with
  | .d (.lst l')=>Dt.noLs l'=true/\∀a',onP q i (.ad a' (.lst l')) λB=>k.nx B Z
  | _=>False
 | _=>False
end
end L3
namespace L2
open PyProof.Rows PySem.W PySem.Calls
section
variable {X:Cx}{pos:Pos}
def ztq (tk tv:TE):TE:=λG H Q=>∀p,H p=none->zhN [(tk,tv)] G (upd H p (.dT [])) λps H2=>∃x y H3,ps=[(x,y)]/\zeE H2 p x y H3/\Q (.ref p) H3
def zmI{tk tv:TE}(J:X.A.units+1<cLine)(O:QE X k tk)(U:QE X v tv):QE X (.Dict [some k] [v] pos) (ztq tk tv):=#[by
 intro BB s G H Q I q;have I1:=I.laid (a:=s.heap.objs.size) (o:=.dT []) (h':=s.heap.push { cls:=.type "dict",data:=.dict #v[] }) (t':=s.toks) (λ_ _ q=>ae _ q) (ai _) (zg6 s.heap I.big);rw[arm_eval_Dict,zip_pairTrees [some k] [v] X.env pos rfl rfl,dictDisplay_pairs _ (by simp[pairTrees]) (by simp[pairTrees])];show aa (c8 (aa ?_));unfold subDict;show aa (wpAny_alloc (aa (bn ?_)));rw[if_pos (by simp[pairTrees])];show aa (thn (zhz (pos:=pos) O.run U.run zkv BB _ G _ _ I1 (q _ (I.hok.fresh (ai s.heap.objs.size)))) ?_);rintro vs s2 ⟨ps,H2,I2,B,x,y,H3,rfl,Y,Z⟩
 cases B with
 | cons F r2=>
  cases r2;show bn ?_;rw[en];show aa (aa (aa (zi8 J I2 Y F.1 F.2 λs' I'=>af ?_)));dsimp only;rw[List.forIn_nil];show af (af (af (af #[.ref s.heap.objs.size,_,I',BA,Z])))]
def ztr (te:TE):TE:=λG H Q=>te G H λx H1=>∃a ks,H1 a=some (dtO ks)/\∀ob,Q x (upd H1 a (.frz ob (dtO ks)))
def zmK(h:QE X e te):QE X e (ztr te):=#[by
 intro BB s G H Q I q;show thn (h.run BB s G H _ I q) ?_;rintro v O ⟨x,H1,I1,B,a,ks,F,J⟩;obtain⟨ob,I2⟩:=I1.frz F;show#[_,_,I2,B,J ob]]
def zn3:AT->Hp->VK->Prop:=λxs H Q=>∃ (a:Addr) (BC:List (AG×V)) (m:Nat),xs=[.ref a]/\Rd H a (dtO BC)/\1<=m/\(∀q∈BC,q.1.length=m)/\
 ∀ (ys:AT) (B:AF),IsL H (B.map stD) ys->B.Perm (BC.map (·.1))->(B.Pairwise λa b=>HT.lexLt a b=true)->New H (.lst ys) Q
def zg3 (hc:X.calm=true):CallQ X (.builtin "sorted") zn3:=#[by
 intro BB s G H xs us Q I r h;obtain⟨a,BC,m,rfl,hH,a4,hm,q⟩:=h;obtain⟨u,rfl,ru⟩:=zbI r;cases ru;obtain⟨lo,es,ep,xs,S,e1,ag,e3,hz,a5⟩:=zlH I hH;obtain⟨m0,al,_⟩:=id I.loc
 have hsz:es.size=xs.length:=by
  have:=congrArg List.length e3;grind
 have J:xs.length=BC.length:=by
  have:=congrArg List.length e1;grind
 have a7:∀b,(#[#v[],{}]:Heap).get? b=none:=λb=>by
  cases e:(#[#v[],{}]:Heap).get? b with
  | none=>rfl
  | some o'=>
   have:=ax e;simp at this
 show kdu_sorted (h₀:=(#[#v[],{}]:Heap)) (L:=X.env.locals) (m:=m0) (news:=zbq s.heap X.env.locals) (zlC (es:=es) a ep lo) (I.ok.hd hc) #[al,λb o e=>(by right),aL _] (λp hp=>?_) S (by rw[hsz,J];show hz) λBG h' an vs F N ba hl hP=>?_;obtain⟨b,o⟩:=p;have:=z5.mp hp;right
 have ap:vs=xs.map λq=>Value.ref q.2:=by
  rw[<- e3];show dS (by right) λj h1 h2=>?_;obtain⟨e,he,hv⟩:=hP j vs[j] (ak h1);rw[hv,dB];rw[zbx] at he;rw[ab] at h2;right
 have kp:∀b o,b≠X.env.locals->s.heap.get? b=some o->h'.get? b=some o:=λb o hb e=>(N (b,o) (av _ (z5.mpr #[hb,e]))).1;have as:BG≠X.env.locals:=(N (BG,_) ao).2.1
 have bb:s.heap.get? BG=none:=by
  cases e:s.heap.get? BG with
  | none=>rfl
  | some o=>show absurd (ba (BG,o) (z5.mpr #[as,e])) (cZ _)
 have O:H BG=none:=by
  cases e:H BG with
  | none=>rfl
  | some o=>
   obtain⟨o',a0⟩:=zci (I.hok BG o e);grind
 have rows:Paired (zcO h' X.env.locals BG) vs (xs.map (·.1)):=by
  rw[ap]
  have bc:∀ (l:AE),(∀q∈l,H q.2=some (.tup (q.1.map V.int)))->Paired (zcO h' X.env.locals BG) (l.map λq=>Value.ref q.2) (l.map (·.1)):=by
   intro l
   induction l with
   | nil=>intro _;show .nil
   | cons q l ih=>
    intro hl;have U:=hl q ao;obtain⟨items,rv,⟨o',a0,bd⟩,_⟩:=I.tuple (.of U);have a1:=zc U I.free;show .cons #[q.2,items,BA,#[o',kp _ _ a1 a0,bd],rv,a1,zc U O] (ih λr hr=>hl r (av _ hr))
  show bc xs ag
 have be:∀st∈xs.map (·.1),st.length=m:=λst a2=>by rw[e1] at a2;obtain⟨q,U,rfl⟩:=au.mp a2;show hm q U
 show zhn (s:={ s with heap:=h',toks:=an }) F.ns as (N (BG,_) ao).1 rows (by rw[ab,J];show hz) a4 be (by rw[e1];show a5) λbx c p hp Y bk bl a3=>?_;have Z:∀i∈p,i<xs.length:=λi hi=>by have:=aM.mp ((hp.mem_iff).mp hi);rwa[ab] at this
 have B:(p.map λi=>(xs.map (·.1)).getD i [])=(p.map λi=>xs.getD i ([],0)).map (·.1):=by rw[aI];show bP λi hi=>by have h1:=Z i hi;simp[h1]
 have ac:(p.map λi=>vs.getD i .none)=(p.map λi=>xs.getD i ([],0)).map λq=>Value.ref q.2:=by rw[aI,ap];show bP λi hi=>by have h1:=Z i hi;simp[h1]
 have bo:∀q∈(p.map λi=>xs.getD i ([],0)),H q.2=some (.tup (q.1.map V.int)):=λq U=>by
  obtain⟨i,hi,rfl⟩:=au.mp U;have h1:=Z i hi;have:xs.getD i ([],0)=xs[i]:=by simp[h1]
  rw[this];show ag _ (bD h1)
 rw[ac] at a3;have bs:=Y;rw[B] at Y;have ad:p.length=xs.length:=by rw[hp.length_eq,aG,ab]
 have I':=zgj I al (ys:=(p.map λi=>xs.getD i ([],0)).map λq=>V.ref q.2) (λb o hb e=>bk b o hb (by grind) (kp b o hb e)) bl bb O a3 (zcN _) (by rw[ab,ab,ad,J];show hz) an;show#[.ref BG,_,I',BA,(q _ ((p.map λi=>xs.getD i ([],0)).map (·.1)) (zdK bo) ?_ Y).at O];rw[<- e1,<- B];have:=hp.map λi=>(xs.map (·.1)).getD i [];rwa[zbh] at this]
end
end L2
namespace L3
open L2
section
variable {X:Cx}{Pn:PN}{M S:AR}{fr fr':Bool}{pos p:Pos}{e a b c:Expr}{f fa fb fc:AD}
abbrev zrr (fk fv:AD):AD:=λD n Q=>fk D n λy m=>fv D m λx q=>∃st,y = .d (stD st)/\onD x λd=>Q (.dt [(st,d)]) q
def zo0 (hu:X.A.units+1<cLine)(hk:JE X Pn M fr a fa)(hv:JE X Pn M fr' b fb):JE X Pn M true (.Dict [some a] [b] pos) (zrr fa fb):=by
 obtain⟨ta,qa,ra⟩:=hk.ex;obtain⟨tb,qb,rb⟩:=hv.ex;show#[_,zmI hu qa qb,#[λA G H D n Q R E P hf k=>λp Y=>?_]];have S:=yZ.upd (o:=.dT []) Y;have E1:=E.stay (zA.same S);show ra.run A G _ D n _ _ E1 (P.same S) hf λw1 m1 v1 H1 r1 V1 Z _=>?_;show rb.run A G H1 D m1 _ _ (E1.stay Z.st) Z.pn r1 λw2 m2 U H2 I V2 g2 _=>?_;obtain⟨st,rfl,I⟩:=I;rw[xb] at I;obtain⟨d,rfl,I⟩:=I;have B:H2 p=some (dtO []):=g2.st _ _ (Z.st _ _ zh (λ_ q=>by cases q)) (λ_ q=>by cases q);obtain⟨bd,xs,rfl,ac,hx⟩:=(V1.stay g2.st).is;obtain rfl:=hx.of_ints;have nA:=E.new Y;show#[_,_,_,BA,zeE.i (BC:=[]) (v:=U) B (zn _ _ ac) (by change 0<sizeLine;decide),?_];show k _ m2 _ _ I #[p,[(st,U)],BA,zw nA zh,U,[],BA,ze7 (λb o J O=>?_) V2.is,BA] #[λb o J O=>?_,zhy g2.pn B] λ_=>#[p,BA,.of Y,p,[(st,U)],BA,zh,U,[],BA,ze7 (λb o J O=>?_) V2.is,BA];obtain⟨z1,F⟩:=zJ.mp J;show zw z1 (by rw[zf λy=>by rw[y,B] at F;cases F;show O _ rfl];show F);rw[zf (zc J Y)];show g2.st _ _ (Z.st _ _ (S _ _ J) O) O;obtain⟨z1,F⟩:=zJ.mp J;have hb:b≠p:=λy=>by rw[y,B] at F;cases F;show O _ BA
 show zw (λy=>y.elim z1 hb) (by rw[zf hb];show F)
abbrev zuR (fk fd:AD):AD:=λD n Q=>fk D n λy q=>fd D q λx B=>onE x λBC=>∃st,y = .d (stD st)/\Q (.d (.bl (!(xq BC st).isSome))) B
def zo7 (O:X.A.units+1<cLine)(U:JB X Pn M a fa)(Y:JB X Pn M b fb)(h1:behindInMarks .NotIn b=false:=by first | show zdY _ (by ext) (by ext) | rfl):JT X Pn M (.Compare a [.NotIn] [b] pos) (zuW (zuR fa fb)):=by
 obtain⟨ta,Z,ra⟩:=U.ex;obtain⟨tb,qb,rb⟩:=Y.ex;show#[_,zhD (zkA O Z qb) h1,zl ▸ zqA (RE.rb (fr:=false) #[λA G H D n Q R E P hf k=>?_])];show ra.run A G H D n _ _ E P hf λw1 m1 v1 H1 r1 b1 q=>?_;show rb.run A G H1 D m1 _ _ (E.stay q.st) q.pn r1 λw2 m2 v2 H2 I b2 g2=>?_;rw[zkk] at I;obtain⟨BC,rfl,st,rfl,r⟩:=I;obtain⟨ad,ks,rfl,B,J⟩:=b2;obtain⟨bd,xs,rfl,F,hx⟩:=uh (b1.stay g2.st);obtain rfl:=hx.of_ints;show#[ad,xK ks st,BA,zbv.i B F,k _ m2 _ H2 r (Val.of ?_) (q.trans g2) λz=>by cases z]
 cases e:xq BC st with
 | none=>rw[(J.look (k:=st)).1 e];rfl
 | some d=>obtain⟨v,h1,h2⟩:=(J.look (k:=st)).2 d e;rw[h1];rfl
abbrev znw:AU->Mo W:=λF n Q=>on1 F λx=>onZ x λBC=>∃m:Nat,1<=m/\(∀q∈BC,q.1.length=m)/\∀B:AF,B.Perm (BC.map (·.1))->(B.Pairwise λa b=>HT.lexLt a b=true)->Q (.d (uK B)) n
def zlb:FL Pn true zn3 znw:=#[λA H xs ws n Q R J b P h k=>by
 simp only[znw,uV,znO] at h;obtain⟨x,rfl,BC,rfl,m,h1,Z,h⟩:=h;obtain⟨v,rfl,bb⟩:=zbW b;obtain⟨a,ks,rfl,ha,O⟩:=zns bb;show#[a,ks,m,BA,ha,h1,λq hq=>?_,λI B hy U hs p H' Y g S=>?_];have:q.1∈ks.map (·.1):=au.mpr #[q,hq,BA];rw[O.keys] at this;obtain⟨q',h2,h3⟩:=au.mp this;rw[<- h3];show Z q' h2;rw[O.keys] at U;have F:IsL (ya A H) (B.map stD) I:=zb4 J.noT (uq B) hy;show k _ n _ H' (h B U hs) (uA F (zA.same S) (J.new Y) g) (Go.same P S) λz=>uj F S Y g]
abbrev zry (i:Nat) (f:AD):Ms:=λD n k=>onV D i λx=>onE x λBC=>f D n λw m=>onD w λd=>k.rt (.tz BC d) m
def zjN (i:Nat){x:Str}{x1}{q:Pos}(he:JE X Pn M fr' e f)(hi:i∈M:=by ext)(hN:X.N[i]?=some x:=by rfl)(hv:Vis X.env.scope x:=by fail"v")(hd:Ah x:=by ext)
  (Z:(x==("__classdict__" : Str))=false:=by ext) {pos':Pos} (h1:starEach [.Name x p,e] X.env=(false,eval (.Name x p) X.env)::starEach [e] X.env:=by rfl) (h2:starEach [e] X.env=(false,eval e X.env)::starEach [] X.env:=by rfl) :
  JS X Pn S M false (.Return (some (.Tuple [.Name x p,e] x1 q)) pos') (zry i f):=by
 obtain⟨te,qe,re⟩:=he.ex;show#[_,u5 (zmK (zej (zL (qv i hN hv hd Z) (zL qe yM h2) h1))),#[λB A G H D n k BG a kk J=>?_]];unfold zry at J;rw[zaw] at J;obtain⟨w2,e2,J⟩:=J;rw[zkk] at J;obtain⟨BC,rfl,J⟩:=J;obtain⟨v2,s1,_,s3⟩:=a.env.val i _ e2;obtain⟨F,rfl,hA,hb,_⟩:=s3 hi;have I:=a.mine i _ F hi e2 s1
 have hn:¬ B.A0 F:=λz=>by
  rcases I with I | I;obtain⟨o,o1,o2,_⟩:=a.frm.al F z;show I o o1 o2;show a.frm.cn F I z
 show#[.ref F,s1,?_];show re.run A G H D n _ _ a.env a.pn J λw m v H' r hV g _=>?_;have U:=a.step g;rw[xb] at r;obtain⟨d,rfl,r⟩:=r;obtain⟨a2,ks,e3,g1,g2⟩:=hb.stay g.st;cases e3;show#[zc7 (show 2<=lim by ext),λp H2 np gp S=>#[F,ks,S _ _ g1,λob=>?_]];have O:=U.step (Go.same U.pn S);have ac:p≠F:=λy=>by rw[y,g1] at np;cases np
 have up:zA (ya A H') (ya B.A0 (L2.upd H2 F (.frz ob (dtO ks)))):=λb o Y _=>by obtain⟨z1,z2⟩:=zJ.mp Y;show zw (λy=>z1 (a.frm.sub b y)) (by rw[zf (show b≠F from λy=>z1 (by rw[y];show hA))];show S _ _ z2)
 show kk.rt (.tz BC d) m _ _ #[p,F,ob,ks,v,BA,zw (λz=>U.env.new np (U.frm.sub p z)) (by rw[zf ac];show gp),zw hn zh,g2.stay up,hV.is.stay up] (λb o Y nb nc=>?_) (zhy (O.pn.less O.frm.sub) (S _ _ g1)) (λz=>by cases z) r
 rw[zf (show b≠F from λy=>by
  subst y;rcases I with I | I;show I o Y nb;show nc I)]
 show O.frm.st b o Y nb nc
abbrev dIxZ:W->W->Mo W:=λx y n Q=>match x with
 | .tz BC d=>match y with
  | .d (.int i)=>match i with
   | .ofNat 0=>Q (.df BC) n
   | .ofNat 1=>Q (.d d) n
   | _=>False
  | _=>False
 | _=>False
def zwc:F2 Pn false (zrf K) dIxZ:=#[λA H x y I J n Q R al O q P h k=>by
 cases I with
 | tz BC d=>
  obtain⟨B,F,ob,ks,z,rfl,h1,h2,U,Y⟩:=O
  cases J with
  | d Z=>
   cases Z with
   | int i=>
    have ei:y = .int i:=q;subst ei
    match i,h with
    | .ofNat 0,h=>show#[B,_,0,.ref F,BA,BA,.inl (.inl (zn _ _ h1)),BA,k _ n _ H h #[F,ob,ks,BA,h2,U] (Go.refl P) λz=>by cases z]
    | .ofNat 1,h=>show#[B,_,1,z,BA,BA,.inl (.inl (zn _ _ h1)),BA,k _ n _ H h (Val.of Y) (Go.refl P) λz=>by cases z]
   | _=>show False.elim h
  | _=>show False.elim h
 | _=>show False.elim h]
abbrev dForP (i:Nat) (F:AU->Mo W) (q B:AD) (mg:W->Ev->(Ev->Prop)->Prop) (fs:Ms):Ms:=λD n k=>q D n λw1 I=>onV D i λx=>onL x λl=>∃l' d,l=l'++[d]/\B (D.set i (some (.d (.lst l')))) I λJ O=>F [w1,.d d,J] O λw m=>onL w λr=>zoJ mg fs (D.set i (some (.d (.lst l')))) k (r.map W.d) m
variable {p1 p2 p3 p4:Pos}{apos cpos:Pos}
abbrev dGetK (fd fk q:AD):AD:=λD n Q=>fd D n λx B=>onK x λBC=>fk D B λy F=>q D F λz I=>onO (zuc y) λk=>onD z λd=>Q (.d ((xq BC k).getD d)) I
def At3.moveO(h:At3 Pn B S M A G H D n)(hi:i∈M)(hj:j∈M)(ap:i∉S)(e:D[j]?=some (some w))(s:G[j]?=some (some (.ref U))):At3 Pn B S M A (G.set i (some (.ref U))) H ((D.set j none).set i (some w)) n:=by
 have O:∀q (u:W),((D.set j none).set i (some w))[q]?=some (some u)->q≠i->q≠j/\D[q]?=some (some u):=λq u F Y=>by
  rw[aw (Ne.symm Y)] at F;by_cases ac:q=j;subst ac;have I:=(ah.mp F).1;rw[bR] at I;rw[aV I] at F;cases F;rw[aw (Ne.symm ac)] at F;show#[ac,F]
 have Z:∀ (u:W) (b:Addr),((D.set j none).set i (some w))[i]?=some (some u)->i<G.length/\u=w:=λu b F=>by have I:=(ah.mp F).1;rw[bR] at I;rw[aV I] at F;rw[bR] at I;show#[by rw[h.env.len];show I,by cases F;rfl]
 obtain⟨v0,s0,_,o0⟩:=h.env.val j w e;rw[s] at s0;cases s0;show#[#[by simp[h.env.len],λq u F=>?_,λq k u u' b Y hk ag e1 e2 s1 s2=>?_,h.env.al],h.frm,h.pn,h.prot,#[λk hk=>?_,h.fix.2],λq u b Y F sq=>?_];by_cases Y:q=i;subst Y;obtain⟨I,rfl⟩:=Z u U F;show#[.ref U,aV I,λz=>absurd hi z,λ_=>o0 hj];obtain⟨_,z⟩:=O q u F Y;rw[aw (Ne.symm Y)];show h.env.val q u z;by_cases J:q=i;subst J;obtain⟨I,rfl⟩:=Z u U e1;rw[aV I] at s1;cases s1;obtain⟨k1,k2⟩:=O k u' e2 (Ne.symm ag);rw[aw ag] at s2;show h.env.dis j k _ u' U hj hk (Ne.symm k1) e k2 s s2;obtain⟨q1,q2⟩:=O q u e1 J;rw[aw (Ne.symm J)] at s1;by_cases an:k=i;subst an;obtain⟨I,rfl⟩:=Z u' U e2;rw[aV I] at s2;cases s2;show h.env.dis q j u _ U Y hj q1 q2 e s1 s;obtain⟨_,k2⟩:=O k u' e2 an;rw[aw (Ne.symm an)] at s2;show h.env.dis q k u u' b Y hk ag q2 k2 s1 s2;rw[aw (show i≠k from λz=>ap (by rw[z];show hk))];show h.fix.1 k hk;by_cases J:q=i;subst J;obtain⟨I,rfl⟩:=Z u U F;rw[aV I] at sq;cases sq;show h.mine j _ U hj e s;rw[aw (Ne.symm J)] at sq;show h.mine q u b Y (O q u F J).2 sq
def zl6(j:Nat){x y:Str}{px O sp:Pos}(Z:X.N.Nodup)(hi:X.N[i]?=some x)(hx:Loc X.env.scope x)(U:j∈M:=by ext)(q:i∈M:=by ext)(F:i∉S:=by ext)(I:X.N[j]?=some y:=by rfl)(hv:Vis X.env.scope y:=by fail"v")(hd:Ah y:=by ext)(J:(y==("__classdict__" : Str))=false:=by ext)(hs:swapsWith (.Name y O) (some (.Name x px)) sp.line X.env=pure false:=by rfl)(hf:X.fn x=true\/X.env.scope.names.lookup x=some .local:=by fail"l"):JS X Pn S M fr (.Assign [.Name x px] (.Name y O) sp) (zpm i j):=by
 show#[_,u6 (i:=i) Z hi hx (qv j I hv hd J) hs hf,#[ ?_]];rintro B A G H D n k BG a kk ⟨w,e,r⟩;obtain⟨v,Y,_,s3⟩:=a.env.val j w e;obtain⟨ad,rfl,hA,_,_⟩:=s3 U;show#[.ref ad,Y,kk.nx _ _ H _ n (a.moveO q U F e Y) r]
end
end L3
namespace L2
open PyProof.Rows PySem.W PySem.Calls
section
variable {prog:Aa}{w:Ab}{A:Ae}{E:AA}{s:AZ}
theorem zeV {O t:Addr}{items:AK}(U:t≠O):∀ (n i:Nat) (s:AZ) (Q:AN->AZ->Prop),s.heap.IsListIter O t i->s.heap.IsList t items->i+n<=items.size->
  (∀h',h'.IsListIter O t (i+n)->Heap.SameBut O s.heap h'->Q ((items.toList.drop i).take n) { s with heap:=h' })->Ag prog w A (draw (.ref O) n) Q E s
 | 0,i,s,Q,I,_,_,hQ=>by change wpAny _ _ (pure []) Q E s;show af (by simpa using hQ s.heap I (Heap.SameBut.refl ..))
 | n+1,i,s,Q,I,ht,ad,hQ=>by
  have Y:i<items.size:=by omega
  change wpAny _ _ (pyNext (.ref O) >>= _) Q E s;show aa (eE I ht (x:=items[i]) (by simp[Y]) λac B q=>?_);show aa (bn (zeV U n (i+1) _ _ B (ht.extBut q.extBut U) (by omega) λZ F J=>af ?_));have hd:items.toList.drop i=items[i]::items.toList.drop (i+1):=by simp[b6,Y]
  have:=hQ Z (by rw[show i+(n+1)=i+1+n by omega];show F) (q.trans J);rw[hd,List.take_succ_cons] at this;show this
def za9{env:Env}{q:AO}{x1}{t:Addr}{items:AK}{Q:Unit->AZ->Prop}(hh:A.handled=none)(U:s.heap.IsList t items)(hn:(assignEach q env).length=items.size)(I:(assignEach q env).findIdx? (·.1)=none)(h:∀h',Heap.ExtBut s.heap.objs.size s.heap h'->Ag prog w A (assignInOrder ((assignEach q env).map (·.2)) items.toList) Q E { s with heap:=h' }) :
  Ag prog w A (assign (.Tuple q x1 pos) env (.ref t)) Q E s:=by
 have Y:t≠s.heap.objs.size:=by obtain⟨o,ho,_⟩:=U;show aQ (ax ho)
 rw[assign_Tuple];show aa (c8 ?_);unfold unpack;rw[hn,I];show aa (bn ?_);unfold unpackItems;show aa ?_;unfold notIterableAtAll;show aa (ef U.typeIs slot_list_iter.lookup ?_);show af ?_;simp only[aN,if_false];show aa (bn (dE U ?_));show aa (bn (zeV Y items.size 0 _ _ #[_,ar _ BA,BA,BA] (U.push _) (by omega) λZ F B=>?_));have ac:List.take items.size (List.drop 0 items.toList)=items.toList:=by rw[dN];show bg (by simp)
 rw[ac];rw[if_neg (by simp)];have J:Z.IsList t items:=(U.push _).extBut B.extBut Y;show aa (bn (eR hh F J (by simp) λad O=>?_));simp only[Option.isSome_none,aN,if_false];show af (h ad λb o hb e=>O b o hb (B.extBut b o hb (ae _ e)))
variable {X:Cx}{pos:Pos}
def zu8 (K:AH)(n:Nat)(t:TGs):TG:=λv G H Q=>∃a xs,v = .ref a/\SqL K H a xs/\xs.length=n/\t xs G H Q
def zqf {es:AO}{k:Nat}{t:TGs}{n:Nat}(J:X.calm=true)(h:QGs X es t)
  (hn:(assignEach es X.env).length=n:=by rfl) (q:(assignEach es X.env).findIdx? (·.1)=none:=by rfl):QG X (.Tuple es k pos) (zu8 X.K n t):=#[by
 intro BB s G H v u Q I r B;obtain⟨a,xs,O,U,Y,B⟩:=B;subst O;cases r;obtain⟨Z,F,ht,hz⟩:=I.list U;show za9 (I.ok.hd J) ht.isList (by simp[hn,<- Y,F.length]) q λh' hx=>?_;have I1:Inv X BB G H { s with heap:=h' }:=I.kept (t':=s.toks) λb o e=>hx b o (aQ (ax e)) e;show h.run BB _ G H xs _ Q I1 (by simpa using F) B]
end
end L2
namespace L3
open L2
section
variable {X:Cx}{Pn:PN}{M S:AR}{fr fr':Bool}{e:Expr}{f:AD}{pos:Pos}
def At3.set2(h:At3 Pn B S M A G H D n)(F:i∉M)(I:j∉M)(J:i∉S++M)(O:j∉S++M)(h1:Val A H w1 U)(h2:Val A H w2 Y):At3 Pn B S M A ((G.set i (some U)).set j (some Y)) H ((D.set i (some w1)).set j (some w2)) n:=
 EnvR.mineG h ((h.env.set F h1).set I h2) λq Z=>by have qi:i≠q:=λz=>J (by rw[z];show Z);have qj:j≠q:=λz=>O (by rw[z];show Z);rw[aw qj,aw qi,aw qj,aw qi];show#[BA,BA]
abbrev zuV (i j:Nat) (f:AD):Ms:=λD n k=>f D n λw m=>match w with
 | .tz BC d=>onP D i (.df BC) λq=>onP q j (.d d) λB=>k.nx B m
 | _=>False
def zo6 {i j:Nat}{x y:Str}{k:Nat}{px F I:Pos}(K:AH)(hK:X.K=K)(hc:X.calm=true)(hN:X.N.Nodup)(he:JE X Pn M fr' e f)(hx:X.N[i]?=some x:=by rfl)(hy:X.N[j]?=some y:=by rfl)(lx:Loc X.env.scope x:=by first | show Or.inl BA | show Or.inr BA)(ly:Loc X.env.scope y:=by first | show Or.inl BA | show Or.inr BA)(J:i∉M:=by ext)(O:j∉M:=by ext)(U:i∉S++M:=by ext)(Y:j∉S++M:=by ext)
  (fx:X.fn x=true\/X.env.scope.names.lookup x=some .local:=by fail"l") (fy:X.fn y=true\/X.env.scope.names.lookup y=some .local:=by fail"l")
  (ha:(assignEach [.Name x px,.Name y F] X.env).length=2:=by rfl) (hb:(assignEach [.Name x px,.Name y F] X.env).findIdx? (·.1)=none:=by rfl) (h1:(assignEach [.Name x px,.Name y F] X.env).map (·.2)=assign (.Name x px) X.env::(assignEach [.Name y F] X.env).map (·.2):=by rfl) (h2:(assignEach [.Name y F] X.env).map (·.2)=assign (.Name y F) X.env::(assignEach [] X.env).map (·.2):=by rfl)
  (hs:swapsWithSole [.Tuple [.Name x px,.Name y F] k I] e pos.line X.env=pure false:=by rfl) (hw:swappedStores [.Tuple [.Name x px,.Name y F] k I] e X.env=pure none:=by rfl) (h3:(assignEach [.Tuple [.Name x px,.Name y F] k I] X.env).map (·.2)=[assign (.Tuple [.Name x px,.Name y F] k I) X.env]:=by rfl) :
  JS X Pn S M fr (.Assign [.Tuple [.Name x px,.Name y F] k I] e pos) (zuV i j f):=by
 subst hK;obtain⟨te,q,r⟩:=he.ex;show#[_,zkF q (zkB hc (xh (ux hN hx lx fx) (xh (ux hN hy ly fy) zek h2) h1) ha hb) hs hw h3,#[λB A G H D n k BG a kk hf=>?_]];show r.run A G H D n _ _ a.env a.pn hf λw m v H' r hv g _=>?_;have a':=a.step g
 cases w with
 | tz BC d=>
  have r:onP D i (.df BC) λZ=>onP Z j (.d d) λac=>k.nx ac m:=r;rw[xF,xF] at r;obtain⟨b,c,ob,ks,y0,rfl,z1,z2,z3,z4⟩:=hv;show#[b,_,BA,.inl (.inl (zn _ _ z1)),BA,_,_,BA,_,_,BA,BA,kk.nx A _ H' _ m (a'.set2 (w1:=.df BC) (w2:=.d d) J O U Y #[c,ob,ks,BA,z2,z3] (Val.of z4)) r]
 | _=>show False.elim r
abbrev dSetAA (i j:Nat) (f:AD):Ms:=λD n k=>f D n λw m=>match w with
 | .d (.lst [.lst F,.lst I])=>Dt.noLs F=true/\Dt.noLs I=true/\∀a b,onP D i (.ad a (.lst F)) λq=>onP q j (.ad b (.lst I)) λB=>k.nx B m
 | _=>False
abbrev mInPop (i:Nat):Ms:=λD n k=>onV D i λw=>match w with
 | .ad B (.tup [_,.lst l])=>l≠[]/\∃ q,FgA B D q/\k.nx q n
 | _=>False
variable {K:AH}
abbrev zuS:W->W->Mo W:=λx y n Q=>onB x λb=>onL y λl=>∃q:List Bool,l=q.map .bl/\Q (.d (.bl (!q.contains b))) n
end
end L3
namespace L2
open PyProof.Rows PySem.W PySem.Calls
def zs3 (P:Aa)(w:Ab):R2:=λx y H Q=>∃ (a b:Addr) (ns:AG) (ks:AF),x = .ref b/\y = .ref a/\zcP P w H a ks/\H b=some (.tup (ns.map V.int))/\∀c:Bool,(c=true↔ns∈ks)->Q (.bl (!c)) H
def zpD(hu:X.A.units+1<cLine):OpQ X (compareOp .NotIn) (zs3 X.prog X.w):=#[by
 intro BB s G H x y v u Q I rx ry h;obtain⟨a,b,ns,ks,rfl,rfl,⟨xs,hH,hel,rfl,hnd⟩,hb,q⟩:=h;cases rx;cases ry;have S:=(show yd X.prog X.w H s.heap a (zhL X.prog X.w a (yF xs)) from I.hok a _ hH).1;change wpAny _ _ (do return Value.bool (!(<- contains (.ref a) (.ref b)))) _ _ _;show aa (zvb (by lia) S (zb8 I hb) (λq hq=>?_) λc n hc=>af #[.bl (!c),H,I.tok _,BA,q c (hc.trans zcf)]);obtain⟨z,hz,rfl⟩:=au.mp hq;show zb8 I (hel z hz)]
end L2
namespace L3
open L2
section
variable {X:Cx}{Pn:PN}{M S:AR}{es:AO}{pos:Pos}
abbrev zuQ (P:Aa) (w:Ab):W->W->Mo W:=λx y n Q=>∃ (st:AG) (ks:AF),x = .d (stD st)/\y = .ss P w ks/\∀c:Bool,(c=true↔st∈ks)->Q (.d (.bl (!c))) n
def ztM:F2 Pn false (zs3 P w) (zuQ P w):=#[λA H x y wx wy n Q R al I J Pp h k=>by obtain⟨st,ks,rfl,rfl,h⟩:=h;obtain⟨O,ys,rfl,B,U⟩:=uh I;obtain rfl:=U.of_ints;obtain⟨Y,xs,rfl,F,hs⟩:=J;show#[Y,O,st,ks,BA,BA,#[xs,F,λq Z=>zn _ _ (hs.2.1 q Z),hs.1,hs.2.2],B,λc hc=>k _ n _ H (h c hc) (Val.of BA) (Go.refl Pp) λz=>by cases z]]
abbrev eTpL (n:Nat) (u:AS->Ev->(Ev->Prop)->Prop):W->Ev->(Ev->Prop)->Prop:=λw D Q=>onL w λds=>zco n ds (u ds D Q)
def zo1 {k n:Nat}{u:AS->Ev->(Ev->Prop)->Prop}(K:AH)(J:X.K=K)(O:X.calm=true)(h:JGs X S M es u)(hn:(assignEach es X.env).length=n:=by rfl)(B:(assignEach es X.env).findIdx? (·.1)=none:=by rfl):JG X S M (.Tuple es k pos) (eTpL n u):=by subst J;obtain⟨t1,U,Y⟩:=h.ex;show#[_,zqf O U hn B,#[λA G H D v w Q R E h q Z=>?_]];unfold eTpL at q;rw[uc] at q;obtain⟨ds,rfl,q⟩:=q;rw[zbR] at q;obtain⟨ad,xs,rfl,F,I⟩:=h;show#[ad,xs,BA,SqL.of (zn _ _ F),by rw[I.length];show q.1,Y.run A G H D xs ds _ _ E I q.2 Z]
variable {M':AR}{fr:Bool}
abbrev mRel (j:Nat) (fs:Ms):Ms:=λD n k=>onV D j λ_=>fs D n { rt:=k.rt,nx:=λ_ _=>False }
end
end L3
local macro_rules | `(tactic| fail"up")=>`(tactic| first | assumption | ((with_reducible refine (?_:L2.yZ _ _));(first | show L2.zfE _ | (intro _ _ _;((repeat (first | assumption | refine L2.zq0 (by assumption) ?_ | refine L2.zle (by assumption) ?_ | refine L2.zlc (by assumption) ?_ | refine L2.uI (by assumption) ?_ (by assumption) | refine L2.uI (by assumption) ?_ L2.zpv | refine L2.uI (by assumption) ?_ L2.zkf | refine L2.uI (by assumption) ?_ L2.zkg | refine L2.zld (by assumption) ?_ | refine L2.ziF (by assumption) ?_ | refine L2.ziF (L2.xj (by assumption)) ?_ | refine L2.zdr (by assumption) ?_ | refine L2.zdr (L2.xj (by assumption)) ?_ | refine L2.zbk (by assumption) ?_ | refine L2.zbk (L2.xj (by assumption)) ?_ | refine L2.zbj (by assumption) ?_ | refine L2.zbj (L2.xj (by assumption)) ?_ | refine L2.zdq (by assumption) ?_ | refine L2.zdq (L2.xj (by assumption)) ?_ | refine L2.zds (by assumption) ?_ | refine L2.zds (L2.xj (by assumption)) ?_ | refine L2.zak (by assumption) ?_ | refine L2.zak (L2.xj (by assumption)) ?_ | refine L2.zaj (by assumption) ?_ | refine L2.zaj (L2.xj (by assumption)) ?_));done)))) | ((with_reducible refine (?_:L2.zA _ _));(first | show L2.zA.refl _ | (intro _ _ _ _;((repeat (first | assumption | refine L2.zq0 (by assumption) ?_ | refine L2.zle (by assumption) ?_ | refine L2.zlc (by assumption) ?_ | refine L2.uI (by assumption) ?_ (by assumption) | refine L2.uI (by assumption) ?_ L2.zpv | refine L2.uI (by assumption) ?_ L2.zkf | refine L2.uI (by assumption) ?_ L2.zkg | refine L2.zld (by assumption) ?_ | refine L2.ziF (by assumption) ?_ | refine L2.ziF (L2.xj (by assumption)) ?_ | refine L2.zdr (by assumption) ?_ | refine L2.zdr (L2.xj (by assumption)) ?_ | refine L2.zbk (by assumption) ?_ | refine L2.zbk (L2.xj (by assumption)) ?_ | refine L2.zbj (by assumption) ?_ | refine L2.zbj (L2.xj (by assumption)) ?_ | refine L2.zdq (by assumption) ?_ | refine L2.zdq (L2.xj (by assumption)) ?_ | refine L2.zds (by assumption) ?_ | refine L2.zds (L2.xj (by assumption)) ?_ | refine L2.zak (by assumption) ?_ | refine L2.zak (L2.xj (by assumption)) ?_ | refine L2.zaj (by assumption) ?_ | refine L2.zaj (L2.xj (by assumption)) ?_));done)))) | ((repeat (first | assumption | refine L2.zq0 (by assumption) ?_ | refine L2.zle (by assumption) ?_ | refine L2.zlc (by assumption) ?_ | refine L2.uI (by assumption) ?_ (by assumption) | refine L2.uI (by assumption) ?_ L2.zpv | refine L2.uI (by assumption) ?_ L2.zkf | refine L2.uI (by assumption) ?_ L2.zkg | refine L2.zld (by assumption) ?_ | refine L2.ziF (by assumption) ?_ | refine L2.ziF (L2.xj (by assumption)) ?_ | refine L2.zdr (by assumption) ?_ | refine L2.zdr (L2.xj (by assumption)) ?_ | refine L2.zbk (by assumption) ?_ | refine L2.zbk (L2.xj (by assumption)) ?_ | refine L2.zbj (by assumption) ?_ | refine L2.zbj (L2.xj (by assumption)) ?_ | refine L2.zdq (by assumption) ?_ | refine L2.zdq (L2.xj (by assumption)) ?_ | refine L2.zds (by assumption) ?_ | refine L2.zds (L2.xj (by assumption)) ?_ | refine L2.zak (by assumption) ?_ | refine L2.zak (L2.xj (by assumption)) ?_ | refine L2.zaj (by assumption) ?_ | refine L2.zaj (L2.xj (by assumption)) ?_));done))
local macro_rules | `(tactic| left)=>`(tactic| ((try (with_reducible conv=>whnf));repeat (with_reducible refine L3.zrm ?_;try (with_reducible conv=>whnf)));try dsimp only)
local macro_rules | `(tactic| fail"ct")=>`(tactic| (with_reducible refine L3.zd9 ?_ ?_;(first | decide | assumption | rfl));left)
local macro_rules | `(tactic| fail"cf")=>`(tactic| (with_reducible refine L3.zbD ?_ ?_;(first | decide | assumption | rfl));left)
namespace Law
open L2 L3
abbrev lc:AM:=[Ao,Ap]
abbrev ld:AM:=[Ap,Aq,Ar,As,At]
abbrev lf:AM:=[Aj,Ak,"one","other",Au,Am]
abbrev lh:AM:=["given","box","better","worse",An,"left_alone"]
abbrev li:AM:=[Ap,Aq,Ar,As,At,"_law_wish_here"]
abbrev lj:AM:=[Aj,Ak,An,Am]
abbrev ll:AM:=[Ao,"_law_most"]
abbrev lm:AM:=[Ap,Aq,Av,At]
abbrev ln:AM:=[Ao,Ap,Aw]
abbrev lq:AM:=[Ap]
abbrev lr:AM:=["given","box","better","worse"]
abbrev lu:AM:=["_law_script"]
abbrev lw:AM:=[Aj,Ak,"one","other",Am]
abbrev lz:AM:=[Ax,"one","other"]
abbrev lA:AM:=[Ao,Ap,Ay]
abbrev lB:AM:=[An,"box","worth"]
abbrev lC:AM:=[Ax,"one","other",Au]
abbrev lD:AM:=[Ai,Aj,Ak,Am]
abbrev lE:AM:=[Az,Ap]
abbrev lF:AM:=[A1,Ao,Ap,Aw]
abbrev lG:AM:=["_law_j",A5,Ay,"_law_rank"]
abbrev lH:AM:=[Aj,Au]
abbrev lI:AM:=[Aj,"box",Au]
abbrev lJ:AM:=[Ao,A6]
abbrev lK:AM:=[An,"given"]
abbrev lL:AM:=[Ay,Aw,Ao]
abbrev lM:AM:=[Ai,An]
abbrev lN:AM:=[Ar,A7]
abbrev lO:AM:=[A1,A8,A9]
abbrev lP:AM:=["came_from",An]
abbrev lQ:AM:=[Ax,"other","some"]
abbrev lR:AM:=["here","there",Ax]
abbrev lS:AM:=["_law_worth",A8,A1]
abbrev lT:AM:=[Az,"_law_worth"]
abbrev lU:AM:=[A1,Ar,A7]
abbrev lV:AM:=[A1,Ar,Ay]
abbrev lW:AM:=[A9,Ao]
abbrev lY:AM:=[Ax,"row"]
def top (i:Nat):Stmt:=PySem.Challenge.pw_allelse_k21_whole_ways_put_together.main.body.getD i (.Pass #[0,0,0,0])
abbrev zdi:Stmt:=top 26
abbrev zcG:Stmt:=top 27
abbrev zfA:Stmt:=top 5
abbrev zkQ:Stmt:=top 7
abbrev zbt:Stmt:=top 9
abbrev zhI:Stmt:=top 13
abbrev zhK:Stmt:=top 14
abbrev zfD:Stmt:=top 15
abbrev zn9:Stmt:=top 16
abbrev zfC:Stmt:=top 17
abbrev zdj:Stmt:=top 1
abbrev zdk:Stmt:=top 2
abbrev za0:Stmt:=top 3
abbrev zaa:Stmt:=top 4
abbrev zcI:Stmt:=top 11
abbrev zhH:Stmt:=top 18
abbrev zdl:Stmt:=top 19
abbrev zfB:Stmt:=top 21
abbrev zcJ:Stmt:=top 22
abbrev zhJ:Stmt:=top 24
abbrev zcF:Stmt:=top 28
abbrev zdh:Stmt:=top 30
abbrev zcE:Stmt:=top 29
abbrev u9:Stmt:=top 31
abbrev zbr:Stmt:=top 32
abbrev zcH:Stmt:=top 33
abbrev zaZ:Stmt:=top 34
abbrev zcB:Stmt:=top 36
abbrev zbs:Stmt:=top 35
abbrev u8:Stmt:=top 37
abbrev zaY:Stmt:=top 38
abbrev zcA:Stmt:=top 39
abbrev zcC:Stmt:=top 40
abbrev zaX:Stmt:=top 42
abbrev zcz:Stmt:=top 43
abbrev xz:Stmt:=top 44
abbrev zcD:Stmt:=top 45
abbrev ztl:Stmt:=top 46
def zgH:FnScope lu lu (zd zdi):=by fail"f"
def yu:FnScope [Ao,"_law_most",A8,Az,"_law_cell","_law_mixed"] ll (zd zcG):=by fail"f"
def zir:FnScope lB lB (zd zfA):=by fail"f"
def zeq:FnScope [An,"given","box","worth"] lK (zd zkQ):=by fail"f"
def za1:FnScope [Aj,Ak,An,Am,"left_alone"] lj (zd zbt):=by fail"f"
def xA:FnScope [Ax,"one","other","came_from","row","at","here","there"] lz (zd zhI):=by fail"f"
def za2:FnScope ["came_from",An,"row","here"] lP (zd zhK):=by fail"f"
def zdm:FnScope [Ax,"one","other","came_from","last"] lz (zd zfD):=by fail"f"
def zqC:FnScope lw lw (zd zn9):=by fail"f"
def zis:FnScope lj lj (zd zfC):=by fail"f"
def zgI:FnScope [Au] [Au] (zd zdj):=by fail"f"
def zgJ:FnScope lI lI (zd zdk):=by fail"f"
def xP:FnScope [Aj,Au,"box","worth"] lH (zd za0):=by fail"f"
def uF:FnScope [Aj,Au,An] lH (zd zaa):=by fail"f"
def zfF:FnScope lY lY (zd zcI):=by fail"f"
def zkR:FnScope lC lC (zd zhH):=by fail"f"
def zgK:FnScope lf lf (zd zdl):=by fail"f"
def zai:FnScope [Ax,"other","some","among",An,"there"] lQ (zd zfB):=by fail"f"
def zfG:FnScope lf lf (zd zcJ):=by fail"f"
def zkS:FnScope [Ak] [Ak] (zd zhJ):=by fail"f"
def xJ:FnScope [Ap,"_law_many",A9] lq (zd zcF):=by fail"f"
def uz:FnScope [Ap,A8,A9] lq (zd zdh):=by fail"f"
def yt:FnScope [Ao,"_law_most",A6,Ap,A1,A9] ll (zd zcE):=by fail"f"
def zbF:FnScope lc lc (zd u9):=by fail"f"
def xi:FnScope [Ao,Ap,Ay,"_law_rare",A8,Az] lA (zd zbr):=by fail"f"
def yX:FnScope [Ao,Ap,Aw,Ay,"_law_worse","_law_better"] ln (zd zcH):=by fail"f"
def xO:FnScope [Ao,A6,A8,Ar] lJ (zd zaZ):=by fail"f"
def zac:FnScope [Ar,A7,Ay,A5] lN (zd zcB):=by fail"f"
def yj:FnScope [Ap,A8,A9,"_law_longer",A1,A6] lq (zd zbs):=by fail"f"
def zM:FnScope [Ao,Ap,"_law_row",Aq,Az,Aw] lc (zd u8):=by fail"f"
def zE:FnScope [Ao,Ap,"_law_boxes_here",Aq,A1,Ay,"_law_parents","_law_case","_law_rank",A5] lc (zd zaY):=by fail"f"
def xH:FnScope [Ao,Ap,Aw,Aq] lc (zd zcA):=by fail"f"
def zbu:FnScope ln lc (zd zcC):=by fail"f"
def zO:FnScope [Ap,Aq,Av,At,Ar,As,"_law_last","_law_first","_law_second","_law_whole","_law_third"] lm (zd zaX):=by fail"f"
def zab:FnScope [Ap,Aq,Ar,As,At,A8,A7] ld (zd zcz):=by fail"f"
def yB:FnScope [Ap,Aq,Ar,As,At,A8,"_law_standing_here"] ld (zd xz):=by fail"f"
def xI:FnScope [Ap,Aq,Ar,As,At,"_law_wish_here",A8,A7,A6] li (zd zcD):=by fail"f"
def uG:FnScope ["_law_script",Ao,Ap,Aq,"_law_turn",At,Ar,A6,As,"_law_others",Av,"_law_lone"] lu (zd ztl):=by fail"f"
abbrev zgG:Stmt:=top 10
def zep:FnScope lD lD (zd (ym zgG 0)):=by fail"f"
def zcZ:FnScope lM lM (zd (ym zgG 1)):=by fail"f"
set_option genInjectivity false in
structure Ad where
 C_Leads:Addr
 fI_Leads:Addr
 fA_Leads:Addr
 dI_Leads:Ac
 dA_Leads:Ac
 f0:Addr
 d0:Ac
 f1:Addr
 d1:Ac
 f2:Addr
 d2:Ac
 f3:Addr
 d3:Ac
 f4:Addr
 d4:Ac
 f5:Addr
 d5:Ac
 f6:Addr
 d6:Ac
 f7:Addr
 d7:Ac
 f8:Addr
 d8:Ac
 f9:Addr
 d9:Ac
 f10:Addr
 d10:Ac
 f11:Addr
 d11:Ac
 f12:Addr
 d12:Ac
 f13:Addr
 d13:Ac
 f14:Addr
 d14:Ac
 f15:Addr
 d15:Ac
 f16:Addr
 d16:Ac
 f17:Addr
 d17:Ac
 f18:Addr
 d18:Ac
 f19:Addr
 d19:Ac
 f20:Addr
 d20:Ac
 f21:Addr
 d21:Ac
 f22:Addr
 d22:Ac
 f23:Addr
 d23:Ac
 f24:Addr
 d24:Ac
 f25:Addr
 d25:Ac
 f26:Addr
 d26:Ac
 f27:Addr
 d27:Ac
 f28:Addr
 d28:Ac
 f29:Addr
 d29:Ac
 f30:Addr
 d30:Ac
 f31:Addr
 d31:Ac
 f32:Addr
 d32:Ac
 f33:Addr
 d33:Ac
 f34:Addr
 d34:Ac
 f35:Addr
 d35:Ac
 f36:Addr
 d36:Ac
 f37:Addr
 d37:Ac
structure Txt (K:AH)(mg:AI)(t:Ad):Prop where
 Leads:LdT K mg zgG t.C_Leads t.fI_Leads t.fA_Leads t.dI_Leads t.dA_Leads
 q0:Dfn K mg "_law_pen" zdi lu t.f0 t.d0
 q1:Dfn K mg "_law_take" zcG ll t.f1 t.d1
 q2:Dfn K mg "changed" zfA lB t.f2 t.d2
 q3:Dfn K mg "keeps" zkQ lK t.f3 t.d3
 q4:DfnD K mg "betterings" zbt lj [Value.none] t.f4 t.d4
 q5:Dfn K mg "search" zhI lz t.f5 t.d5
 q6:Dfn K mg "way_to" zhK lP t.f6 t.d6
 q7:Dfn K mg "told_by" zfD lz t.f7 t.d7
 q8:DfnD K mg "told" zn9 lw [Value.none] t.f8 t.d8
 q9:DfnD K mg "reached" zfC lj [Value.none] t.f9 t.d9
 q10:Dfn K mg "is_whole" zdj [Au] t.f10 t.d10
 q11:Dfn K mg "is_worth" zdk lI t.f11 t.d11
 q12:Dfn K mg "is_standing" za0 lH t.f12 t.d12
 q13:Dfn K mg "are_standings" zaa lH t.f13 t.d13
 q14:Dfn K mg "is_walked" zcI lY t.f14 t.d14
 q15:Dfn K mg "is_way" zhH lC t.f15 t.d15
 q16:DfnD K mg "lets_way" zdl lf [Value.none] t.f16 t.d16
 q17:Dfn K mg "is_shut" zfB lQ t.f17 t.d17
 q18:DfnD K mg "lets_shut" zcJ lf [Value.none] t.f18 t.d18
 q19:Dfn K mg "turned" zhJ [Ak] t.f19 t.d19
 q20:Dfn K mg "_law_size" zcF lq t.f20 t.d20
 q21:Dfn K mg "_law_all" zdh lq t.f21 t.d21
 q22:Dfn K mg "_law_room" zcE ll t.f22 t.d22
 q23:Dfn K mg "_law_standing" u9 lc t.f23 t.d23
 q24:Dfn K mg "_law_given" zbr lA t.f24 t.d24
 q25:Dfn K mg "_law_wish" zcH ln t.f25 t.d25
 q26:Dfn K mg "_law_turned" zaZ lJ t.f26 t.d26
 q27:Dfn K mg "_law_full" zcB lN t.f27 t.d27
 q28:Dfn K mg "_law_snake" zbs lq t.f28 t.d28
 q29:Dfn K mg "_law_row_book" u8 lc t.f29 t.d29
 q30:Dfn K mg "_law_ranked" zaY lc t.f30 t.d30
 q31:Dfn K mg "_law_book" zcA lc t.f31 t.d31
 q32:Dfn K mg "_law_held" zcC lc t.f32 t.d32
 q33:Dfn K mg "_law_joined" zaX lm t.f33 t.d33
 q34:Dfn K mg "_law_back" zcz ld t.f34 t.d34
 q35:Dfn K mg "_law_shut_for_all" xz ld t.f35 t.d35
 q36:Dfn K mg "_law_more" zcD li t.f36 t.d36
 q37:Dfn K mg "law" ztl lu t.f37 t.d37
 b_enumerate:mg "enumerate" = none
 b_sorted:mg "sorted" = none
 b_all:mg "all" = none
 b_set:mg "set" = none
 b_tuple:mg "tuple" = none
 b_range:mg "range" = none
 b_isinstance:mg "isinstance" = none
 b_int:mg "int" = none
 b_list:mg "list" = none
 b_len:mg "len" = none
 b_bool:mg "bool" = none
 b_abs:mg "abs" = none
 b_zip:mg "zip" = none
section
variable {P:Aa}{w:Ab}{K:AH}{mg:AI}{base:Heap}{t:Ad}
def zgu (T:Txt K mg t):FnOk P w K mg base CX0 1 t.f0 t.d0 lu (zm7 K):=by
 show T.q0.F.okQ zgH (λvs H Q E h=>?_) (λI A q s H vs Q E U h=>?_);obtain⟨a,ns,rfl,_⟩:=h;rfl;obtain⟨a,ns,rfl,Y,J,O,k⟩:=h;show#[_,(xy (u5 (zqb (zel xx (qv 0) (zel xx yA (zel xx yA zql))) BA BA (by simp) (by ext)))),?_];intro p B;show#[_,BA,zh,zaU a 0 0,BA,(by change 3<=15;decide),?_];rw[zsE];have S2:yZ H (upd (upd H p (.dK [])) p (.dK (zaU a 0 0))):=λb o e=>by rw[zf (zc e B),zf (zc e B)];show e
 show k p _ #[#[0,0,zh,by lia,by lia,by lia],J.same S2,O] S2
def zfn (T:Txt K mg t):FnOk P w K mg base CX0 1 t.f1 t.d1 ll (zob K):=by
 show T.q1.F.okQ yu (λvs H Q E h=>?_) (λa0 A an s H vs Q E hr h=>?_);obtain⟨p,c,ns,n,zQ,rfl,_⟩:=h;rfl
 ·obtain⟨p,c,ns,n,zQ,rfl,hK,hP,hn,h1,h2,k⟩:=h;have J:=ze5 hr;obtain⟨⟨a,l,U,ap,a1,ac⟩,hc,O⟩:=id hP
  have Z:∀r,ns=0::r->c≠p:=λr e=>by
   rcases hc with ⟨r',e',o,z⟩ | ⟨r',e'⟩;show zml z U (by intro q;cases q);rw[e] at e';cases e'
  show#[_,(yi (zkG (u7 zil (uw J (qv 0) xx (λ_ _=>rfl)) yA (zt _)) (yi (u6 (i:=2) yu.nd BA (Or.inl BA) (yJ uE (uw J (qv 0) xx (λ_ _=>rfl)) (qv 1)))
   (yi (zem J (qv 0) xx (yJ zec (uw J (qv 0) xx (λ_ _=>rfl)) (qv 1)) BA)
   (xy (u5 (qv 2))))) zcw)
   (yi (u6 (i:=3) yu.nd BA (Or.inl BA) (uw J (qv 0) xx (λ_ _=>rfl)))
   (yi (zem J (qv 0) xx (yJ yL (qv 3) yA) BA)
   (yi (u6 (i:=4) yu.nd BA (Or.inl BA) yA)
   (yi (zkG (u7 zil (xg z6 (by rfl) T.b_len aP (zL (uw J (qv 0) xx (λ_ _=>rfl)) yM)) yA (zt _)) (xy (u6 (i:=4) yu.nd BA (Or.inl BA) (zmM yk (uw J (qv 0) xx (λ_ _=>rfl)) (yJ uE (qv 3) (xg z6 (by rfl) T.b_len aP (zL (uw J (qv 0) xx (λ_ _=>rfl)) yM))) (λ_ _=>rfl)))) zcw)
   (yi (zkG (QW.pt (zhE (u7 zkm (qv 3) (xg z6 (by rfl) T.b_len aP (zL (uw J (qv 0) xx (λ_ _=>rfl)) yM)) (zt _)) (zgC (u7 zvM (xg zi0 (by rfl) T.b_abs eZ (zL (qv 4) yM)) (yJ zsr yA yA) (zt _))))) (yi (zem J (qv 0) xx (yJ zec (xg zi0 (by rfl) T.b_abs eZ (zL (qv 4) yM)) (qv 1)) BA)
   (xy (u5 (yJ uE (xg zi0 (by rfl) T.b_abs eZ (zL (qv 4) yM)) (qv 1))))) zcw)
   (yi (u6 (i:=5) yu.nd BA (Or.inl BA) (yJ uE (yJ uX (yJ yL (yJ yL (yJ yL (yJ uE (qv 4) yA) (yJ uX (yJ uX yA (qv 3)) (qv 3))) (yJ uX yA (qv 3))) yA) yA) yA))
   (yi (u6 (i:=5) yu.nd BA (Or.inl BA) (yJ uE (yJ yL (yJ yL (yJ uX (qv 5) (qv 5)) (yJ uX yA (qv 5))) (yJ uX yA (qv 3))) yA))
   (xy (u5 (yJ uE (yJ zec (yJ uE (yJ uX (qv 5) yA) yA) yA) (qv 1)))))))))))),?_]
  show#[_,BA,p,_,BA,zkr U,_,_,BA,BA,_,BA,znD (λhl=>?_) (λhl=>?_)];have a2:0<l:=bp hl;show#[_,BA,p,_,BA,zkr U,_,BA,_,_,BA,BA,(by change (0:Int)<zQ;lia),?_];show#[_,BA,p,_,BA,zkr U,_,BA,_,_,BA,BA,#[by change (0:Int)<zQ;lia,h2],_,BA,p,_,BA,znT U _,?_];show#[_,BA,k _ _ (cS _ (by lia)) (ci _ (by lia)) #[#[a,_,zh,ap,by lia,Int.ediv_nonneg ac (by lia)],hc.upd Z,O] (zew U)]
  ·show#[_,BA,p,_,BA,zsD U,?_];show#[_,BA,_,_,BA,BA,_,BA,p,_,BA,zsH U _,?_];have I:upd H p (.dK (zaU c (a+1) l)) p=some (.dK (zaU c (a+1) l)):=zh;have Y:PLs (upd H p (.dK (zaU c (a+1) l))) c ns:=hc.upd Z;generalize as:upd H p (.dK (zaU c (a+1) l))=H1 at I Y ⊢;have ad:zA H H1:=as ▸ zew U;obtain⟨r,hq⟩:=hK.seq Y;refine' meet (α:=Int) _ (λzz=>?_) ?_;rotate_left
   
   show#[_,BA,p,_,BA,zhx I,_,_,BA,.inl #[_,hq,BA],_,_,BA,BA,_,BA,znD (λhz=>?_) (λhz=>?_)];have ag:0<((r.map V.int).length:Int):=bp hz;obtain⟨B,al⟩:=zrk r a ag;show#[_,BA,p,_,BA,zhx I,_,BA,_,BA,p,_,BA,zhx I,_,_,BA,.inl #[_,hq,BA],_,_,BA,BA,ag,c,_,_,_,BA,BA,hq,al,?_];show zz B;show zz 0
   ·intro B;refine' zvB _ (λzz=>?_) ?_;rotate_left
    ·show#[_,BA,_,BA,p,_,BA,zhx I,_,_,BA,.inl #[_,hq,BA],_,_,BA,BA,_,BA,znD (λh3=>?_) (λh3=>?_)];rotate_left;show zrS ?_;show zz;show#[_,BA,_,BA,_,_,BA,BA,#[by ext,by ext,by ext],_,_,BA,BA,_,BA,znD (λh4=>?_) (λh4=>?_)];rotate_left;show zz;have ha:0<=(if B<0 then -B else B):=by split <;> lia
     show#[_,BA,_,BA,_,BA,_,_,BA,BA,#[by change (0:Int)<zQ;lia,h2],_,BA,p,_,BA,znT I _,?_];show#[_,BA,_,BA,_,BA,_,_,BA,BA,(by change (0:Int)<zQ;lia),k _ _ (cS _ (by lia)) (ci _ (by lia)) #[#[a+1,_,zh,by lia,by lia,Int.ediv_nonneg ha (by lia)],Y.upd Z,O] (ad.trans (zew I))]
    have a3:=cS B (show (2147483629:Int)≠0 by ext);have a4:=ci B (show (0:Int)<2147483629 by ext);show#[_,BA,_,_,BA,BA,(by change (0:Int)<2147483629;decide),_,BA,_,_,BA,BA,.inl #[by ext,by ext],_,BA,_,_,BA,BA,.inr #[by lia,by lia],_,_,BA,BA,_,BA,_,_,BA,BA,.inl #[by ext,by ext],_,_,BA,BA,_,_,BA,BA,_,_,BA,BA,.inr #[by ext,by ext],_,_,BA,BA,(by change (0:Int)<2147483647;decide),?_];generalize a5:((B % 2147483629+7919 * a * a+104729 * a+23) * 69621:Int)=w1;have w0:=cS w1 (show (2147483647:Int)≠0 by ext);have w2:=ci w1 (show (0:Int)<2147483647 by ext);generalize w1 % 2147483647=w3 at w0 w2;show#[_,BA,_,BA,_,_,BA,BA,.inl #[by lia,by lia],_,BA,_,_,BA,BA,.inl #[by ext,by ext],_,_,BA,BA,_,BA,_,_,BA,BA,.inl #[by ext,by ext],_,_,BA,BA,_,_,BA,BA,(by change (0:Int)<2147483579;decide),?_];generalize a7:((w3 * w3+40692 * w3+65537 * a) % 2147483579:Int)=w5;show#[_,BA,_,_,BA,BA,.inr #[by ext,by ext],_,_,BA,BA,(by change (0:Int)<2147483563;decide),_,_,BA,BA,#[by ext,by ext],_,BA,_,_,BA,BA,(by change (0:Int)<zQ;lia),?_];show k _ _ (cS _ (by lia)) (ci _ (by lia)) #[#[a+1,l,I,by lia,by lia,ac],Y,O] ad
def zI (T:Txt K mg t):FnOk P w K mg base CX0 1 t.f1 t.d1 ll (spV 2 false (ziM K)):=FnOk.lift (FnOk.mono (zfn T) (by ext)) zjT
def zig (T:Txt K mg t):FnOk P w K mg base CX0 1 t.f2 t.d2 lB zfJ:=by
 show T.q2.F.okQ zir (λvs H Q E h=>?_) (λO A q s H vs Q E hr h=>?_);obtain⟨a,st,b,U,rfl,_⟩:=h;rfl;obtain⟨a,st,b,U,rfl,I,Y,Z,k⟩:=h;show#[_,(xy (u5 (yJ zaA (yJ zaA (zei zkY (qv 0) zgz (zgA (qv 1))) (zej (zL (qv 2) yM))) (zei zkY (qv 0) (zgA (yJ yL (qv 1) yA)) zgz)))),?_];have B:∀lo hi,(zeF (st.map V.int) lo hi).length<=400:=λlo hi=>aH (zaz _ _ _) (by rw[ab];show Y);show#[_,BA,_,BA,_,BA,a,_,BA,I,λt1 H1 g1 S1=>?_];show#[_,BA,(by change 1<=sizeLine;decide),λt2 H2 _ g2 S2=>?_];show#[t1,t2,_,_,BA,BA,S2 _ _ g1,g2,c7 (zcM (by have:=B none (some b);change _+1<=1000;lia)),λt3 H3 g3 S3=>?_];have S03:yZ H H3:=λb o e=>S3 _ _ (S2 _ _ (S1 _ _ e));show#[_,BA,_,BA,_,_,BA,BA,_,BA,a,_,BA,S03 _ _ I,λt4 H4 g4 S4=>?_];show#[t3,t4,_,_,BA,BA,S4 _ _ g3,g4,?_,λt5 H5 J S5=>?_];have e1:=B none (some b);have e2:=B (some (b+1)) none;show c7 (zcM ?_);rw[am];change _+1+_<=1000;lia;rw[zor st Z] at J;show k t5 H5 J λb o e=>S5 _ _ (S4 _ _ (S03 _ _ e))
def zmo (T:Txt K mg t):FnOk P w K mg base CX0 1 t.f3 t.d3 lK zkX:=by
 show T.q3.F.okQ zeq (λvs H Q E h=>?_) (λap A Y s H vs Q E hr h=>?_);obtain⟨a,Z,st,gs,g,rfl,_⟩:=h;rfl;obtain⟨a,Z,st,gs,g,rfl,ha,B,I,hg,k⟩:=h;have J:gs.length=g.length:=by have:=I.length;rwa[ab] at this
 show#[_,(yi (znZ bh BA (zkE (qv 1)) (zkB BA (xh (ux (i:=2) zeq.nd BA (Or.inl BA)) (xh (ux (i:=3) zeq.nd BA (Or.inl BA)) zek))) (xy (zkG (u7 zcY (zmM zF (qv 0) (qv 2) (λ_ _=>rfl)) (qv 3) (zt _)) (xy (u5 zp7)) zcw)))
  (xy (u5 zp7))),?_]
 show#[_,BA,Z,BA,#[gs,.of B],zoL (K:=K) (xs:=gs) (λi G H2=>H2=H/\(∃v1 v2,G=[some (.ref a),some (.ref Z),v1,v2])/\uD st (g.take i)=true) #[BA,#[none,none,BA],BA] (λi G H2 _ ⟨e,_⟩=>e ▸ .of B) ?_ ?_];rintro i y G H2 hi ⟨rfl,⟨v1,v2,rfl⟩,O⟩;obtain⟨d,hd,ac⟩:=I.get hi;rw[aD] at hd;obtain⟨q,hq,rfl⟩:=aJ.mp hd;obtain⟨ca,ys,rfl,ad,y0,z0,rfl,ag,y1,z1,rfl,al,an⟩:=ac;cases ag;cases al;cases an;have U:=hg q (az hq);show#[ca,_,BA,.of ad,BA,_,_,BA,_,_,BA,BA,?_];show#[_,BA,_,BA,a,_,_,_,BA,BA,.of ha,zhq U.1 U.2,_,BA,BA,_,BA,znD (λh1=>?_) (λh1=>?_)]
 have e:uD st g=false:=by
  unfold uD;show List.all_eq_false.mpr #[q,az hq,?_];intro z;have z':=bp z;rw[z'] at h1;simp at h1
 rw[e] at k;show k;show#[BA,#[_,_,BA],?_]
 have e:zQ st q.1=q.2:=by
  by_cases e:zQ st q.1=q.2;show e;show absurd (by simp[e]) h1
 unfold uD at O ⊢;rw[zr hq,List.all_append,O];simp[e];rintro G H2 ⟨rfl,⟨v1,v2,rfl⟩,O⟩;rw[J,bJ] at O;rw[O] at k;show k
def zd0 (T:Txt K mg t):FnOk P w K mg base CX0 2 t.f4 t.d4 lj zoa:=by
 have G2:FnOk P w K mg base CX0 1 t.f2 t.d2 lB zfJ:=zig T;have G3:FnOk P w K mg base CX0 1 t.f3 t.d3 lK zkX:=zmo T;show T.q4.F.okQ za1 (λvs H Q E h=>?_) (λbx A a7 s H vs Q E hr h=>?_);obtain⟨v0,vh,ba,a,rm,xs,bk,st,hs,rfl,_⟩:=h;rfl
 ·obtain⟨v0,vh,ba,a,rm,xs,bk,st,hs,rfl,h1,h8,hB,as,ha,hl,hh,k⟩:=h
  show#[_,(yi (u6 (i:=4) za1.nd BA (Or.inr BA) (zmL (zhD (znW (qv 3))) (zej yM) (qv 3)))
   (xy (u5 (xg (zg2 BA) (by rfl) T.b_sorted cG (zL (zin (ze5 hr) (N:=lh) (BD:=[none,none,none,none,some 2,some 4]) BA (by fail"c") (zkE (qv 1)) (λ_ _ _ _=>(zkC K BA (n:=4) BA (xh (ux (i:=0) (show (lh:AM).Nodup by decide +kernel) BA (Or.inl BA)) (xh (ux (i:=1) (show (lh:AM).Nodup by decide +kernel) BA (Or.inl BA)) (xh (ux (i:=2) (show (lh:AM).Nodup by decide +kernel) BA (Or.inl BA)) (xh (ux (i:=3) (show (lh:AM).Nodup by decide +kernel) BA (Or.inl BA)) zek)))))) (λ_ _ _ _=>(zkH (QW.pt (zhE (u7 uJ (zmM (zq9 K BA) (qv 4) (qv 1) (λ_ _=>rfl)) (qv 3) (zt _)) (zhE (u7 (zed K BA) (qv 1) (qv 5) (by with_unfolding_all rfl)) (zgC (zn0 (zmJ T.q3 G3 hr (zL (qv 4) (zL (qv 0) yM)))))))))) (λ_ _ _ _=>(zmJ T.q2 G2 hr (zL (qv 4) (zL (qv 1) (zL (qv 2) yM)))))) yM))))),?_]
  refine' zvC _ (λ(lv:V) (H1:Hp)=>∃Z,lv = .ref Z/\H1 Z=some (.tup (hs.map V.int))/\yZ H H1) (λzz=>?_) ?_;rotate_left;show#[_,BA,_,BA,znD (λh2=>?_) (λh2=>?_)];show#[(by change 0<=sizeLine;decide),λe H1 _ g1 S1=>?_];generalize bb:V.ref e=lv;show zz lv H1 #[e,bb.symm,?_,S1];rcases hh with ⟨_,I⟩ | ⟨p,I,_⟩;rw[I];show g1;rw[I] at h2;cases bp h2;show#[_,BA,?_];show zz _ H ?_;rcases hh with ⟨I,_⟩ | ⟨p,I,hp⟩;show absurd (a8 I) h2;show#[p,I,hp,λ_ _ z=>z];rintro _ H1 ⟨Z,rfl,b2,S1⟩;have ag:BookAt H1 rm ba xs bk:=by fail"up"
  have a0:=hB.len;show#[_,BA,ba,BA,#[_,.of ag.at'],λacc ac S0=>?_];show zm4 (xs:=xs) ac S0 (λi al H'=>(∃v1 v2 v3 v4,al=[v1,v2,v3,v4,some (.ref a),some (.ref Z)])/\(∃ks,zcP P w H' acc ks/\∀z,z∈ks↔z∈zcS (bk.take i) st hs)/\yZ H1 H') (λH' z1 z2=>#[#[_,_,_,_,BA],#[[],z1,λz=>by change z∈[]↔z∈[];show Iff.rfl],z2]) (λ_ _ _ _ ⟨_,_,S⟩=>.of (S _ _ ag.at')) ?_ ?_;rintro i y al H' B ⟨⟨v1,v2,v3,v4,rfl⟩,⟨ks,J,hm⟩,S'⟩;obtain⟨x,hx,bc,O⟩:=(ag.stay (zA.same S')).get B;obtain⟨wa,ga,gs,rfl,bd,be,U⟩:=ziI bc;have b1:=O.b1;have an:H' a=some (.tup (st.map V.int)):=by fail"up"
  have a1:H' Z=some (.tup (hs.map V.int)):=by fail"up"
  have bl:bk.take (i+1)=bk.take i++[x]:=zr hx
  have a2:∀z,z∈zcS (bk.take (i+1)) st hs↔(zbB st x=true/\x.b∉hs/\z=chg st x.b x.r)\/z∈zcS (bk.take i) st hs:=λz=>by
   rw[bl,yg,yg];constructor;rintro⟨y,B,h2⟩;rcases aF.mp B with B | B;show .inr #[y,B,h2];rw[aq] at B;subst B;show .inl h2;rintro (h2 | ⟨y,B,h2⟩);show#[x,aU _ (by simp),h2];show#[y,bH _ B,h2]
  have no:¬ (zbB st x=true/\x.b∉hs)->(∃w1 w2 w3 w4,[some (V.ref ga),some (.int x.b),some (.int x.r),some (.int x.w),some (V.ref a),some (.ref Z)]=[w1,w2,w3,w4,some (.ref a),some (.ref Z)])/\(∃ks,zcP P w H' acc ks/\∀z,z∈ks↔z∈zcS (bk.take (i+1)) st hs)/\yZ H1 H':=λhn=>#[#[_,_,_,_,BA],#[ks,J,λz=>by rw[hm,a2];show#[.inr,λz=>z.elim (λq=>absurd #[q.1,q.2.1] hn) id]],S'];show#[wa,_,BA,.of bd,BA,_,_,BA,_,_,BA,_,_,BA,_,_,BA,BA,?_];show#[_,BA,_,BA,a,_,_,_,BA,BA,.of an,zhq O.b0 (by lia),_,BA,BA,_,BA,znD (λh2=>?_) (λh2=>?_)];have I:zQ st x.b=x.w:=by simpa using h2
  show#[_,BA,_,BA,Z,_,BA,.inr (.of a1),BA,zjp hs,_,BA,?_];rw[zlS];by_cases Y:x.b∈hs;rw[List.contains_iff_mem.mpr Y];show zrS (zrS (no λq=>q.2 Y))
  have hc:hs.contains x.b=false:=by
   cases e:hs.contains x.b with
   | false=>rfl
   | true=>show absurd (List.contains_iff_mem.mp e) Y
  rw[hc];show iteT #[_,BA,_,BA,a,ga,st,gs,x.g,BA,an,be,U,λq hq=>?_,_,BA,?_];have:=O.giv.ok q hq;show#[this.1,by lia];have hg:zbB st x=uD st x.g:=by unfold zbB;rw[I];simp
  show znD (λh3=>?_) (λh3=>?_);show#[_,BA,_,BA,_,BA,a,st,x.b,x.r,BA,an,by lia,O.b0,λp H5 hp S5=>?_];have ad:zcP P w H5 acc ks:=by fail"up"
  show#[p,_,ks,BA,hp,ad,?_,λo bo a3 bs b3=>#[#[_,_,_,_,BA],#[bo,a3,λz=>?_],zmY ac (by fail"up")]];obtain⟨_,_,_,_,ap⟩:=ad;have:=ze1 (hs:=hs) (bk:=bk.take i) (λy B=>hB.ok y (bI B)) h8 as ap λz hz=>(hm z).mp hz;lia;rw[bs,a2,hm];constructor;rintro (h4 | h4);show .inl #[by rw[hg];show h3,Y,h4];show .inr h4;rintro (h4 | h4);show .inl h4.2.2;show .inr h4;show no λq=>h3 (by rw[<- hg];show q.1);show zrS (no λq=>h2 ?_);have:=q.1;unfold zbB at this;rw[bj] at this;simpa using this.1;rintro al H2 ⟨_,⟨ks,J,hm⟩,S2⟩;rw[a0,bJ] at hm;have U:=zjv (hs:=hs) hB.ok hl;show#[acc,ks,rm.length,BA,J,?_,h1,λz hz=>U z ((hm z).mp hz),λys a4 b4 hp hu=>?_];obtain⟨_,_,_,_,ap⟩:=J;have:=ze1 hB.ok h8 as ap λz hz=>(hm z).mp hz;lia;have e:a4=yH bk st hs:=zet U hu λz=>(hp.mem_iff).trans (hm z);subst e;intro l H3 a5 g3 S3;have S23:yZ H H2:=by fail"up"
  show k l H3 ?_ #[ys,g3,by fail"up"] (by fail"up")
  cases e:H l with
  | none=>rfl
  | some o=>rw[S23 _ _ e] at a5;cases a5
def xf (T:Txt K mg t):FnOk P w K mg base CX0 1 t.fI_Leads t.dI_Leads lD (zev t.C_Leads):=by
 show T.Leads.FI.okQ zep (λvs H Q E h=>?_) (λF A B s H vs Q E U h=>?_);obtain⟨a,dx,I,J,O,rfl,_⟩:=h;rfl;show#[_,#[zaV (zhB (pv 0) (pv 1) BA) (zaV (zhB (pv 0) (pv 2) BA) (zaV (zhB (pv 0) (pv 3) BA) (zeh (zhB (pv 0) zmy BA))))],?_];have e:xB lD vs=vs.map some:=by obtain⟨a,dx,I,J,O,rfl,_⟩:=h;rfl
 rw[e];show zmQ T.Leads.c h λ_ _ q=>q
def xN (T:Txt K mg t):FnOk P w K mg base CX0 4 t.fA_Leads t.dA_Leads lM (zeu P w t.C_Leads):=by
 show T.Leads.FA.okQ zcZ (λvs H Q E h=>?_) (λI A q s H vs Q E F h=>?_);obtain⟨L,st,J,rfl,_⟩:=h;rfl;have B:=ze5 F
 show#[_,#[zaV (zsO (znV (zfv B (pv 1) (zpP (zct (pv 0) BA)))) (zeh (zky B (zct (pv 0) BA) (pv 1) (zpJ (znY T.q4 (zd0 (P:=P) (w:=w) (base:=base) T) F #[zbg (zct (pv 0) BA) (zbg (zct (pv 0) BA) (zbg (pv 1) (zbg (zct (pv 0) BA) znQ)))]).run) BA)) zkz)
  (zeh (znU (zpK (zkq B (zct (pv 0) BA) (pv 1) (λ_ _=>rfl)))))],?_]
 have e:xB lM vs=vs.map some:=by obtain⟨L,st,J,rfl,_⟩:=h;rfl
 rw[e];show zmP T.Leads.c h BA
def Rch (g:AG->AF)(a s:AG):Prop:=∀Z:AG->Prop,Z a->(∀u v,Z u->v∈g u->Z v)->Z s
def Rch.self {g:AG->AF}{a:AG}:Rch g a a:=λ_ h _=>h
def Rch.step {g:AG->AF}{a s v:AG}(h:Rch g a s)(B:v∈g s):Rch g a v:=λZ F q=>q _ _ (h Z F q) B
def ziS{rm:AG}{s t hs:AG}(B:xR rm bk)(F:StOk rm s)(I:t∈yH bk s hs):StOk rm t:=by obtain⟨x,J,_,_,rfl⟩:=yg.mp (yn.mp I);have q:=B x J;show zm8 F q.b0 q.b1 q.r0 q.r1
structure SrT (g:AG->AF)(rm one:AG)(BC:List (AG×Dt)):Prop where
 hd:∃r,BC=(one,.non)::r
 up:∀i q,BC[i+1]?=some q->∃h,h∈(BC.take (i+1)).map (·.1)/\q.2=stD h/\q.1∈g h
 nd:(BC.map (·.1)).Nodup
 ok:∀s∈BC.map (·.1),StOk rm s
def SrT.one {g:AG->AF}{rm one:AG}(h:StOk rm one):SrT g rm one [(one,.non)]:=#[#[[],BA],λi q e=>by simp at e,by simp,λs hs=>by rw[show s=one by simpa using hs];show h]
def SrT.snoc {g:AG->AF}{rm one s t:AG}{BC:List (AG×Dt)}(h:SrT g rm one BC)(hs:s∈BC.map (·.1))(F:t∈g s)(hn:t∉BC.map (·.1))(I:StOk rm t):SrT g rm one (BC++[(t,stD s)]):=by
 obtain⟨r,J⟩:=h.hd;show#[#[r++[(t,stD s)],by rw[J];rfl],λi q e=>?_,?_,λu B=>?_];by_cases hi:i+1<BC.length;rw[aC hi] at e;obtain⟨u,h1,h2⟩:=h.up i q e;show#[u,by rw[fq (by lia)];show h1,h2];rw[aW (by lia)] at e;have O:i+1 - BC.length=0:=by have:=(ah.mp e).1;simpa using this
 rw[O] at e;have e:(t,stD s)=q:=by simpa using e
 subst e;show#[s,?_,BA,F];rw[fq (by lia),bg (by lia)];show hs;rw[aR,eP];show#[h.nd,by simp,λa U b Y e=>?_];rw[show b=t by simpa using Y] at e;show hn (e ▸ U);rw[aR,aF] at B;rcases B with B | B;show h.ok u B;rw[show u=t by simpa using B];show I
def SrT.rch {g:AG->AF}{rm one:AG}{BC:List (AG×Dt)}(h:SrT g rm one BC):∀s∈BC.map (·.1),Rch g one s:=by
 have key:∀ (n i:Nat),i<n->∀q,BC[i]?=some q->Rch g one q.1:=by
  intro n
  induction n with
  | zero=>intro i hi;lia
  | succ n I=>
   intro i hi q e
   match i,hi,e with
   | 0,_,e=>
    obtain⟨r,J⟩:=h.hd;rw[J] at e;have e:(one,Dt.non)=q:=by simpa using e
    rw[<- e];show Rch.self
   | i+1,hi,e=>
    obtain⟨u,h1,_,O⟩:=h.up i q e;obtain⟨p,U,rfl⟩:=au.mp h1;obtain⟨j,F,B⟩:=bt.mp U;rw[bq] at F;show (I j (by lia) p ?_).step O;rw[gc] at B;rw[<- B];show ak (by lia)
 intro s hs;obtain⟨q,Y,rfl⟩:=au.mp hs;obtain⟨j,F,B⟩:=bt.mp Y;show key (j+1) j (by lia) q (by rw[<- B];show ak F)
def zad {rm:AG}{l:AF}(q:RoomOk rm)(I:zY rm<=256)(B:l.Nodup)(F:∀s∈l,StOk rm s):l.length<=256:=by have h1:=yW B λs hs=>zgN (F s hs);have h2:=zgV q;lia
def zpe {BC:List (AG×Dt)}{st:AG}:(!(xq BC st).isSome) = !decide (st∈BC.map (·.1)):=by congr 1;unfold xq;rw[cA,decide_eq_true_iff,gb,List.find?_isSome];show#[λ⟨q,h1,h2⟩=>au.mpr #[q,h1,bp h2],λh=>let ⟨q,h1,h2⟩:=au.mp h;#[q,h1,a8 h2]]
def zp4{BC:List (AG×Dt)}{k:AG}(h:k∉BC.map (·.1)):zlm BC k d=BC++[(k,d)]:=by unfold zlm;rw[if_neg];intro z;obtain⟨q,B,F⟩:=List.any_eq_true.mp z;show h (au.mpr #[q,B,bp F])
def yc {l r:AR}{i:Nat}(h:i<l.length):(l++r).getD i 0=l.getD i 0:=by rw[aj,aj,aC h]
def zbO:(l++[x]).getD l.length 0=x:=by rw[aj,aW (ai _),fU];rfl
structure SrD (g:AG->AF)(rm one:AG)(BC:List (AG×Dt))(ds:AR):Prop where
 t:SrT g rm one BC
 len:ds.length=BC.length
 z:ds.getD 0 0=0
 mono:∀i j,i<=j->j<BC.length->ds.getD i 0<=ds.getD j 0
 par:∀i q,BC[i+1]?=some q->∃j p,j<=i/\BC[j]?=some p/\q.2=stD p.1/\q.1∈g p.1/\ds.getD (i+1) 0=ds.getD j 0+1
def SrD.le {g:AG->AF}{rm one:AG}{BC:List (AG×Dt)}{ds:AR}(h:SrD g rm one BC ds):∀n i,i<n->i<BC.length->ds.getD i 0<=i:=by
 intro n
 induction n with
 | zero=>intro i hi;lia
 | succ n q=>
  intro i hi B
  match i with
  | 0=>rw[h.z];show ai _
  | i+1=>
   obtain⟨j,p,F,_,_,_,e⟩:=h.par i _ (ak B);have:=q j (by lia) (by lia);lia
def SrD.snoc {g:AG->AF}{rm one u:AG}{BC:List (AG×Dt)}{ds:AR}{a:Nat}{q:AG×Dt}(h:SrD g rm one BC ds)(B:BC[a]?=some q)(O:u∈g q.1)(hn:u∉BC.map (·.1))(Y:StOk rm u)(Z:∀m,m<BC.length->ds.getD m 0<=ds.getD a 0+1):SrD g rm one (BC++[(u,stD q.1)]) (ds++[ds.getD a 0+1]):=by
 have ha:=(ah.mp B).1;have U:=h.len;show#[h.t.snoc (au.mpr #[q,az B,BA]) O hn Y,by simp[U],by rw[yc (by lia)];show h.z,λi j F I=>?_,λi p e=>?_];rw[am,bw] at I;by_cases e:j<BC.length;rw[yc (by lia),yc (by lia)];show h.mono i j F e;have ej:j=ds.length:=by lia
 rw[ej,zbO];by_cases J:i<BC.length;rw[yc (by lia)];show Z i J;rw[show i=ds.length by lia,zbO];show ai _;by_cases J:i+1<BC.length;rw[aC J] at e;obtain⟨j,p',I,h1,h2,h3,h4⟩:=h.par i p e;show#[j,p',I,by rw[aC (by lia)];show h1,h2,h3,by rw[yc (by lia),yc (by lia)];show h4]
 have hi:i+1=BC.length:=by
  have:=(ah.mp e).1;rw[am,bw] at this;lia
 rw[aW (by lia),hi,fU] at e;have e:(u,stD q.1)=p:=by simpa using e
 subst e;show#[a,q,by lia,by rw[aC ha];show B,BA,O,by rw[hi,<- U,zbO,yc (by lia)]]
def SrN (g:AG->AF)(o:Dt)(BC:List (AG×Dt))(ds:AR)(a:Nat):Prop:=∀i q,i<a->BC[i]?=some q->∀u∈g q.1,stD u≠o/\∃m p,BC[m]?=some p/\p.1=u/\ds.getD m 0<=ds.getD i 0+1
structure Sr (g:AG->AF)(rm one:AG)(o:Dt)(BC:List (AG×Dt))(x:Dt):Prop where
 e:∃ds,SrD g rm one BC ds/\((x = .non/\SrN g o BC ds BC.length)\/∃a q u,BC[a]?=some q/\x=stD q.1/\u∈g q.1/\stD u=o/\SrN g o BC ds a)
inductive F_search (P:Aa) (w:Ab) (C:Addr) (Pn:PN):AU->Nat->AV->Prop
 | i {n:Nat} {R:AV} {L:LdI} {one:AG} {o:Dt} (hL:Pn.J=ldJ L) (hP:L.P=P) (hw:L.w=w) (hC:L.C=C) (h1:StOk L.rm one) (hR:RoomOk L.rm) (hB:xR L.rm L.bk) (hp:zY L.rm<=256) (ho:o = .non\/∃st,o=stD st) (h:∀BC x,Sr (λs=>yH L.bk s L.hs) L.rm one o BC x->R (.tz BC x) n)  : F_search P w C Pn [.pen L.a,.d (stD one),.d o] n R
def zdb (T:Txt K mg t):FnOk P w K mg base CX0 5 t.f5 t.d5 lz (spV 3 false (F_search P w t.C_Leads)):=by
 have G_Leads_after:=xN (P:=P) (w:=w) (base:=base) T
 show Fun.okW (k:=4) (fr:=false) [3,4] 5 T.q5.F xA BA (by ext) BA λbl A a2 s H E Pn hr=>#[_,(zb (wS y8 <| zat (i:=3) xA.nd (zo0 (ze5 hr) (kv 1) zl3))
   (zb (wS y8 <| zat (i:=4) xA.nd (zaI (za (kv 1) ze)))
   (zb (wS zm <| zu (i:=5) xA.nd zo)
   (zb (zhh bh (wT zl <| zC zkm zur (kb 5) (JE.bo (zD z6 yY (by rfl) T.b_len aP (zi (kb 4) zj))) (zt _)) (zb (wS zm <| zu (i:=6) xA.nd (yT yk uL (kb 4) (kb 5) (λ_ _=>rfl)))
   (zb (xa bh BA (zrV K BA (zgn (i:=0) P w BA BA T.Leads G_Leads_after hr (qv 0) (by ext) (za (kv 6) ze))) (wG yf <| zq (i:=7) xA.nd) (zb (wS zy <| yp (wT zl <| zC (zhu hr.units) znc (kb 7) (kb 2) (zt _)) (zg (zjN 3 (kv 6))) zx)
   (zg (wS zy <| yp (zo7 (ze5 hr) (kb 7) (kb 3)) (zb (wS zj2 <| zl5 3 (ze5 hr) (kb 7) (kv 6))
   (zg (wS zgq <| zjK 4 (kv 7)))) zx))))
   (zg (zrX (F:=λi j=>i+j) (i:=5) xA.nd zrQ (JE.bo zo))))))
   (zg (zjN 3 zl3)))))),λws n R hF=>?_]
 obtain @⟨_,_,L,one,o,hL,hP,hw,hC,h1,hR,hB,hp,ho,r⟩:=hF;left;show#[one,BA,?_];left
 have d0:SrD (λs=>yH L.bk s L.hs) L.rm one [(one,.non)] [0]:=#[.one h1,BA,BA,λi j bs hj=>by
  have:i=0:=by simp at hj;lia
  subst this;show aL _,λi q e=>by simp at e]
 show zog (λk D n'=>n'=n/\∃ (BC:List (AG×Dt)) (ds:AR) (a:Nat) (v6 v7:Option W),k=256 - a/\a<=BC.length/\D=[some (.pen L.a),some (.d (stD one)),some (.d o),some (.dt BC),some (.d (uK (BC.map (·.1)))),some (.d (.int a)),v6,v7]/\SrD (λs=>yH L.bk s L.hs) L.rm one BC ds/\SrN (λs=>yH L.bk s L.hs) o BC ds a/\(a<BC.length->∀m,m<BC.length->ds.getD m 0<=ds.getD a 0+1)) 256 #[BA,[(one,.non)],[0],0,_,_,BA,aL _,BA,d0,λi q hi=>absurd hi (cE _),λ_ m hm=>by
  have:m=0:=by simp at hm;lia
  subst this;show eJ _] ?_
 rintro k D n' ⟨rfl,BC,ds,a,v6,v7,rfl,bx,rfl,hD,hc,al⟩ C B X a3 a4 hX;have hT:=hD.t;have a5:=zad hR hp hT.nd hT.ok;rw[ab] at a5;left;rw[ab,ab];show x9 (λb0=>?_) (λb1=>?_);have ha:a<BC.length:=by lia
 have al:=al ha;obtain⟨q,hq⟩:∃q,BC[a]?=some q:=#[_,ak ha];have ap:q.1∈BC.map (·.1):=au.mpr #[q,az hq,BA];left;show zV (show atI ((BC.map (·.1)).map stD) (a:Int)=some (stD q.1) from zeI (by rw[aD,aD,hq];rfl)) ?_;left;show#[L,hL,hP,hw,hC,BA,?_];left;show#[_,BA,hT.ok _ ap,?_];left;show#[_,BA,?_];show yK (yH L.bk q.1 L.hs) (λs=>W.d (stD s)) (by rw[aI];rfl) (λj D m'=>m'=n'/\∃ (I:List (AG×Dt)) (J:AR) (v7:Option W),D=[some (.pen L.a),some (.d (stD one)),some (.d o),some (.dt I),some (.d (uK (I.map (·.1)))),some (.d (.int a)),some (.d (stD q.1)),v7]/\SrD (λs=>yH L.bk s L.hs) L.rm one I J/\(∃r r2,I=BC++r/\J=ds++r2)/\(∀m,m<I.length->J.getD m 0<=J.getD a 0+1)/\∀s∈(yH L.bk q.1 L.hs).take j,stD s≠o/\s∈I.map (·.1)) #[BA,BC,ds,_,BA,hD,#[[],[],by simp,by simp],al,by simp] ?_ ?_;rintro j t D m' ht ⟨rfl,I,J,v7,rfl,O,⟨r',r2,U,ac⟩,Z,hs⟩ C' B' E' ag _ a7;have an:=az ht;have ba:=O.len;have bb:=hD.len;have ad:I[a]?=some q:=by rw[U,aC ha];show hq
 have b2:=(ah.mp ad).1;have bc:=ziS hB (hT.ok _ ap) an;have as:=zad hR hp O.t.nd O.t.ok;rw[ab] at as
 have tk:∀ {Y:List (AG×Dt)},(∀s∈I.map (·.1),s∈Y.map (·.1))->t∈Y.map (·.1)->stD t≠o->∀s∈(yH L.bk q.1 L.hs).take (j+1),stD s≠o/\s∈Y.map (·.1):=λ{Y} y1 y2 y3 s a0=>by
  rw[zr ht,aF] at a0;rcases a0 with z | z;show#[(hs s z).1,y1 s (hs s z).2];rw[aq.mp z];show#[y3,y2]
 left;show#[ye,?_,λb hb=>?_];rcases ho with rfl | ⟨st,rfl⟩;rfl;show ye;left;show zmp (λh=>?_) (λh=>?_);left;show a7 (hX (r _ _ #[J,O,.inr #[a,q,t,ad,BA,an,hb.mp h,λi p hi hp u hu=>?_]]));rw[U,aC (by lia)] at hp;obtain⟨z1,m,p2,z2,z3,z4⟩:=hc i p hi hp u hu;have hm:=(ah.mp z2).1;show#[z1,m,p2,by rw[U,aC hm];show z2,z3,by rw[ac,yc (by lia),yc (by lia)];show z4];have a1:stD t≠o:=λz=>by rw[hb.mpr z] at h;cases h
 left;show#[t,BA,?_];rw[zpe];left;show zav (λhn=>?_) (λhn=>?_);have hn:t∉I.map (·.1):=of_decide_eq_false hn;left;show#[_,BA,a6 (by lia:_<=10000) (by ext),?_];rw[zp4 hn];left;show#[a6 (by rw[ab,ab];lia:_<=10000) (by ext),?_];have e2:(I.map (·.1)).map stD++[stD t]=((I++[(t,stD q.1)]).map (·.1)).map stD:=by rw[aR,aR];rfl
 rw[e2];show ag #[BA,_,J++[J.getD a 0+1],_,BA,O.snoc ad an hn bc Z,#[r'++[(t,stD q.1)],r2++[J.getD a 0+1],by rw[U,aE],by rw[ac,aE]],λm hm=>?_,tk (λs z=>?_) ?_ a1];rw[yc (l:=J) (i:=a) (by lia)];rw[am,bw] at hm;by_cases em:m<I.length;rw[yc (by lia)];show Z m em;rw[show m=J.length by lia,zbO];show ai _;rw[aR];show bH _ z;rw[aR];show aU _ (by simp);have hn:t∈I.map (·.1):=bp hn;left;show ag #[BA,I,J,_,BA,O,#[r',r2,U,ac],Z,tk (λs z=>z) hn a1];rintro D m' ⟨rfl,I,J,v7,rfl,O,⟨r',r2,U,ac⟩,Z,hs⟩;rw[bJ] at hs;left;have ba:=O.len;have bb:=hD.len;have b3:BC.length<=I.length:=by rw[U,am];lia
 have ad:I[a]?=some q:=by rw[U,aC ha];show hq
 show a3 (256 - (a+1)) (by lia) #[BA,I,J,a+1,_,_,BA,by lia,BA,O,λi p hi hp u hu=>?_,λbd m hm=>?_];by_cases ei:i<a;rw[U,aC (by lia)] at hp;obtain⟨z1,m,p2,z2,z3,z4⟩:=hc i p ei hp u hu;have hm:=(ah.mp z2).1;show#[z1,m,p2,by rw[U,aC hm];show z2,z3,by rw[ac,yc (by lia),yc (by lia)];show z4];have ei:i=a:=by lia
 subst ei;rw[ad] at hp;cases hp;obtain⟨z1,z2⟩:=hs u hu;obtain⟨p2,be,e2⟩:=au.mp z2;obtain⟨m,hm,em⟩:=bt.mp be;show#[z1,m,p2,by rw[<- em];show ak hm,e2,Z m hm];have z1:=Z m hm;have z2:=O.mono a (a+1) (eJ _) bd;lia;show a4 ?_;left;have e:a=BC.length:=by lia
 subst e;show r _ _ #[ds,hD,.inl #[BA,hc]]
def SrD.mem{g:AG->AF}{rm one:AG}{BC:List (AG×Dt)}(_:SrD g rm one BC ds){s:AG}(h:s∈BC.map (·.1)):∃ (j:Nat) (q:AG×Dt),BC[j]?=some q/\q.1=s:=by obtain⟨q,B,e⟩:=au.mp h;obtain⟨j,F,I⟩:=bt.mp B;show#[j,q,by rw[<- I];show ak F,e]
def SrD.all{g:AG->AF}{rm one:AG}{BC:List (AG×Dt)}(h:SrD g rm one BC ds)(F:SrN g o BC ds BC.length)(s:AG):s∈BC.map (·.1)↔Rch g one s:=by show#[h.t.rch s,λz=>?_];obtain⟨r,I⟩:=h.t.hd;show z (·∈BC.map (·.1)) (by rw[I];show ao) λu v J O=>?_;obtain⟨j,q,B,rfl⟩:=h.mem J;obtain⟨_,m,p,U,rfl,_⟩:=F j q (ah.mp B).1 B v O;show au.mpr #[p,az U,BA]
structure Way (g:AG->AF)(a b:AG)(l:AF):Prop where
 hd:l[0]?=some a
 lt:l.getLast?=some b
 st:∀i,i+1<l.length->l.getD (i+1) []∈g (l.getD i [])
def Way.one {g:AG->AF}{a:AG}:Way g a a [a]:=#[BA,BA,λi h=>by simp at h]
def Way.cons {g:AG->AF}{a b c:AG}{l:AF}(w:Way g b c l)(h:b∈g a):Way g a c (a::l):=by
 have q:l≠[]:=λz=>by have:=w.hd;rw[z] at this;cases this
 show#[BA,by rw[List.getLast?_cons_of_ne_nil q];show w.lt,λi hi=>?_]
 match i with
 | 0=>
  have:l.getD 0 []=b:=by rw[aj,w.hd];rfl
  change l.getD 0 []∈g a;rw[this];show h
 | i+1=>
  have:=w.st i (by simpa using hi);simpa using this
def Way.snoc {g:AG->AF}{a b c:AG}{l:AF}(w:Way g a b l)(h:c∈g b):Way g a c (l++[c]):=by
 have q:l≠[]:=λz=>by have:=w.hd;rw[z] at this;cases this
 have B:0<l.length:=fM.mpr q;show#[by rw[aC B];show w.hd,by simp,λi hi=>?_];rw[am,bw] at hi;by_cases e:i+1<l.length;rw[aj,aj,aC e,aC (by lia)];have:=w.st i e;rwa[aj,aj] at this;have F:i=l.length - 1:=by lia
 have I:(l++[c]).getD (i+1) []=c:=by rw[aj,aW (by lia),show i+1 - l.length=0 by lia];rfl
 have J:(l++[c]).getD i []=b:=by rw[aj,aC (by lia),F,<- dQ,w.lt];rfl
 rw[I,J];show h
theorem zjX:∀ {BC:List (AG×Dt)} {q:AG×Dt} {j:Nat},(BC.map (·.1)).Nodup->BC[j]?=some q->xq BC q.1=some q.2
 | [],_,_,_,h=>by simp at h
 | p::BC,q,0,_,h=>by
  have e:p=q:=by simpa using h
  subst e;simp[xq]
 | p::BC,q,j+1,B,h=>by
  rw[aB,cC] at B;have h:BC[j]?=some q:=by simpa using h
  have F:=zjX B.2 h;have hn:¬ p.1=q.1:=λz=>B.1 (by rw[z];show au.mpr #[q,az h,BA]);unfold xq at F ⊢;rw[List.find?_cons_of_neg (by simpa using hn)];show F
def Way.rch {g:AG->AF}{a b:AG}{l:AF}(w:Way g a b l):∀i,i<l.length->Rch g a (l.getD i []):=by
 intro i
 induction i with
 | zero=>intro _;rw[aj,w.hd];show Rch.self
 | succ i q=>intro hi;show (q (by lia)).step (w.st i hi)
def Way.last {g:AG->AF}{a b:AG}{l:AF}(w:Way g a b l):l.getD (l.length - 1) []=b:=by rw[aj,<- dQ,w.lt];rfl
def SrD.short{g:AG->AF}{rm one:AG}{BC:List (AG×Dt)}{q:AG×Dt}{other:AG}{l:AF}(h:SrD g rm one BC ds)(J:BC[a]?=some q)(F:SrN g o BC ds a)(O:stD other=o)(w:Way g one other l)(h2:2<=l.length):ds.getD a 0+2<=l.length:=by
 apply bG;intro U;have ha:=(ah.mp J).1
 have key:∀j,j+1<l.length->∃i p,i<a/\BC[i]?=some p/\p.1=l.getD j []/\ds.getD i 0<=j:=by
  intro j
  induction j with
  | zero=>
   intro _;obtain⟨r,Y⟩:=h.t.hd;have hz:=h.z;show#[0,(one,.non),?_,by rw[Y];rfl,?_,by lia];apply bG;intro z;have:a=0:=by lia
   subst this;lia;rw[aj,w.hd];rfl
  | succ j Z=>
   intro hj;obtain⟨i,p,hi,B,e,hd⟩:=Z (by lia);have:=w.st j (by lia);rw[<- e] at this;obtain⟨_,m,p2,I,e2,ac⟩:=F i p hi B _ this;show#[m,p2,?_,I,e2,by lia];apply bG;intro z;have:=h.mono a m (by lia) (ah.mp I).1;lia
 obtain⟨i,p,hi,B,e,_⟩:=key (l.length - 2) (by lia);have:=w.st (l.length - 2) (by lia);rw[<- e,show l.length - 2+1=l.length - 1 by lia,w.last] at this;show (F i p hi B other this).1 O
def Shw (g:AG->AF)(a b:AG)(l:AF):Prop:=Way g a b l/\2<=l.length/\∀l',Way g a b l'->2<=l'.length->l.length<=l'.length
inductive F_way  (Pn:PN):AU->Nat->AV->Prop
 | i {n:Nat} {R:AV} {g:AG->AF} {rm one:AG} {BC:List (AG×Dt)} {ds:AR} {j0:Nat} {q0:AG×Dt} (hT:SrD g rm one BC ds) (hf:BC.length<=256) (hq0:BC[j0]?=some q0) (h:∀l:AF,Way g one q0.1 l->l.length=ds.getD j0 0+1->(∀u∈l,StOk rm u)->R (.d (uK l)) n)  : F_way Pn [.df BC,.d (stD q0.1)] n R
def zij (T:Txt K mg t):FnOk P w K mg base CX0 1 t.f6 t.d6 lP (spV 2 true F_way):=by
 show Fun.okW (k:=0) (fr:=true) [2] 2 T.q6.F za2 BA (by ext) BA λa0 A ag s H E Pn hr=>#[_,(zb (wS y8 <| zat (i:=2) za2.nd (zaI ze))
   (zb (wS zm <| zu (i:=3) za2.nd (kv 1))
   (zb (zhh bh (wT zl <| zo8 (kb 3)) (zb (wS zgq <| zjK 2 (kv 3))
   (zg (wS zm <| zu (i:=3) za2.nd (zoZ (ze5 hr) (kb 0) (kb 3) (λ_ _=>rfl))))))
   (zg (zp (wE zaR <| zfb (kb 2))))))),λws n R hF=>?_]
 obtain @⟨_,_,g,rm,one,BC,ds,Z,U,Y,hf,ac,r⟩:=hF;left;have al:=(ah.mp ac).1;have a1:=Y.le _ Z (cW _) al;show zog (λk D n'=>n'=n/\∃ (I:AF) (x:Dt),D=[some (.df BC),some (.d (stD U.1)),some (.d (uK I)),some (.d x)]/\(∀u∈I,StOk rm u)/\((x = .non/\Way g one U.1 I.reverse/\I.length=ds.getD Z 0+1)\/∃j q,BC[j]?=some q/\k=j+1/\x=stD q.1/\I.length+ds.getD j 0=ds.getD Z 0/\((I=[]/\q.1=U.1)\/∃v,Way g v U.1 I.reverse/\v∈g q.1))) (Z+1) #[BA,[],_,BA,by simp,.inr #[Z,U,ac,rfl,rfl,eY _,.inl #[BA,BA]]] ?_;rintro k D n' ⟨rfl,I,x,rfl,ad,hc⟩ C B X hC hB hX;rcases hc with ⟨rfl,hw,hl⟩ | ⟨j,q,J,rfl,rfl,hl,hc⟩;left;show hB ?_;left;rw[<- dW];show r _ hw (by rw[bB];show hl) λu hu=>ad u (bU.mp hu);have an:=az J;have ap:=Y.t.ok q.1 (au.mpr #[q,an,BA]);left;show#[a6 (by rw[ab];lia:_<=10000) (by ext),?_];have e2:I.map stD++[stD q.1]=(I++[q.1]).map stD:=by rw[aR];rfl
 rw[e2];left;show#[q.1,BA,zV (zjX Y.t.nd J) ?_]
 have hw:Way g q.1 U.1 (I++[q.1]).reverse:=by
  rw[fK];rcases hc with ⟨rfl,e⟩ | ⟨v,hv,hg⟩;rw[e];show Way.one;show hv.cons hg
 have O:∀u∈I++[q.1],StOk rm u:=λu hu=>by
  rcases aF.mp hu with z | z;show ad u z;rw[aq.mp z];show ap
 match j,J,hl with
 | 0,J,hl=>
  obtain⟨rr,as⟩:=Y.t.hd;have eq:(one,Dt.non)=q:=by rw[as] at J;simpa using J
  subst eq;have hz:=Y.z;show hC 0 (by lia) #[BA,_,_,BA,O,.inl #[BA,hw,by rw[am,bw];lia]]
 | j+1,J,hl=>
  obtain⟨i,p,hi,hp,e3,hg,e4⟩:=Y.par j q J;show hC (i+1) (by lia) #[BA,_,_,BA,O,.inr #[i,p,hp,BA,e3,by rw[am,bw];lia,.inr #[q.1,hw,hg]]]
inductive F_tby (P:Aa) (w:Ab) (C:Addr) (Pn:PN):AU->Nat->AV->Prop
 | i {n:Nat} {R:AV} {L:LdI} {one other:AG} (hL:Pn.J=ldJ L) (hP:L.P=P) (hw:L.w=w) (hC:L.C=C) (h1:StOk L.rm one) (h2:StOk L.rm other) (hR:RoomOk L.rm) (hB:xR L.rm L.bk) (hp:zY L.rm<=256) (h:(∀l:AF,Shw (λs=>yH L.bk s L.hs) one other l->l.length<=300->(∀s∈l,StOk L.rm s)->R (.d (.tup [.str "better",uK l])) n)/\((∀s,Rch (λs=>yH L.bk s L.hs) one s->other∉yH L.bk s L.hs)->∀BE:AF,Up' BE->(∀s,s∈BE↔Rch (λs=>yH L.bk s L.hs) one s)->(∀s∈BE,StOk L.rm s)->R (.d (.tup [.str "not",uK BE])) n))  : F_tby P w C Pn [.pen L.a,.d (stD one),.d (stD other)] n R
def zgw (T:Txt K mg t):FnOk P w K mg base CX0 6 t.f7 t.d7 lz (spV 3 false (F_tby P w t.C_Leads)):=by
 have G5:=zdb (P:=P) (w:=w) (base:=base) T;have G6:=zij (P:=P) (w:=w) (base:=base) T
 show Fun.okW (k:=5) (fr:=false) [] 2 T.q7.F zdm BA (by ext) BA λap A J s H E Pn hr=>#[_,(zb (zo6 (i:=3) (j:=4) K BA BA zdm.nd (wE zk <| yI T.q5 G5 hr (za (kv 0) (za (kv 1) (za (kv 2) ze)))))
   (zb (wS zy <| yp (wT zl <| zrZ (kb 4)) (zg (zp (y6 (za zdO (za (zD (zg3 BA) zlb (by rfl) T.b_sorted cG (zi (kb 3) zj)) ze))))) zx)
   (zg (zp (y6 (za zdO (za (zas zeb zhO (JE.bo (wE zk <| yI T.q6 G6 hr (za (kv 3) (za (kv 4) ze)))) (JE.bo (zaI (za (kv 2) ze)))) ze))))))),λws n R hF=>?_]
 obtain @⟨_,_,L,one,other,hL,hP,hw,hC,h1,h2,O,hB,hp,r⟩:=hF;left;show F_search.i hL hP hw hC h1 O hB hp (.inr #[_,BA]) λBC x U=>?_;obtain⟨ds,B,U⟩:=U.e;have Y:=zad O hp B.t.nd B.t.ok;rw[ab] at Y;rcases U with ⟨rfl,hcl⟩ | ⟨a,q,v,I,rfl,hv,e,hN⟩;have Z:=B.all hcl;left;show#[L.rm.length,O.pos,λq I=>(B.t.ok q.1 (au.mpr #[q,I,BA])).len,λBE hs hu=>?_];left;show r.2 (λs ac hm=>?_) BE hu (λs=>(hs.mem_iff).trans (Z s)) λs z=>B.t.ok s ((hs.mem_iff).mp z);obtain⟨j,q,hj,rfl⟩:=B.mem ((Z s).mpr ac);show (hcl j q (ah.mp hj).1 hj other hm).1 BA;obtain rfl:=zbi e;have as:=B.le _ a (cW _) (ah.mp I).1;have Z:=(ah.mp I).1;left;show F_way.i B (by lia) I λl ad a0 ag=>?_;left;show#[aH (by rw[ab,bw];lia:_<=10000) (by ext),?_];have e2:l.map stD++[stD v]=(l++[v]).map stD:=by rw[aR];rfl
 rw[e2];left;have al:(l++[v]).length=ds.getD a 0+2:=by rw[am,bw];lia
 show r.1 _ #[ad.snoc hv,by lia,λl' w' an=>by rw[al];show B.short I hN BA w' an] (by lia) λs hs=>by
  rcases aF.mp hs with z | z;show ag s z;rw[aq.mp z];show h2
inductive F_told (P:Aa) (w:Ab) (C:Addr) (Pn:PN):AU->Nat->AV->Prop
 | i {n:Nat} {R:AV} {rm:AG} {bk:AW} {one other hs:AG} {v:W} (hJ:Pn.J=J0) (hv:v = .d (stD hs)\/(hs=[]/\v = .d .non)) (hR:RoomOk rm) (hB:xR rm bk) (hp:zY rm<=256) (h1:StOk rm one) (h2:StOk rm other) (h:(∀l:AF,Shw (λs=>yH bk s hs) one other l->l.length<=300->(∀s∈l,StOk rm s)->R (.d (.tup [.str "better",uK l])) n)/\((∀s,Rch (λs=>yH bk s hs) one s->other∉yH bk s hs)->∀BE:AF,Up' BE->(∀s,s∈BE↔Rch (λs=>yH bk s hs) one s)->(∀s∈BE,StOk rm s)->R (.d (.tup [.str "not",uK BE])) n))  : F_told P w C Pn [.d (stD rm),.d (xV bk),.d (stD one),.d (stD other),v] n R
def zbQ (T:Txt K mg t):FnOk P w K mg base CX0 7 t.f8 t.d8 lw (spV 5 false (F_told P w t.C_Leads)):=by have G7:=zgw (P:=P) (w:=w) (base:=base) T;have G_Leads_init:=xf (P:=P) (w:=w) (base:=base) T;show FunD.okW (k:=6) (fr:=false) [] 0 T.q8.F zqC BA (by ext) BA λJ A q s H E Pn O=>#[_,(zg (zp (zl0 P w BA BA T.Leads T.q7 G_Leads_init G7 O T.Leads.b .nil (dv:=[]) (λ_ _=>rfl) (za (kv 0) (za (kv 1) (za (kv 4) ze))) (za (kv 2) (za (kv 3) ze)) ))),λws n R U=>?_];obtain @⟨_,_,rm,bk,one,other,hs,v,Y,Z,B,I,hp,h1,h2,r⟩:=U;left;show#[Y,?_];left;show#[rm,bk,hs,v,BA,Z,B,I,?_];left;show#[BA,BA,?_];rintro L hP hw hC rfl rfl rfl;show F_tby.i BA hP hw hC h1 h2 B I hp r
inductive F_rea (P:Aa) (w:Ab) (C:Addr) (Pn:PN):AU->Nat->AV->Prop
 | i {n:Nat} {R:AV} {rm:AG} {bk:AW} {one hs:AG} {v:W} (hJ:Pn.J=J0) (hv:v = .d (stD hs)\/(hs=[]/\v = .d .non)) (hR:RoomOk rm) (hB:xR rm bk) (hp:zY rm<=256) (h1:StOk rm one) (h:∀BE:AF,Up' BE->(∀s,s∈BE↔Rch (λs=>yH bk s hs) one s)->(∀s∈BE,StOk rm s)->R (.d (uK BE)) n)  : F_rea P w C Pn [.d (stD rm),.d (xV bk),.d (stD one),v] n R
def zcn (T:Txt K mg t):FnOk P w K mg base CX0 6 t.f9 t.d9 lj (spV 4 true (F_rea P w t.C_Leads)):=by
 have G5:=zdb (P:=P) (w:=w) (base:=base) T;have G_Leads_init:=xf (P:=P) (w:=w) (base:=base) T;show FunD.okW (k:=5) (fr:=true) [] 0 T.q9.F zis BA (by ext) BA λY A B s H E Pn Z=>#[_,(zg (zp (zD (zg3 BA) zlb (by rfl) T.b_sorted cG (zi (JE.bo (yT zF zwc (JE.bo (zl0 P w BA BA T.Leads T.q5 G_Leads_init G5 Z T.Leads.b .nil (dv:=[]) (λ_ _=>rfl) (za (kv 0) (za (kv 1) (za (kv 3) ze))) (za (kv 2) (za zl3 ze)) )) (JE.bo zo) (λ_ _=>rfl))) zj)))),λws n R hF=>?_];obtain @⟨_,_,rm,bk,one,hs,v,hJ,hv,I,U,hp,h1,r⟩:=hF;left;show#[hJ,?_];left;show#[rm,bk,hs,v,BA,hv,I,U,?_];left;show#[BA,BA,?_];rintro L hP hw hC rfl rfl rfl;show F_search.i BA hP hw hC h1 I U hp (.inl BA) λBC x J=>?_;obtain⟨ds,O,J⟩:=J.e
 have ha:∀s,s∈BC.map (·.1)↔Rch (λs=>yH L.bk s L.hs) one s:=by
  rcases J with ⟨_,hcl⟩ | ⟨a,q,v,_,_,_,e,_⟩;show O.all hcl;cases e
 left;show#[L.rm.length,I.pos,λq hq=>(O.t.ok q.1 (au.mpr #[q,hq,BA])).len,λBE hs hu=>r BE hu (λs=>(hs.mem_iff).trans (ha s)) λs z=>O.t.ok s ((hs.mem_iff).mp z)]
def ztX:Dt->Bool
 | .int _=>true
 | _=>false
def WOk (rm:AG)(i:Int)(d:Dt):Prop:=∃x,d = .int x/\0<=x/\x<zQ rm i
def zt2 (rm:AG)(d:Dt):Prop:=∃s,d=stD s/\StOk rm s
def AreS (rm:AG)(d:Dt):Prop:=∃BE,d=uK BE/\∀s∈BE,StOk rm s
def ztY{rm:AG}(B:l.length=rm.length)(h:∀ (j:Nat) (d:Dt),l[j]?=some d->WOk rm j d):zt2 rm (.tup l):=by
 have g:∀ {l:AS},(∀d∈l,∃x,d=Dt.int x)->∃s:AG,l=s.map .int:=λ{l}=>by
  induction l with
  | nil=>show λ_=>#[[],BA]
  | cons d l F=>
   intro h;obtain⟨x,rfl⟩:=h d (.head _);obtain⟨s,rfl⟩:=F λe I=>h e (.tail _ I);show#[x::s,BA]
 obtain⟨s,rfl⟩:=g λd J=>by obtain⟨j,q⟩:=List.mem_iff_getElem?.mp J;obtain⟨x,e,_⟩:=h j d q;show#[x,e]
 rw[ab] at B;show#[s,BA,B,λb O U=>?_];obtain⟨j,rfl⟩:=Int.eq_ofNat_of_zero_le O;have q:j<s.length:=by lia
 obtain⟨x,e,h2⟩:=h j (.int s[j]) (by rw[aD,ak q];rfl);cases e;rw[zH,aj,ak q];show h2
theorem ziP {rm:AG}:∀ {l:AS},(∀d∈l,zt2 rm d)->AreS rm (.lst l)
 | [],_=>#[[],BA,by simp]
 | d::l,h=>by obtain⟨s,rfl,hs⟩:=h d (.head _);obtain⟨BE,e,h2⟩:=ziP λe q=>h e (.tail _ q);cases e;show#[s::BE,BA,by simpa using #[hs,h2]]
inductive F_wh  (Pn:PN):AU->Nat->AV->Prop
 | i {n:Nat} {R:AV} {d:Dt}  (h:R (.d (.bl (ztX d))) n)  : F_wh Pn [.d d] n R
def zfp (T:Txt K mg t):FnOk P w K mg base CX0 1 t.f10 t.d10 [Au] (spV 1 false F_wh):=by show Fun.okW (k:=0) (fr:=false) [] 0 T.q10.F zgI BA (by ext) BA λB A q s H E Pn J=>#[_,(zg (zp (wE zaP <| zjJ (JE.bo (wE zdU <| ze9 (by rfl) T.b_isinstance T.b_int (kb 0))) (zl4 (wE zmg <| zvf (JE.bo (wE zdU <| zdM (by rfl) T.b_isinstance T.b_bool (kb 0)))))))),λO n R I=>?_];obtain @⟨_,_,d,r⟩:=I;left;cases d <;> show r
inductive F_wo  (Pn:PN):AU->Nat->AV->Prop
 | i {n:Nat} {R:AV} {rm:AG} {i:Int} {d:Dt} (h0:0<=i) (h1:i<rm.length) (h:∀b:Bool,(b=true↔WOk rm i d)->R (.d (.bl b)) n)  : F_wo Pn [.d (stD rm),.d (.int i),.d d] n R
def zfq (T:Txt K mg t):FnOk P w K mg base CX0 2 t.f11 t.d11 lI (spV 3 false F_wo):=by
 have G10:=zfp (P:=P) (w:=w) (base:=base) T;show Fun.okW (k:=1) (fr:=false) [] 0 T.q11.F zgJ BA (by ext) BA λB A q s H E Pn I=>#[_,(zg (zp (wE zaP <| zjJ (JE.bo (wE zk <| yI T.q10 G10 I (za (kv 2) ze))) (zl4 (wE zj0 <| zoY zmr zkm zuq zur (JE.bo zo) (kb 2) (JE.bo (yT zF yz (kb 0) (kb 1) (λ_ _=>rfl)))))))),λU n R J=>?_];obtain @⟨_,_,rm,i,d,O,h1,r⟩:=J;left;show F_wh.i ?_
 cases d with
 | int x=>
  left;show x9 (λh2=>?_) (λh2=>?_);left;show onA O h1 ?_;left;show r _ #[λh=>#[x,BA,h2,bp h],λ⟨y,e,_,h⟩=>by cases e;show a8 h];left;show r _ #[λh=>(by cases h),λ⟨y,e,h,_⟩=>by cases e;show absurd h h2]
 | _=>
  left;show r _ #[λh=>(by cases h),λ⟨y,e,_⟩=>by cases e]
inductive F_sd  (Pn:PN):AU->Nat->AV->Prop
 | i {n:Nat} {R:AV} {rm:AG} {d:Dt} (hR:RoomOk rm) (h:∀b:Bool,(b=true↔zt2 rm d)->R (.d (.bl b)) n)  : F_sd Pn [.d (stD rm),.d d] n R
def zcm (T:Txt K mg t):FnOk P w K mg base CX0 3 t.f12 t.d12 lH (spV 2 false F_sd):=by
 have G11:=zfq (P:=P) (w:=w) (base:=base) T
 show Fun.okW (k:=2) (fr:=false) [] 2 T.q12.F xP BA (by ext) BA λac A U s H E Pn hr=>#[_,(zb (wS zy <| yp (JW.t (wW zaQ <| zdR (wT xu <| uQ (wT zl <| uR (JE.bo (wE zdU <| zcT (by rfl) T.b_isinstance T.b_tuple (kb 1))))) (x6 (.inr BA) (wT zl <| zC zcY zne (JE.bo (zD z6 yY (by rfl) T.b_len aP (zi (kb 1) zj))) (JE.bo (zD z6 yY (by rfl) T.b_len aP (zi (kb 0) zj))) (zt _))))) (zg (zp zaH)) zx)
   (zb (xa bh BA (wI zpi <| zo2 BA T.b_enumerate (za (kv 1) ze)) (wG zhb <| zhf (n:=2) K BA BA (wH xY <| yy (wG yf <| zq (i:=2) xP.nd) (wH xY <| yy (wG yf <| zq (i:=3) xP.nd) (wH ze0 zb6)))) (zg (wS zy <| yp (wT xu <| uQ (wT zl <| uR (JE.bo (wE zk <| yI T.q11 G11 hr (za (kv 0) (za (kv 2) (za (kv 3) ze))))))) (zg (zp zaH)) zx)))
   (zg (zp zaH)))),λws n R hF=>?_]
 obtain @⟨_,_,rm,d,hR,r⟩:=hF;left;have no:(∀l,d≠.tup l)->R (.d (.bl false)) n:=λh=>r false #[λz=>(by cases z),λ⟨s,e,_⟩=>absurd e (h _)]
 cases d with
 | tup l=>
  left;rw[ab];show zkj (λh=>?_) (λh=>?_);left;show r false #[λz=>(by cases z),?_];rintro⟨s,e,hs⟩;cases e;rw[ab,hs.len] at h;show absurd BA h;have hl:l.length=rm.length:=by lia
  left;show yK (List.range l.length) (λk:Nat=>W.d (.tup [.int (k:Int),l.getD k .non])) (by have:=zow id Dt.non l;rwa[List.map_id] at this) (λi D m=>m=n/\∃Y Z,D=[some (.d (stD rm)),some (.d (.tup l)),Y,Z]/\∀j:Nat,j<i->WOk rm j (l.getD j .non)) #[BA,_,_,BA,λj h=>by lia] ?_ ?_;rintro i k D m hk ⟨rfl,Y,Z,rfl,O⟩ C B E hC _ hE;obtain⟨I,J⟩:=ah.mp hk;rw[aG] at I;rw[cF] at J;subst J;left;show F_wo.i (by lia) (by lia) λb hb=>?_;cases b;left;show hE (r false #[λz=>(by cases z),?_]);rintro⟨s,e,hs⟩;cases e;rw[ab] at I;have ad:=hs.len;have hx:=hs.box i (by lia) (by lia);rw[zH] at hx;cases hb.mpr #[s.getD i 0,by rw[aj,aj,aD,ak I];rfl,hx];left;show hC #[BA,_,_,BA,λj hj=>?_];rcases Nat.lt_succ_iff_lt_or_eq.mp hj with q | q;show O j q;subst q;show hb.mp BA;rintro D m ⟨rfl,Y,Z,rfl,O⟩;rw[aG] at O;left;show r true #[λ_=>ztY hl λj d hd=>?_,λ_=>rfl];have:=O j (ah.mp hd).1;rwa[aj,hd] at this
 | _=>
  left;show no λ_ e=>by cases e
inductive F_ast  (Pn:PN):AU->Nat->AV->Prop
 | i {n:Nat} {R:AV} {rm:AG} {d:Dt} (hR:RoomOk rm) (h:∀b:Bool,(b=true↔AreS rm d)->R (.d (.bl b)) n)  : F_ast Pn [.d (stD rm),.d d] n R
def x8 (T:Txt K mg t):FnOk P w K mg base CX0 4 t.f13 t.d13 lH (spV 2 false F_ast):=by
 have G12:=zcm (P:=P) (w:=w) (base:=base) T
 show Fun.okW (k:=3) (fr:=false) [] 1 T.q13.F uF BA (by ext) BA λac A J s H E Pn hr=>#[_,(zb (wS zy <| yp (wT xu <| uQ (wT zl <| uR (JE.bo (wE zdU <| zdN (by rfl) T.b_isinstance T.b_list (kb 1))))) (zg (zp zaH)) zx)
   (zb (xa bh BA (wI uo <| um K BA (kv 1)) (wG yf <| zq (i:=2) uF.nd) (zg (wS zy <| yp (wT xu <| uQ (wT zl <| uR (JE.bo (wE zk <| yI T.q12 G12 hr (za (kv 0) (za (kv 2) ze)))))) (zg (zp zaH)) zx)))
   (zg (zp zaH)))),λws n R hF=>?_]
 obtain @⟨_,_,rm,d,hR,r⟩:=hF;left;have no:(∀l,d≠.lst l)->R (.d (.bl false)) n:=λh=>r false #[λz=>(by cases z),λ⟨s,e,_⟩=>absurd e (h _)]
 cases d with
 | lst l=>
  left;show yK l (λd=>W.d d) BA (λi D m=>m=n/\∃O,D=[some (.d (stD rm)),some (.d (.lst l)),O]/\∀d∈l.take i,zt2 rm d) #[BA,_,BA,by simp] ?_ ?_;rintro i d D m U ⟨rfl,O,rfl,I⟩ C B E hC _ hE;left;show F_sd.i hR λb Y=>?_;cases b;left;show hE (r false #[λz=>(by cases z),?_]);rintro⟨BE,e,hs⟩;cases e;obtain⟨s,h1,h2⟩:=au.mp (az U);cases Y.mpr #[s,h2.symm,hs s h1];left;show hC #[BA,_,BA,λe Z=>?_];rw[zr U] at Z;rcases aF.mp Z with q | q;show I e q;rw[aq.mp q];show Y.mp BA;rintro D m ⟨rfl,O,rfl,I⟩;rw[bJ] at I;left;show r true #[λ_=>ziP I,λ_=>rfl]
 | _=>
  left;show no λ_ e=>by cases e
def zjt{l:AF}(h:i<l.length):l.getD i []∈l:=by rw[aj,ak h];show bD _
def znh (bk:AW)(hs:AG)(BE:AF):Bool:=(List.range (BE.length - 1)).all λi=>decide (BE.getD (i+1) []∈yH bk (BE.getD i []) hs)
inductive F_walked (P:Aa) (w:Ab) (C:Addr) (Pn:PN):AU->Nat->AV->Prop
 | i {n:Nat} {R:AV} {L:LdI} {BE:AF} (hL:Pn.J=ldJ L) (hP:L.P=P) (hw:L.w=w) (hC:L.C=C) (hs:∀st∈BE,StOk L.rm st) (hl:BE.length<=1000) (h:R (.d (.bl (znh L.bk L.hs BE))) n)  : F_walked P w C Pn [.pen L.a,.d (.lst (BE.map stD))] n R
def zd7 (T:Txt K mg t):FnOk P w K mg base CX0 5 t.f14 t.d14 lY (spV 2 false (F_walked P w t.C_Leads)):=by
 have G_Leads_after:=xN (P:=P) (w:=w) (base:=base) T;show Fun.okW (k:=4) (fr:=false) [] 0 T.q14.F zfF BA (by ext) BA λJ A q s H E Pn I=>#[_,(zg (zp (zD (zrp BA) zwa (by rfl) T.b_all PyProof.Rows.boot_all (zi (JE.bo (uC (N:=lR) (BD:=[none,none,some 0]) BA (by fail"c") (wI zmd <| zo3 BA T.b_zip (za (kv 1) (za (wE uT <| zfc (kb 1) (wO xE <| uP (JE.bo zo)) uO) ze))) (λ_ _ _ _=>(wG zhb <| zhf (n:=2) K BA BA (wH xY <| yy (wG yf <| zq (i:=0) (show (lR:AM).Nodup by decide +kernel)) (wH xY <| yy (wG yf <| zq (i:=1) (show (lR:AM).Nodup by decide +kernel)) (wH ze0 zb6))))) (λ_ _ _ _=>xo) (λ_ _ _ _=>(zgo (zsq I.units) zwb (kb 1) (JE.bo (zgn (i:=2) P w BA BA T.Leads G_Leads_after I (qv 2) (by ext) (za (kv 0) ze))) (by with_unfolding_all rfl))))) zj)))),λws n R O=>?_];obtain @⟨_,_,L,BE,U,Y,Z,hC,hs,hl,r⟩:=O;left;rw[znk];show zbY (List.range (BE.length - 1)) (λi:Nat=>W.d (.tup [stD (BE.getD i []),stD (BE.getD (i+1) [])])) BA (λD=>∃u v,D=[u,v,some (.pen L.a)]) (λi=>.bl (decide (BE.getD (i+1) []∈yH L.bk (BE.getD i []) L.hs))) (by rw[aG];show aH (by lia:_<=1000) (by ext)) #[_,_,BA] ?_ ?_;rintro i hi ac ⟨u,v,rfl⟩ C hY;have B:i+1<BE.length:=by have:=aM.mp hi;lia
 have h1:BE.getD i []∈BE:=zjt (by lia);have h2:BE.getD (i+1) []∈BE:=zjt B;left;show#[L,U,Y,Z,hC,BA,?_];left;show#[_,BA,hs _ h1,?_];left;show#[ye,yO _,λb hb=>?_];have e:b=decide (BE.getD (i+1) []∈yH L.bk (BE.getD i []) L.hs):=by rw[cA,hb,decide_eq_true_iff];show zpt
 rw[e];show hY #[_,_,BA];left;show#[_,(aI (f:=λi=>decide (BE.getD (i+1) []∈yH L.bk (BE.getD i []) L.hs)) (g:=Dt.bl)).symm,?_];rw[List.all_map];show r
def zuy (g:AG->AF)(one other:AG)(BE:AF):Prop:=2<=BE.length/\Way g one other BE
def zuz {BE:AF}(h:1<=BE.length):atI (BE.map stD) (-1)=some (stD (BE.getD (BE.length - 1) [])):=by unfold atI ixN;rw[ab,if_neg (by ext),if_pos (by lia),show ((-1:Int)+BE.length).toNat=BE.length - 1 by lia];change (BE.map stD)[BE.length - 1]?=_;rw[aD,ak (by lia),aj,ak (by lia)];rfl
def zq6{hs one other:AG}{BE:AF}(h2:2<=BE.length):zuy (λs=>yH bk s hs) one other BE↔BE.getD 0 []=one/\BE.getD (BE.length - 1) []=other/\znh bk hs BE=true:=by
 have q:BE[0]?=some (BE.getD 0 []):=by rw[aj,ak (by lia)];rfl
 have B:BE.getLast?=some (BE.getD (BE.length - 1) []):=by rw[dQ,aj,ak (by lia)];rfl
 have F:znh bk hs BE=true↔∀i,i+1<BE.length->BE.getD (i+1) []∈yH bk (BE.getD i []) hs:=by unfold znh;rw[ck];show#[λh i hi=>bp (h i (aM.mpr (by lia))),λh i hi=>a8 (h i (by have:=aM.mp hi;lia))]
 rw[F];constructor;rintro⟨_,w⟩;show#[ce (q.symm.trans w.hd),ce (B.symm.trans w.lt),w.st];rintro⟨a,b,c⟩;show#[h2,#[by rw[q,a],by rw[B,b],c]]
inductive F_isw (P:Aa) (w:Ab) (C:Addr) (Pn:PN):AU->Nat->AV->Prop
 | i {n:Nat} {R:AV} {L:LdI} {one other:AG} {BE:AF} (hL:Pn.J=ldJ L) (hP:L.P=P) (hw:L.w=w) (hC:L.C=C) (hR:RoomOk L.rm) (hs:∀st∈BE,StOk L.rm st) (hl:BE.length<=1000) (h:∀b:Bool,(b=true↔zuy (λs=>yH L.bk s L.hs) one other BE)->R (.d (.bl b)) n)  : F_isw P w C Pn [.pen L.a,.d (stD one),.d (stD other),.d (uK BE)] n R
def zih (T:Txt K mg t):FnOk P w K mg base CX0 6 t.f15 t.d15 lC (spV 4 false (F_isw P w t.C_Leads)):=by
 have G13:=x8 (P:=P) (w:=w) (base:=base) T;have G14:=zd7 (P:=P) (w:=w) (base:=base) T
 show Fun.okW (k:=5) (fr:=false) [] 0 T.q15.F zkR BA (by ext) BA λac A U s H E Pn O=>#[_,(zb (wS zy <| yp (JW.t (wW zaQ <| zdR (wT xu <| uQ (wT zl <| uR (JE.bo (wE zk <| yI T.q13 G13 O (za (zl2 T.Leads.c (qv 0) (by ext)) (za (kv 3) ze)))))) (x6 (.inr BA) (wT zl <| zC zkm zur (JE.bo (zD z6 yY (by rfl) T.b_len aP (zi (kb 3) zj))) (JE.bo zo) (zt _))))) (zg (zp zaH)) zx)
   (zg (zp (wE zaP <| zjJ (JE.bo (zgo (zhu O.units) znc (JE.bo (yT yk uL (kb 3) (JE.bo zo) (λ_ _=>rfl))) (kb 1) (zt _))) (wE zaP <| zjJ (JE.bo (zgo (zhu O.units) znc (JE.bo (yT yk uL (kb 3) (JE.bo (j_un ztR zwd (JE.bo zo))) (λ_ _=>rfl))) (kb 2) (zt _))) (zl4 (wE zk <| yI T.q14 G14 O (za (kv 0) (za (kv 3) ze))))))))),λws n R hF=>?_]
 obtain @⟨_,_,L,one,other,BE,Y,hP,hw,Z,hR,hs,hl,r⟩:=hF;left;show#[L,Y,Z,BA,?_];left;show F_ast.i hR λb hb=>?_;obtain rfl:b=true:=hb.mpr #[BE,BA,hs];left;rw[ab];show x9 (λh2=>?_) (λh2=>?_);left;show r false #[λz=>(by cases z),λz=>absurd z.1 (by lia)];have l2:2<=BE.length:=by lia
 have wi:=zq6 (bk:=L.bk) (hs:=L.hs) (one:=one) (other:=other) l2;have no:∀ {Q:Prop},¬ Q->((false=true)↔Q):=λh=>#[λz=>(by cases z),λz=>absurd z h];left;show zV (zaD (i:=0) (by lia)) ?_;left;show#[ye,ye,λb1 I=>?_];left;show zmp (λq=>?_) (λq=>?_);have q:=zbi (I.mp q);left;show zV (zuz (by lia)) ?_;left;show#[ye,ye,λb2 J=>?_];left;show zmp (λB=>?_) (λB=>?_);have B:=zbi (J.mp B);left;show F_walked.i Y hP hw Z hs hl ?_;show r _ #[λz=>wi.mpr #[q,B,z],λz=>(wi.mp z).2.2];show r false (no λz=>by rw[J.mpr (by rw[(wi.mp z).2.1])] at B;cases B);show r false (no λz=>by rw[I.mpr (by rw[(wi.mp z).1])] at q;cases q)
inductive F_lway (P:Aa) (w:Ab) (C:Addr) (Pn:PN):AU->Nat->AV->Prop
 | i {n:Nat} {R:AV} {rm:AG} {bk:AW} {one other hs:AG} {BE:AF} {v:W} (hJ:Pn.J=J0) (hv:v = .d (stD hs)\/(hs=[]/\v = .d .non)) (hR:RoomOk rm) (hB:xR rm bk) (ho:∀st∈BE,StOk rm st) (hl:BE.length<=1000) (h:∀b:Bool,(b=true↔zuy (λs=>yH bk s hs) one other BE)->R (.d (.bl b)) n)  : F_lway P w C Pn [.d (stD rm),.d (xV bk),.d (stD one),.d (stD other),.d (uK BE),v] n R
def zbn (T:Txt K mg t):FnOk P w K mg base CX0 7 t.f16 t.d16 lf (spV 6 false (F_lway P w t.C_Leads)):=by have G15:=zih (P:=P) (w:=w) (base:=base) T;have G_Leads_init:=xf (P:=P) (w:=w) (base:=base) T;show FunD.okW (k:=6) (fr:=false) [] 0 T.q16.F zgK BA (by ext) BA λI A q s H E Pn J=>#[_,(zg (zp (zl0 P w BA BA T.Leads T.q15 G_Leads_init G15 J T.Leads.b .nil (dv:=[]) (λ_ _=>rfl) (za (kv 0) (za (kv 1) (za (kv 5) ze))) (za (kv 2) (za (kv 3) (za (kv 4) ze))) ))),λws n R O=>?_];obtain @⟨_,_,rm,bk,one,other,hs,BE,v,U,Y,B,Z,ho,hl,r⟩:=O;left;show#[U,?_];left;show#[rm,bk,hs,v,BA,Y,B,Z,?_];left;show#[BA,BA,?_];rintro L hP hw hC rfl rfl rfl;show F_isw.i BA hP hw hC B ho hl r
def zoi (g:AG->AF)(other:AG)(BE:AF):Prop:=∀s∈BE,∀u∈g s,u≠other/\u∈BE
inductive F_ish (P:Aa) (w:Ab) (C:Addr) (Pn:PN):AU->Nat->AV->Prop
 | i {n:Nat} {R:AV} {L:LdI} {other:AG} {BE:AF} (hL:Pn.J=ldJ L) (hP:L.P=P) (hw:L.w=w) (hC:L.C=C) (hs:∀st∈BE,StOk L.rm st) (hl:BE.length<=60) (h:∀b:Bool,(b=true↔zoi (λs=>yH L.bk s L.hs) other BE)->R (.d (.bl b)) n)  : F_ish P w C Pn [.pen L.a,.d (stD other),.d (uK BE)] n R
def zgv (T:Txt K mg t):FnOk P w K mg base CX0 5 t.f17 t.d17 lQ (spV 3 false (F_ish P w t.C_Leads)):=by
 have G_Leads_after:=xN (P:=P) (w:=w) (base:=base) T
 show Fun.okW (k:=4) (fr:=false) [] 3 T.q17.F zai BA (by ext) BA λa0 A an s H E Pn hr=>#[_,(zb (wS zm <| zu (i:=3) zai.nd (yx (zi2 hr.units BA) zoe (by rfl) T.b_set PyProof.Rows.boot_set (zi (kb 2) zj)))
   (zb (xa bh BA (wI uo <| um K BA (kv 2)) (wG yf <| zq (i:=4) zai.nd) (zg (xa bh BA (zrV K BA (zgn (i:=0) P w BA BA T.Leads G_Leads_after hr (qv 0) (by ext) (za (kv 4) ze))) (wG yf <| zq (i:=5) zai.nd) (zg (wS zy <| yp (JW.t (wW zaQ <| zdR (wT zl <| zC (zhu hr.units) znc (kb 5) (kb 1) (zt _)) (x6 (.inr BA) (wT zl <| zC (zpD (ze5 hr)) ztM (kb 5) (kb 3) (by with_unfolding_all rfl))))) (zg (zp zaH)) zx)))))
   (zg (zp zaH)))),λws n R hF=>?_]
 obtain @⟨_,_,L,other,BE,hL,hP,hw,hC,hs,hl,r⟩:=hF;left;have no:∀ {Q:Prop},¬ Q->((false=true)↔Q):=λh=>#[λz=>(by cases z),λz=>absurd z h];show#[BE,BA,λks hn Y=>a6 (yW hn Y) (by lia),λks hn Z=>?_];left;show yK BE (λs=>W.d (stD s)) (by rw[aI];rfl) (λi D m=>m=n/\∃ (v4 J:Option W),D=[some (.pen L.a),some (.d (stD other)),some (.d (uK BE)),some (.ss P w ks),v4,J]/\∀s∈BE.take i,∀u∈yH L.bk s L.hs,u≠other/\u∈BE) #[BA,_,_,BA,by simp] ?_ ?_;rintro i s D m ac ⟨rfl,v4,J,rfl,q⟩ C B X ap _ hX;have O:=az ac;left;show#[L,hL,hP,hw,hC,BA,?_];left;show#[_,BA,hs s O,?_];left;show#[_,BA,?_];show yK (yH L.bk s L.hs) (λs=>W.d (stD s)) (by rw[aI];rfl) (λj D m'=>m'=m/\∃ (J:Option W),D=[some (.pen L.a),some (.d (stD other)),some (.d (uK BE)),some (.ss P w ks),some (.d (stD s)),J]/\∀u∈(yH L.bk s L.hs).take j,u≠other/\u∈BE) #[BA,_,BA,by simp] ?_ ?_;rintro j u D m' hu ⟨rfl,J,rfl,I⟩ C' B' X' ad _ ag;have al:=az hu;left;show#[ye,ye,λb hb=>?_];left;show zmp (λz=>?_) (λz=>?_);left;show ag (hX (r false (no λy=>(y s O u al).1 (zbi (hb.mp z)))));have as:u≠other:=λy=>by rw[hb.mpr (by rw[y])] at z;cases z
 left;show#[u,ks,BA,BA,λc hc=>?_];left;show zav (λz=>?_) (λz=>?_);left;show ag (hX (r false (no λy=>by rw[hc.mpr ((Z u).mpr (y s O u al).2)] at z;cases z)));left;show ad #[BA,_,BA,λy hy=>?_];rw[zr hu,aF] at hy;rcases hy with U | U;show I y U;rw[aq.mp U];show#[as,(Z u).mp (hc.mp z)];rintro D m' ⟨rfl,J,rfl,I⟩;rw[bJ] at I;show ap #[BA,_,_,BA,λy hy=>?_];rw[zr ac,aF] at hy;rcases hy with U | U;show q y U;rw[aq.mp U];show I;rintro D m ⟨rfl,v4,J,rfl,q⟩;rw[bJ] at q;left;show r true #[λ_=>q,λ_=>rfl]
inductive F_lsh (P:Aa) (w:Ab) (C:Addr) (Pn:PN):AU->Nat->AV->Prop
 | i {n:Nat} {R:AV} {rm:AG} {bk:AW} {one other hs:AG} {BE:AF} {v:W} (hJ:Pn.J=J0) (hv:v = .d (stD hs)\/(hs=[]/\v = .d .non)) (hR:RoomOk rm) (hB:xR rm bk) (ho:∀st∈BE,StOk rm st) (hl:BE.length<=60) (h:∀b:Bool,(b=true↔Up' BE/\one∈BE/\zoi (λs=>yH bk s hs) other BE)->R (.d (.bl b)) n)  : F_lsh P w C Pn [.d (stD rm),.d (xV bk),.d (stD one),.d (stD other),.d (uK BE),v] n R
def zd8 (T:Txt K mg t):FnOk P w K mg base CX0 6 t.f18 t.d18 lf (spV 6 false (F_lsh P w t.C_Leads)):=by
 have G13:=x8 (P:=P) (w:=w) (base:=base) T;have G17:=zgv (P:=P) (w:=w) (base:=base) T;have G_Leads_init:=xf (P:=P) (w:=w) (base:=base) T
 show FunD.okW (k:=5) (fr:=false) [] 0 T.q18.F zfG BA (by ext) BA λal A ac s H E Pn O=>#[_,(zb (wS zy <| yp (JW.t (wW zaQ <| zdR (wT xu <| uQ (wT zl <| uR (JE.bo (wE zk <| yI T.q13 G13 O (za (kv 0) (za (kv 4) ze)))))) (wW zaQ <| zdR (wT zl <| zC (znP O.units) ztL (kb 4) (JE.bo (zD (zg2 BA) zqY (by rfl) T.b_sorted cG (zi (JE.bo (yx (zi2 O.units BA) zoe (by rfl) T.b_set PyProof.Rows.boot_set (zi (kb 4) zj))) zj))) (zt _)) (x6 (.inr BA) (wT zl <| zC (zfs O.units) ztJ (kb 2) (kb 4) (by with_unfolding_all rfl)))))) (zg (zp zaH)) zx)
   (zg (zp (zl0 P w BA BA T.Leads T.q17 G_Leads_init G17 O T.Leads.b .nil (dv:=[]) (λ_ _=>rfl) (za (kv 0) (za (kv 1) (za (kv 5) ze))) (za (kv 3) (za (kv 4) ze)) )))),λws n R hF=>?_]
 obtain @⟨_,_,rm,bk,one,other,hs,BE,v,hJ,hv,hR,hB,ho,hl,r⟩:=hF;left;have no:∀ {Q:Prop},¬ Q->((false=true)↔Q):=λh=>#[λz=>(by cases z),λz=>absurd z h];show F_ast.i hR λb I=>?_;obtain rfl:b=true:=I.mpr #[BE,BA,ho];have q:∀y∈BE,y.length=rm.length:=λy hy=>(ho y hy).len;left;show#[BE,BA,λks hn U=>a6 (yW hn U) (by lia),λks hn J=>?_];left;show#[ks,rm.length,BA,a6 (yW hn λz hz=>(J z).mp hz) (by lia),hR.pos,λz hz=>q z ((J z).mp hz),λB ad hu=>?_];have hm:∀z,z∈B↔z∈BE:=λz=>(ad.mem_iff).trans (J z);left;show#[yO _,yO _,λb I=>?_];left;show zav (λz=>?_) (λz=>?_);left;show r false (no λy=>?_);rw[I.mpr (by rw[show BE=B from (zet q y.1 λ_=>Iff.rfl).trans (zet q hu hm).symm])] at z;cases z
 ·have e:BE=B:=(List.map_inj_right λx y=>zbi).mp (Dt.lst.inj (I.mp z));rw[<- e] at hu;left;show#[ye,yO _,λb2 Y=>?_];rw[show xr true b2 = !b2 by cases b2 <;> rfl];show zav (λZ=>?_) (λZ=>?_);left;show r false (no λy=>by rw[Y.mpr (zcg.mpr y.2.1)] at Z;cases Z);have ag:=zcg.mp (Y.mp Z);left;show#[hJ,?_];left;show#[rm,bk,hs,v,BA,hv,hR,hB,?_];left;show#[BA,BA,?_];rintro L hP hw hC rfl rfl rfl;show F_ish.i BA hP hw hC ho hl λb I=>r b #[λy=>#[hu,ag,I.mp y],λy=>I.mpr y.2.2]
def ziV{rm:AG}(h:xR rm bk):xR rm (bk.map zae):=λx q=>by obtain⟨y,B,rfl⟩:=au.mp q;show (h y B).turn
inductive F_trn  (Pn:PN):AU->Nat->AV->Prop
 | i {n:Nat} {R:AV} {bk:AW} (hl:bk.length<=1100) (h:R (.d (xV (bk.map zae))) n)  : F_trn Pn [.d (xV bk)] n R
def zii (T:Txt K mg t):FnOk P w K mg base CX0 1 t.f19 t.d19 [Ak] (spV 1 false F_trn):=by
 show Fun.okW (k:=0) (fr:=false) [] 0 T.q19.F zkS BA (by ext) BA λB A q s H E Pn Y=>#[_,(zg (zp (yx zN xQ (by rfl) T.b_tuple bm (zi (JE.bo (uC (N:=lr) (BD:=[none,none,none,none]) BA (by fail"c") (wI zdV <| zhg K BA (kv 0)) (λ_ _ _ _=>(wG zhb <| zhf (n:=4) K BA BA (wH xY <| yy (wG yf <| zq (i:=0) (show (lr:AM).Nodup by decide +kernel)) (wH xY <| yy (wG yf <| zq (i:=1) (show (lr:AM).Nodup by decide +kernel)) (wH xY <| yy (wG yf <| zq (i:=2) (show (lr:AM).Nodup by decide +kernel)) (wH xY <| yy (wG yf <| zq (i:=3) (show (lr:AM).Nodup by decide +kernel)) (wH ze0 zb6))))))) (λ_ _ _ _=>xo) (λ_ _ _ _=>(y6 (za (kv 0) (za (kv 1) (za (kv 3) (za (kv 2) ze)))))))) zj)))),λZ n R I=>?_];obtain @⟨_,_,bk,J,r⟩:=I;left;show zbY bk (λx=>W.d (yN x)) (by rw[aI];rfl) (λD=>∃a b c d,D=[a,b,c,d]) (λx=>yN (zae x)) (aH J (by ext)) #[_,_,_,_,BA] ?_ ?_;rintro x hx O ⟨a,b,c,d,rfl⟩ C U;left;show U #[_,_,_,_,BA];left;rw[show (bk.map λx=>yN (zae x))=(bk.map zae).map yN by rw[aI];rfl];show r
inductive F_size  (Pn:PN):AU->Nat->AV->Prop
 | i {n:Nat} {R:AV} {ns:AG} {x:Dt} (hw:x=stD ns\/x=lsD ns) (hb:∀m∈ns,2<=m/\m<=4) (h:R (.d (.int (zY ns))) n)  : F_size Pn [.d x] n R
def zaT (T:Txt K mg t):FnOk P w K mg base CX0 1 t.f20 t.d20 lq (spV 1 false F_size):=by
 show Fun.okW (k:=0) (fr:=false) [] 2 T.q20.F xJ BA (by ext) BA λJ A q s H E Pn hr=>#[_,(zb (wS zm <| zu (i:=1) xJ.nd zo)
   (zb (xa bh BA (wI zj5 <| znE K BA (kv 0)) (wG yf <| zq (i:=2) xJ.nd) (zg (wS zm <| zu (i:=1) xJ.nd (zas uX zqW (kb 1) (kb 2)))))
   (zg (zp (kv 1))))),λws n R O=>?_]
 obtain @⟨_,_,ns,x,U,Y,r⟩:=O;left;refine' zsb _ (λkey=>?_) ?_;rotate_left;rcases U with rfl | rfl;left;generalize W.d (stD ns)=x;show key x;left;generalize W.d (lsD ns)=x;show key x;intro x;show yK ns (λi=>.d (.int i)) (by rw[aI];rfl) (λi D m=>m=n/\∃v,D=[some x,some (.d (.int (zY (ns.take i)))),v]) #[BA,none,BA] ?_ ?_;rintro i a D m I ⟨rfl,v,rfl⟩ C B E Z _ _;have hm:=Y a (az I);left;show#[.inr #[by lia,by lia],Z #[BA,some (.d (.int a)),?_]];rw[zr I,yR];rintro D m ⟨rfl,v,rfl⟩;rw[bJ];left;show r
inductive F_allQ  (Pn:PN):AU->Nat->AV->Prop
 | i {n:Nat} {R:AV} {ns:AG} {x:Dt} (hw:x=stD ns\/x=lsD ns) (hb:∀m∈ns,2<=m/\m<=4) (h8:ns.length<=8) (h:R (.d (uK (zam (ns.map zK)))) n)  : F_allQ Pn [.d x] n R
def zfo (T:Txt K mg t):FnOk P w K mg base CX0 1 t.f21 t.d21 lq (spV 1 false F_allQ):=by
 show Fun.okW (k:=0) (fr:=false) [] 2 T.q21.F uz BA (by ext) BA λac A O s H E Pn hr=>#[_,(zb (wS zm <| zu (i:=1) uz.nd (zaI (za (y6 ze) ze)))
   (zb (xa bh BA (wI zj5 <| znE K BA (kv 0)) (wG yf <| zq (i:=2) uz.nd) (zg (wS zm <| zu (i:=1) uz.nd (uC (N:=lO) (BD:=[none,some 1,some 2]) BA (by fail"c") (wI yP <| yh BA T.b_range (zi (JE.bo (zas uX zqW (JE.bo (zD z6 yY (by rfl) T.b_len aP (zi (kb 1) zj))) (kb 2))) zj)) (λ_ _ _ _=>(wG yf <| zq (i:=0) (show (lO:AM).Nodup by decide +kernel))) (λ_ _ _ _=>xo) (λ_ _ _ _=>(zas zaA zfO (JE.bo (yT yk uL (kb 1) (JE.bo (zas zec ztI (kb 0) (kb 2))) (λ_ _=>rfl))) (JE.bo (y6 (za (zas uE znd (kb 0) (kb 2)) ze)))))))))
   (zg (zp (kv 1))))),λws n R hF=>?_]
 obtain @⟨_,_,ns,x,hw,hb,h8,r⟩:=hF;left;refine' zsb _ (λkey=>?_) ?_;rotate_left;rcases hw with rfl | rfl;left;generalize W.d (stD ns)=x;show key x;left;generalize W.d (lsD ns)=x;show key x;intro x;show yK ns (λi=>.d (.int i)) (by rw[aI];rfl) (λi D m=>m=n/\∃v,D=[some x,some (.d (uK (zam ((ns.take i).map zK)))),v]) #[BA,none,BA] ?_ ?_;rintro i a D m ha ⟨rfl,v,rfl⟩ C B E U _ _;have hm:=hb a (az ha);obtain⟨w,rfl⟩:∃w:Nat,a=(w:Int):=#[a.toNat,by lia];have q:=zgT h8 hb i;have I:∀st∈zam ((ns.take i).map zK),st.length<=8:=λst Y=>by rw[zlo _ _ Y,ab,bq];lia
 have J:(List.range ((zam ((ns.take i).map zK)).length * w)).map (λk=>(zam ((ns.take i).map zK)).getD (k / w) []++[((k % w:Nat):Int)])=zam ((ns.take (i+1)).map zK):=by rw[zr ha,aR,aB,eU,xm,zg4 _ (by lia)]
 generalize zam ((ns.take i).map zK)=rows at q J I;have Z:rows.length * w<=262144:=Nat.mul_le_mul q (by lia:w<=4);left;have e:(((rows.map stD).length:Nat):Int) * (w:Int)=((rows.length * w:Nat):Int):=by rw[ab,eA]
 show#[.inr #[by lia,by lia],?_];left;rw[e];show#[#[by lia,by lia],?_];rw[aS,xG];show zbY (List.range (rows.length * w)) (λk:Nat=>W.d (.int (k:Int))) BA (λD=>∃v,D=[v,some (.d (uK rows)),some (.d (.int (w:Int)))]) (λk=>stD (rows.getD (k / w) []++[((k % w:Nat):Int)])) (by rw[aG];show aH Z (by ext)) #[_,BA] ?_ ?_;rintro k hk ad ⟨v,rfl⟩ C U;have ag:=aM.mp hk;have hd:k / w<rows.length:=Nat.div_lt_of_lt_mul (by rwa[Nat.mul_comm]);have e1:(k:Int) / (w:Int)=((k / w:Nat):Int):=by lia
 have e2:(k:Int) % (w:Int)=((k % w:Nat):Int):=by lia
 left;show#[#[by lia,by lia],?_];left;rw[e1];show zV (zaD hd) ?_;left;show#[by lia,?_];left;show#[zvk (aH (I _ (yD hd)) (by ext)),?_];rw[zt6,e2];show U #[_,BA];rw[show (List.range (rows.length * w)).map (λk=>stD (rows.getD (k / w) []++[((k % w:Nat):Int)]))=((List.range (rows.length * w)).map λk=>rows.getD (k / w) []++[((k % w:Nat):Int)]).map stD by rw[aI];rfl,J];left;show U #[BA,_,BA];rintro D m ⟨rfl,v,rfl⟩;rw[bJ];left;show r
inductive F_mkRm (K:AH) (Pn:PN):AU->Nat->AV->Prop
 | i {n:Nat} {R:AV} {p:Addr} {most:Int} (hP:zbV K Pn p) (hmo:4<=most/\most<=64) (h:∀rm m,RoomOk rm->zY rm<=most->m<=n+20->R (.d (stD rm)) m) (hn:n+30<=1000000:=by lia):F_mkRm K Pn [.pen p,.d (.int most)] n R
def zd6 (T:Txt K mg t):FnOk P w K mg base CX0 2 t.f22 t.d22 ll (spV 2 false (F_mkRm K)):=by
 have G1:=zI (P:=P) (w:=w) (base:=base) T;have G20:=zaT (P:=P) (w:=w) (base:=base) T
 show Fun.okW (k:=1) (fr:=false) [] 4 T.q22.F yt BA (by ext) BA λad A ac s H E Pn I=>#[_,(zb (wS zm <| zu (i:=2) yt.nd (zaI (za (y6 (za zo ze)) (za (y6 (za zo (za zo ze))) (za (y6 (za zo (za zo (za zo (za zo ze))))) (za (y6 (za zo (za zo ze))) (za (y6 (za zo (za zo (za zo (za zo (za zo (za zo ze))))))) (za (y6 (za zo (za zo (za zo ze)))) (za (y6 (za zo (za zo (za zo (za zo ze))))) ze)))))))))
   (zb (wS zm <| zu (i:=3) yt.nd (yT yk uL (kb 2) (JE.bo (wE zk <| yI T.q1 G1 I (za (kv 0) (za zo ze)))) (λ_ _=>rfl)))
   (zb (wS zy <| yp (JW.t (wW zcd <| zfd (wT zl <| zC zmr zuq (JE.bo (wE zk <| yI T.q20 G20 I (za (kv 3) ze))) (kb 1) (zt _)) (x6 (.inl BA) (wT zl <| zC uJ zfP (JE.bo (wE zk <| yI T.q1 G1 I (za (kv 0) (za zo ze)))) (JE.bo zo) (zt _))))) (zg (zp (kv 3))) zx)
   (zb (wS zm <| zu (i:=3) yt.nd (y6 ze))
   (zb (xa bh BA (wI yP <| yh BA T.b_range (zi (JE.bo (zas yL zbH (JE.bo zo) (JE.bo (wE zk <| yI T.q1 G1 I (za (kv 0) (za zo ze)))))) zj)) (wG yf <| zq (i:=4) yt.nd) (zb (wS zm <| zu (i:=5) yt.nd (zas yL zbH (JE.bo zo) (JE.bo (wE zk <| yI T.q1 G1 I (za (kv 0) (za zo ze))))))
   (zg (wS zy <| yp (wT zl <| zC zmr zuq (JE.bo (zas uX zqW (JE.bo (wE zk <| yI T.q20 G20 I (za (kv 3) ze))) (kb 5))) (kb 1) (zt _)) (zg (wS zm <| zu (i:=3) yt.nd (zas zaA zfO (kb 3) (JE.bo (y6 (za (kv 5) ze)))))) zx))))
   (zg (zp (kv 3)))))))),λws n R hF=>?_]
 obtain @⟨_,_,p,q,Z,ag,r,hn⟩:=hF;left;show dr Z λa a0 a1=>?_;left;show zsg a0 a1 λx hx=>?_
 obtain⟨rm,rfl,hR,hp⟩:∃rm,x=stD rm/\RoomOk rm/\zY rm<=256:=by
  simp only[aA,bW,or_false] at hx;rcases hx with rfl | rfl | rfl | rfl | rfl | rfl | rfl;show uy [2] BA (by ext);show uy [4,2] BA (by ext);show uy [2,2,2,2] BA (by ext);show uy [4,4] BA (by ext);show uy [2,2,2,2,2,2] BA (by ext);show uy [4,4,4] BA (by ext);show uy [3,2,4,2] BA (by ext)
 left;show F_size.i (.inl BA) hR.box ?_;left;refine' zvD (n+2) _ (λzz=>?_) ?_;rotate_left;show x9 (λhsz=>?_) (λ_=>?_);left;show dr Z λb b0 b1=>?_;left;show x9 (λ_=>?_) (λ_=>?_);left;show r rm _ hR hsz (by lia);left;generalize O:n+1+1=U;show zz U (by lia);left;generalize O:n+1=U;show zz U (by lia);intro U O;left;show dr Z λt t0 t1=>?_;left;show#[#[by lia,by lia],zeY (λi D m=>m<=U+1+i/\∃rm v2 v4 v5,D=[some (.pen p),some (.d (.int q)),v2,some (.d (stD rm)),v4,v5]/\(∀r∈rm,2<=r/\r<=4)/\zY rm<=q/\(1<=i->rm≠[])) #[by lia,[],_,_,_,BA,by simp,by change (1:Int)<=q;lia,by lia] ?_ ?_];rintro i D m hi ⟨hm,rm,v2,v4,v5,rfl,J,hp,Y⟩ C B E hC _ _;left;show dr Z λw w0 w1=>?_;have h8:=zbp J (by lia);left;show F_size.i (.inl BA) J ?_;left;show#[.inr #[by lia,by lia],?_];left;show x9 (λhc=>?_) (λhc=>?_);left;show#[zvk (by lia),?_];rw[zt6];show hC #[by lia,rm++[2+w],_,_,_,BA,λr I=>?_,by rw[yR];show hc,λ_=>by simp];rcases aF.mp I with z | z;show J r z;rw[aq.mp z];lia;left;show hC #[by lia,rm,_,_,_,BA,J,hp,λ_ z=>hc ?_];subst z;change 1 * (2+w)<=q;lia;rintro D m ⟨hm,rm,v2,v4,v5,rfl,J,hp,Y⟩;left;show r rm m #[Y (by lia),zbp J (by lia),J] (by lia) (by lia)
inductive F_mkSt (K:AH) (Pn:PN):AU->Nat->AV->Prop
 | i {n:Nat} {R:AV} {p:Addr} {rm:AG} (hP:zbV K Pn p) (hR:RoomOk rm) (h:∀st m,StOk rm st->m<=n+8->R (.d (stD st)) m) (hn:n+20<=1000000:=by lia):F_mkSt K Pn [.pen p,.d (stD rm)] n R
def zbf (T:Txt K mg t):FnOk P w K mg base CX0 2 t.f23 t.d23 lc (spV 2 false (F_mkSt K)):=by
 have G1:=zI (P:=P) (w:=w) (base:=base) T;show Fun.okW (k:=1) (fr:=false) [] 0 T.q23.F zbF BA (by ext) BA λZ A I s H E Pn hr=>#[_,(zg (zp (yx zN xQ (by rfl) T.b_tuple bm (zi (JE.bo (uC (N:=lW) (BD:=[none,some 0]) BA (by fail"c") (wI zdV <| zhg K BA (kv 1)) (λ_ _ _ _=>(wG yf <| zq (i:=0) (show (lW:AM).Nodup by decide +kernel))) (λ_ _ _ _=>xo) (λ_ _ _ _=>(wE zk <| yI T.q1 G1 hr (za (kv 1) (za (kv 0) ze)))))) zj)))),λws n R hF=>?_];obtain @⟨_,_,p,rm,hP,Y,r,hn⟩:=hF;left;have h8:=Y.few;show zg0 rm (λi=>.d (.int i)) (by rw[aI];rfl) (aH h8 (by ext)) (λi q J acc=>J=n+i/\i<=rm.length/\∃ (v:Option W) (st:AG),q=[v,some (.pen p)]/\acc=st.map Dt.int/\StOk (rm.take i) st) #[BA,aL _,none,[],BA,BA,BA,λb b0 b1=>absurd b1 (by simp;lia)] ?_ ?_;rintro i a q J acc O ⟨rfl,hi,v,st,rfl,rfl,B⟩ C hC;have hm:=Y.box a (az O);have U:=(ah.mp O).1;left;show dr hP λt t0 t1=>?_;left;rw[zt6];show hC #[BA,U,_,st++[t],BA,BA,?_];rw[zr O];show B.snoc t0 t1;rintro q J acc ⟨rfl,hi,v,st,rfl,rfl,B⟩;rw[bJ] at B;show r st _ B (by lia)
inductive F_mkGv (K:AH) (Pn:PN):AU->Nat->AV->Prop
 | i {n:Nat} {R:AV} {p:Addr} {rm:AG} {box:Int} (hP:zbV K Pn p) (hR:RoomOk rm) (h:∀g m,Giv rm g->(∀q∈g,q.1≠box)->m<=n+20->R (.d (zua g)) m) (hn:n+40<=1000000:=by lia):F_mkGv K Pn [.pen p,.d (stD rm),.d (.int box)] n R
def zcW (T:Txt K mg t):FnOk P w K mg base CX0 2 t.f24 t.d24 lA (spV 3 false (F_mkGv K)):=by
 have G1:=zI (P:=P) (w:=w) (base:=base) T
 show Fun.okW (k:=1) (fr:=false) [4] 3 T.q24.F xi BA (by ext) BA λal A ac s H E Pn hr=>#[_,(zb (wS zm <| zu (i:=3) xi.nd (zas yL zbH (JE.bo zo) (JE.bo (wE zk <| yI T.q1 G1 hr (za (kv 0) (za zo ze))))))
   (zb (wS y8 <| zat (i:=4) xi.nd (zaI ze))
   (zb (xa bh BA (wI yP <| yh BA T.b_range (zi (JE.bo (zD z6 yY (by rfl) T.b_len aP (zi (kb 1) zj))) zj)) (wG yf <| zq (i:=5) xi.nd) (zg (wS zy <| yp (JW.t (wW zcd <| zfd (wT zl <| zC uJ zfP (JE.bo (wE zk <| yI T.q1 G1 hr (za (kv 0) (za (zas yL zbH (JE.bo zo) (kb 3)) ze)))) (JE.bo zo) (zt _)) (x6 (.inl BA) (wT zl <| zC zcY zne (kb 5) (kb 2) (zt _))))) (zg (wS zgq <| zjK 4 (y6 (za (kv 5) (za (wE zk <| yI T.q1 G1 hr (za (kv 0) (za (yT zF yz (kb 1) (kb 5) (λ_ _=>rfl)) ze))) ze))))) zx)))
   (zg (zp (yx zN xQ (by rfl) T.b_tuple bm (zi (kb 4) zj))))))),λws n R hF=>?_]
 obtain @⟨_,_,p,rm,O,hP,hR,r,hn⟩:=hF;left;have h8:=hR.few;show dr hP λra an ap=>?_;left;rw[ab];show#[#[by lia,by lia],zeY (λi D m=>m<=n+1+2 * i/\i<=rm.length/\∃g U,D=[some (.pen p),some (.d (stD rm)),some (.d (.int O)),some (.d (.int (1+ra))),some (.d (.lst (g.map uu))),U]/\Giv rm g/\(∀q∈g,q.1≠O)/\(∀q∈g,q.1<(i:Int))/\g.length<=i) #[by lia,aL _,[],_,BA,#[by simp,.nil],by simp,by simp,aL _] ?_ ?_];rintro i D m hi ⟨hm,ad,g,U,rfl,hG,I,J,ag⟩ C B E hC _ _;have as:=ue hR.box (b:=(i:Int)) (by lia) (by lia);left;show dr hP λt t0 t1=>?_;have Y:∀U,C [some (.pen p),some (.d (stD rm)),some (.d (.int O)),some (.d (.int (1+ra))),some (.d (.lst (g.map uu))),U] (m+1):=λU=>hC #[by lia,by lia,g,_,BA,hG,I,λq Z=>by have:=J q Z;lia,by lia];left;show x9 (λ_=>?_) (λ_=>#[Y _]);left;show zkj (λhb=>?_) (λ_=>#[Y _]);left;show onA (by lia) (by lia) ?_;left;show dr hP λu u0 u1=>?_;left;show#[by rw[ab];show a6 (by lia:_<=8) (by ext),hC #[by lia,by lia,g++[((i:Int),u)],_,by rw[aR];rfl,hG.snoc J (by lia) (by lia) u0 u1,λq Z=>?_,λq Z=>?_,by rw[am];simp;lia]];rcases aF.mp Z with z | z;show I q z;rw[aq.mp z];show hb;rcases aF.mp Z with z | z;have:=J q z;lia;rw[aq.mp z];change (i:Int)<((i+1:Nat):Int);lia;rintro D m ⟨hm,ad,g,U,rfl,hG,I,J,ag⟩;left;show r g m hG I (by lia)
inductive F_mkWi (K:AH) (Pn:PN):AU->Nat->AV->Prop
 | i {n:Nat} {R:AV} {p:Addr} {rm:AG} {way:Int} (hP:zbV K Pn p) (hR:RoomOk rm) (h:∀x m,WishOk rm x->m<=n+30->R (.d (yN x)) m) (hn:n+60<=1000000:=by lia):F_mkWi K Pn [.pen p,.d (stD rm),.d (.int way)] n R
def ut (T:Txt K mg t):FnOk P w K mg base CX0 3 t.f25 t.d25 ln (spV 3 false (F_mkWi K)):=by
 have G1:=zI (P:=P) (w:=w) (base:=base) T;have G24:=zcW (P:=P) (w:=w) (base:=base) T
 show Fun.okW (k:=2) (fr:=false) [] 3 T.q25.F yX BA (by ext) BA λag A ac s H E Pn hr=>#[_,(zb (wS zm <| zu (i:=3) yX.nd (wE zk <| yI T.q1 G1 hr (za (kv 0) (za (zD z6 yY (by rfl) T.b_len aP (zi (kb 1) zj)) ze))))
   (zb (wS zm <| zu (i:=4) yX.nd (wE zk <| yI T.q1 G1 hr (za (kv 0) (za (yT zF yz (kb 1) (kb 3) (λ_ _=>rfl)) ze))))
   (zb (wS zm <| zu (i:=5) yX.nd (zas uE znd (JE.bo (zas yL zbH (JE.bo (zas yL zbH (kb 4) (JE.bo zo))) (JE.bo (wE zk <| yI T.q1 G1 hr (za (kv 0) (za (zas zkn zqZ (JE.bo (yT zF yz (kb 1) (kb 3) (λ_ _=>rfl))) (JE.bo zo)) ze)))))) (JE.bo (yT zF yz (kb 1) (kb 3) (λ_ _=>rfl)))))
   (zb (wS zy <| yp (JW.t (wW zcd <| zfd (wT zl <| zC uJ zfP (kb 2) (JE.bo zo) (zt _)) (x6 (.inl BA) (wT zl <| zC zkm zur (kb 5) (kb 4) (zt _))))) (zg (wS zpp <| zrY (i:=5) (j:=4) BA yX.nd BA BA BA BA (za (kv 4) (za (kv 5) ze)))) zx)
   (zg (zp (y6 (za (wE zk <| yI T.q24 G24 hr (za (kv 0) (za (kv 1) (za (kv 3) ze)))) (za (kv 3) (za (kv 5) (za (kv 4) ze))))))))))),λws n R hF=>?_]
 obtain @⟨_,_,p,rm,al,Y,Z,r,hn⟩:=hF;left;have h8:=Z.few;have ad:=Z.pos;rw[ab];show dr Y λq O U=>?_;have hm:=ue Z.box O U;left;show onA O U ?_;left;show dr Y λJ w0 w1=>?_;left;show onA O U ?_;left;show dr Y λt t0 t1=>?_;left;show onA O U ?_;left;show#[by lia,?_];have c0:=cS (J+1+t) (show zQ rm q≠0 by lia);have c1:=ci (J+1+t) (show 0<zQ rm q by lia)
 have I:(J+1+t) % zQ rm q≠J:=by
  have h3:zQ rm q=2\/zQ rm q=3\/zQ rm q=4:=by lia
  revert w1 t1;generalize zQ rm q=mm at h3;rcases h3 with rfl | rfl | rfl <;> lia
 generalize (J+1+t) % zQ rm q=be at c0 c1 I;left;show x9 (λ_=>?_) (λ_=>?_);left;show x9 (λ_=>?_) (λ_=>?_);left;show F_mkGv.i Y Z λg m hG B hm=>?_;left;show r #[g,q,J,be] m #[hG,O,U,B,w0,w1,c0,c1,Ne.symm I] (by lia);left;show F_mkGv.i Y Z λg m hG B hm=>?_;left;show r #[g,q,be,J] m #[hG,O,U,B,c0,c1,w0,w1,I] (by lia);left;show F_mkGv.i Y Z λg m hG B hm=>?_;left;show r #[g,q,be,J] m #[hG,O,U,B,c0,c1,w0,w1,I] (by lia)
inductive F_turned (K:AH) (Pn:PN):AU->Nat->AV->Prop
 | i {n:Nat} {R:AV} {p:Addr} {l:AS} (hP:zbV K Pn p) (hl:l.length<=1000) (h:∀l':AS,l'.Perm l->R (.d (.lst l')) (n+l.length)) (hn:n+l.length+5<=1000000:=by lia):F_turned K Pn [.pen p,.d (.lst l)] n R
def zcl (T:Txt K mg t):FnOk P w K mg base CX0 2 t.f26 t.d26 lJ (spV 2 true (F_turned K)):=by
 have G1:=zI (P:=P) (w:=w) (base:=base) T
 show Fun.okW (k:=1) (fr:=true) [2] 2 T.q26.F xO BA (by ext) BA λY A J s H E Pn Z=>#[_,(zb (wS y8 <| zat (i:=2) xO.nd (zaI ze))
   (zb (xa bh BA (wI uo <| um K BA (kv 1)) (wG yf <| zq (i:=3) xO.nd) (zg (wS zj4 <| znG 2 (wE zk <| yI T.q1 G1 Z (za (kv 0) (za (zas yL zbH (JE.bo (zD z6 yY (by rfl) T.b_len aP (zi (kb 2) zj))) (JE.bo zo)) ze))) (kv 3))))
   (zg (wS zhp <| zjM 2)))),λws n R hF=>?_]
 obtain @⟨_,_,p,l,hP,hl,r,hn⟩:=hF;left;show yK l W.d BA (λi D m=>m=n+i/\i<=l.length/\∃l' v,D=[some (.pen p),some (.d (.lst l)),some (.d (.lst l')),v]/\l'.Perm (l.take i)) #[BA,aL _,[],_,BA,.refl _] ?_ ?_;rintro i a D m U ⟨rfl,O,l',v,rfl,q⟩ C B E hC _ _;have I:=q.length_eq;rw[bq] at I;have hi:=(ah.mp U).1;left;show dr hP λt t0 t1=>?_;left;show#[#[t0,by lia,a6 (by lia:_<=1000) (by ext)],hC #[by lia,hi,_,_,BA,?_]];rw[zr U];show .trans ?_ (List.perm_append_comm (l₁:=[a]));show .trans List.perm_middle (List.Perm.cons a ?_);rw[aX];show q;rintro D m ⟨rfl,O,l',v,rfl,q⟩;rw[bJ] at q;left;show r l' q
def difK (a b:AG):Nat:=((List.range a.length).filter λk=>!decide (a.getD k 0=b.getD k 0)).headD 0
inductive F_full  (Pn:PN):AU->Nat->AV->Prop
 | i {n:Nat} {R:AV} {rm a b:AG} (hR:RoomOk rm) (ha:StOk rm a) (hb:StOk rm b) (hne:a≠b) (h:∀x,WishOk rm x->x=zoM a b (difK a b)->R (.d (yN x)) n)  : F_full Pn [.d (stD a),.d (stD b)] n R
def zd3 (T:Txt K mg t):FnOk P w K mg base CX0 1 t.f27 t.d27 lN (spV 2 false F_full):=by
 show Fun.okW (k:=0) (fr:=false) [] 2 T.q27.F zac BA (by ext) BA λag A B s H E Pn hr=>#[_,(zb (wS zm <| zu (i:=2) zac.nd (yT yk uL (JE.bo (uC (N:=lU) (BD:=[none,some 0,some 1]) BA (by fail"c") (wI yP <| yh BA T.b_range (zi (JE.bo (zD z6 yY (by rfl) T.b_len aP (zi (kb 0) zj))) zj)) (λ_ _ _ _=>(wG yf <| zq (i:=0) (show (lU:AM).Nodup by decide +kernel))) (λ_ _ _ _=>(zdQ (wT zl <| zC zcY zne (JE.bo (yT zF yz (kb 1) (kb 0) (λ_ _=>rfl))) (JE.bo (yT zF yz (kb 2) (kb 0) (λ_ _=>rfl))) (zt _)))) (λ_ _ _ _=>(kv 0)))) (JE.bo zo) (λ_ _=>rfl)))
   (zb (wS zm <| zu (i:=3) zac.nd (yx zN xQ (by rfl) T.b_tuple bm (zi (JE.bo (uC (N:=lV) (BD:=[none,some 0,some 2]) BA (by fail"c") (wI yP <| yh BA T.b_range (zi (JE.bo (zD z6 yY (by rfl) T.b_len aP (zi (kb 0) zj))) zj)) (λ_ _ _ _=>(wG yf <| zq (i:=0) (show (lV:AM).Nodup by decide +kernel))) (λ_ _ _ _=>(zdQ (wT zl <| zC zcY zne (kb 0) (kb 2) (zt _)))) (λ_ _ _ _=>(y6 (za (kv 0) (za (yT zF yz (kb 1) (kb 0) (λ_ _=>rfl)) ze)))))) zj)))
   (zg (zp (y6 (za (kv 3) (za (kv 2) (za (yT zF yz (kb 1) (kb 2) (λ_ _=>rfl)) (za (yT zF yz (kb 0) (kb 2) (λ_ _=>rfl)) ze))))))))),λws n R hF=>?_]
 obtain @⟨_,_,rm,a,b,hR,ha,hb,I,r⟩:=hF;left;have J:=ha.len;have O:=hb.len;have h8:=hR.few;rw[ab];show#[#[by lia,by lia],?_];rw[aS,xG];show zbZ (List.range a.length) (λk:Nat=>W.d (.int (k:Int))) BA (λD=>∃v,D=[v,some (.d (stD a)),some (.d (stD b))]) (λk=>!decide (a.getD k 0=b.getD k 0)) (λk=>.int (k:Int)) (by rw[aG];show aH (by lia:a.length<=8) (by ext)) #[_,BA] ?_ ?_;rintro k q U ⟨v,rfl⟩ C Y Z;have al:=aM.mp q;left;show onA (by lia) (by lia) ?_;left;show onA (by lia) (by lia) ?_;left;rw[zH,zH];show zkj (λh=>?_) (λh=>?_);show Y (by rw[bE h];rfl) #[_,BA];show Z (by rw[a8 h];rfl) #[_,BA];obtain⟨k,zz,q,ac,ad⟩:=zje (J.trans O.symm) I;rw[q];left;show zV (zeI (i:=0) BA) ?_;left;rw[ab];show#[#[by lia,by lia],?_];rw[aS,xG];show zbZ (List.range a.length) (λk:Nat=>W.d (.int (k:Int))) BA (λD=>∃v,D=[v,some (.d (stD a)),some (.d (.int (k:Int)))]) (λi=>!decide (i=k)) (λi=>uu ((i:Int),a.getD i 0)) (by rw[aG];show aH (by lia:a.length<=8) (by ext)) #[_,BA] ?_ ?_;rintro i hi U ⟨v,rfl⟩ C Y Z;have an:=aM.mp hi;left;show zkj (λh=>?_) (λh=>?_);left;show onA (by lia) (by lia) ?_;left;rw[zH];show Y (by rw[bE (by lia)];rfl) #[_,BA];show Z (by rw[a8 (by lia)];rfl) #[_,BA];left;show onA (by lia) (by lia) ?_;left;show onA (by lia) (by lia) ?_;left;have:=r _ (zlO ha hb ac ad) (by unfold difK;rw[q];rfl);unfold zoM yN at this;rw[aI] at this;rw[zH,zH];show this
inductive F_snake  (Pn:PN):AU->Nat->AV->Prop
 | i {n:Nat} {R:AV} {rm:AG} (hR:RoomOk rm) (hp:zY rm<=256) (h:∀BE:AF,BE.Nodup->(∀st∈BE,StOk rm st)->(BE.length:Int)=zY rm->R (.d (uK BE)) n)  : F_snake Pn [.d (stD rm)] n R
def zcX (T:Txt K mg t):FnOk P w K mg base CX0 1 t.f28 t.d28 lq (spV 1 true F_snake):=by
 show Fun.okW (k:=0) (fr:=true) [1,3] 5 T.q28.F yj BA (by ext) BA λa0 A ap s H E Pn hr=>#[_,(zb (wS y8 <| zat (i:=1) yj.nd (zaI (za (y6 ze) ze)))
   (zb (xa bh BA (wI zdV <| zhg K BA (kv 0)) (wG yf <| zq (i:=2) yj.nd) (zb (wS y8 <| zat (i:=3) yj.nd (zaI ze))
   (zb (xa bh BA (wI yP <| yh BA T.b_range (zi (JE.bo (zD z6 yY (by rfl) T.b_len aP (zi (kb 1) zj))) zj)) (wG yf <| zq (i:=4) yj.nd) (zb (wS zm <| zo5 (i:=5) (zdP (ix:=5) yj.nd BA BA (N:=lS) (BD:=[none,some 1,some 4]) BA (by fail"c") (wI yP <| yh BA T.b_range (zi (kb 2) zj)) (λ_ _ _ _=>(wG yf <| zq (i:=0) (show (lS:AM).Nodup by decide +kernel))) (λ_ _ _ _=>xo) (λ_ _ _ _=>(zas zaA zfO (JE.bo (yT yk uL (kb 1) (kb 2) (λ_ _=>rfl))) (JE.bo (y6 (za (kv 0) ze)))))))
   (zg (wS zj3 <| znF 3 (yT yk uL (JE.bo (zaI (za (kv 5) (za (wE zaR <| zfb (kb 5)) ze)))) (JE.bo (zas uE znd (kb 4) (JE.bo zo))) (λ_ _=>rfl))))))
   (zg (wS zmf <| zl6 (i:=1) 3 yj.nd BA (Or.inr BA))))))
   (zg (wS zhp <| zjM 1)))),λws n R hF=>?_]
 obtain @⟨_,_,rm,hR,hp,r⟩:=hF;left;have h8:=hR.few;have Y:∀i,zY (rm.take i)<=65536:=λi=>by rw[<- ug _ λn hn=>by have:=hR.box n (bI hn);lia];have:=zgT h8 hR.box i;lia
 show yK rm (λi=>.d (.int i)) (by rw[aI];rfl) (λi D m=>m=n/\∃ (BE:AF) (v2 v3 J O:Option W),D=[some (.d (stD rm)),some (.d (uK BE)),v2,v3,J,O]/\BE.Nodup/\(∀st∈BE,StOk (rm.take i) st)/\(BE.length:Int)=zY (rm.take i)) #[BA,[[]],_,_,_,_,BA,by ext,λst Z=>?_,rfl] ?_ ?_;rw[aq.mp Z];show#[BA,λb b0 b1=>absurd b1 (by simp;lia)];rintro i a D m ha ⟨rfl,BE,v2,v3,J,O,rfl,hN,I,q⟩ C B E hC _ _;have hm:=hR.box a (az ha);have hf:=Y i;have a1:=Y (i+1);have al:zY (rm.take (i+1))=zY (rm.take i) * a:=by rw[zr ha,yR]
 obtain⟨w,rfl⟩:∃w:Nat,a=(w:Int):=#[a.toNat,by lia]
 have a2:BE.length * w<=65536:=by
  have:((BE.length * w:Nat):Int)=zY (rm.take (i+1)):=by rw[al,<- q,eA]
  lia
 left;rw[ab];show#[#[by lia,by lia],?_];rw[aS];show zeY (λk D m'=>m'=m/\∃ (U:AF) (J O:Option W),D=[some (.d (stD rm)),some (.d (uK BE)),some (.d (.int (w:Int))),some (.d (.lst (U.map stD))),J,O]/\U.Nodup/\(∀x∈U,∃b∈BE.take k,∃v:Int,0<=v/\v<w/\x=b++[v])/\U.length=k * w) #[BA,[],_,_,BA,.nil,by simp,by simp] ?_ ?_;rintro k D m' hk ⟨rfl,U,J,O,rfl,ac,ad,ag⟩ C B E hC _ _;left;show#[#[by lia,by lia],?_];rw[aS,xG];have as:=(I _ (yD hk)).len;rw[bq] at as;have a3:(k+1) * w<=BE.length * w:=Nat.mul_le_mul_right _ hk;show zbY (List.range w) (λv:Nat=>W.d (.int (v:Int))) BA (λD=>∃v,D=[v,some (.d (uK BE)),some (.d (.int (k:Int)))]) (λv=>stD (BE.getD k []++[(v:Int)])) (by rw[aG];show aH (by lia:w<=4) (by ext)) #[_,BA] ?_ ?_;rintro v hv a4 ⟨u,rfl⟩ C hC;left;show zV (zaD hk) ?_;left;show#[zvk (by lia),?_];rw[zt6];show hC #[_,BA];have an:(List.range w).map (λv:Nat=>stD (BE.getD k []++[(v:Int)]))=((List.range w).map λv:Nat=>BE.getD k []++[(v:Int)]).map stD:=by rw[aI];rfl
 rw[an];have fin:∀B:AF,B.Perm ((List.range w).map λv:Nat=>BE.getD k []++[(v:Int)])->∀J O,(U.map stD).length+(B.map stD).length<=lim/\C [some (.d (stD rm)),some (.d (uK BE)),some (.d (.int (w:Int))),some (.d (.lst (U.map stD++B.map stD))),J,O] m':=λB hB J O=>by obtain⟨q1,q2,q3⟩:=ziw hk hN ac ad ag hB;show#[?_,hC #[BA,U++B,_,_,by rw[aR],q1,q2,q3]];rw[ab,ab,<- am,q3];show aH (by lia:_<=65536) (by ext)
 generalize ((List.range w).map λv:Nat=>BE.getD k []++[(v:Int)])=blk at fin;left;have h2:(k:Int) % 2=0\/(k:Int) % 2=1:=by lia
 show#[by lia,?_];left;rcases h2 with e | e
 rw[e];with_reducible show zV xT ?_;show fin blk (.refl _) _ _
 rw[e];with_reducible show zV zby ?_;have:=fin blk.reverse (dJ _) (some (.d (.int (k:Int)))) (some (.d (.lst (blk.map stD))));rw[dW] at this;show this
 rintro D m' ⟨rfl,U,J,O,rfl,ac,ad,ag⟩;left;show hC #[BA,U,_,_,_,_,BA,ac,λst Z=>?_,?_];obtain⟨b,hb,v,v0,v1,rfl⟩:=ad st Z;rw[bJ] at hb;rw[zr ha];show (I b hb).snoc v0 v1;rw[ag,al,<- q,eA];rintro D m ⟨rfl,BE,v2,v3,J,O,rfl,hN,I,q⟩;rw[bJ] at q I;left;show r BE hN I q
inductive F_mkBk (K:AH) (Pn:PN):AU->Nat->AV->Prop
 | i {n:Nat} {R:AV} {p:Addr} {rm:AG} (hP:zbV K Pn p) (hR:RoomOk rm) (hp:zY rm<=256) (h:∀bk m,xR rm bk->bk.length<=1000->m<=n+4000->R (.d (xV bk)) m) (hn:n+5000<=1000000:=by lia):F_mkBk K Pn [.pen p,.d (stD rm)] n R
def zbe (T:Txt K mg t):FnOk P w K mg base CX0 4 t.f29 t.d29 lc (spV 2 false (F_mkBk K)):=by
 have G1:=zI (P:=P) (w:=w) (base:=base) T;have G25:=ut (P:=P) (w:=w) (base:=base) T;have G28:=zcX (P:=P) (w:=w) (base:=base) T;have G27:=zd3 (P:=P) (w:=w) (base:=base) T
 show Fun.okW (k:=3) (fr:=false) [3] 4 T.q29.F zM BA (by ext) BA λa2 A ap s H E Pn O=>#[_,(zb (wS zm <| zu (i:=2) zM.nd (wE zk <| yI T.q28 G28 O (za (kv 1) ze)))
   (zb (wS zy <| yp (wT zl <| zC uJ zfP (JE.bo (wE zk <| yI T.q1 G1 O (za (kv 0) (za zo ze)))) (JE.bo zo) (zt _)) (zg (wS zm <| zu (i:=2) zM.nd (wE zaR <| zfb (kb 2)))) zx)
   (zb (wS y8 <| zjL (i:=3) (zdP (ix:=3) zM.nd BA BA (N:=[A1,"_law_row"]) (BD:=[none,some 2]) BA (by fail"c") (wI yP <| yh BA T.b_range (zi (JE.bo (zas zkn zqZ (JE.bo (zD z6 yY (by rfl) T.b_len aP (zi (kb 2) zj))) (JE.bo zo))) zj)) (λ_ _ _ _=>(wG yf <| zq (i:=0) (show ([A1,"_law_row"]:AM).Nodup by decide +kernel))) (λ_ _ _ _=>xo) (λ_ _ _ _=>(wE zk <| yI T.q27 G27 O (za (yT yk uL (kb 1) (kb 0) (λ_ _=>rfl)) (za (yT yk uL (kb 1) (JE.bo (zas yL zbH (kb 0) (JE.bo zo))) (λ_ _=>rfl)) ze))))))
   (zb (wS zm <| zu (i:=4) zM.nd (wE zk <| yI T.q1 G1 O (za (kv 0) (za (zD z6 yY (by rfl) T.b_len aP (zi (kb 3) zj)) ze))))
   (zb (wS zm <| zu (i:=5) zM.nd (wE zk <| yI T.q1 G1 O (za (kv 0) (za zo ze))))
   (zb (wS zy <| yp (wT zl <| zC uJ zfP (kb 5) (JE.bo zo) (zt _)) (zg (wS y8 <| zat (i:=3) zM.nd (zas zeb zhO (JE.bo (wE uT <| zfc (kb 3) uO (wO xE <| uP (kb 4)))) (JE.bo (wE uT <| zfc (kb 3) (wO xE <| uP (JE.bo (zas yL zbH (kb 4) (JE.bo zo)))) uO))))) zx)
   (zb (wS zy <| yp (wT zl <| zC uJ zfP (kb 5) (JE.bo zo) (zt _)) (zg (wS zj6 <| znH 3 (kb 4) (wE zk <| yI T.q27 G27 O (za (yT yk uL (kb 2) (JE.bo (zas yL zbH (kb 4) (JE.bo zo))) (λ_ _=>rfl)) (za (yT yk uL (kb 2) (kb 4) (λ_ _=>rfl)) ze))))) zx)
   (zb (wS zy <| yp (wT zl <| zC uJ zfP (kb 5) (JE.bo zo) (zt _)) (zg (wS zj4 <| znG 3 (kv 4) (wE zk <| yI T.q25 G25 O (za (kv 0) (za (kv 1) (za zo ze)))))) zx)
   (zg (zp (yx zN xQ (by rfl) T.b_tuple bm (zi (kb 3) zj)))))))))))),λws n R hF=>?_]
 obtain @⟨_,_,p,rm,hP,hR,hp,r,hn⟩:=hF;left;show F_snake.i hR hp λBE hN B I=>?_;left;show dr hP λc c0 c1=>?_;have h2:=zkx hR.ne λn hn=>(hR.box n hn).1;left;refine' zsa (λBE:AF=>BE.Nodup/\(∀st∈BE,StOk rm st)/\(BE.length:Int)=zY rm) _ (λzz=>?_) ?_;rotate_left;show x9 (λ_=>?_) (λ_=>?_);left;rw[<- dW];have q:BE.reverse.Nodup/\(∀st∈BE.reverse,StOk rm st)/\(BE.reverse.length:Int)=zY rm:=#[(dJ BE).nodup_iff.mpr hN,λst as=>B st (bU.mp as),by rw[bB];show I];generalize BE.reverse=s2 at q ⊢;show zz s2 q;left;show zz BE #[hN,B,I];rintro BE ⟨hN,B,I⟩;left;have a3:BE.length<=256:=by lia
 have a4:2<=BE.length:=by lia
 rw[ab];show#[#[by lia,by lia],?_];have e1:((BE.length:Int) - 1).toNat=BE.length - 1:=by lia
 rw[e1,xG];show zg0 (List.range (BE.length - 1)) (λk:Nat=>W.d (.int (k:Int))) BA (by rw[aG];show aH (by lia:_<=256) (by ext)) (λi U n' acc=>n'=n+1/\i<=BE.length - 1/\∃ (v:Option W) (bk:AW),U=[v,some (.d (uK BE))]/\acc=bk.map yN/\xR rm bk/\bk.length=i) #[BA,aL _,none,[],BA,BA,by intro x Y;simp at Y,BA] ?_ ?_;rintro i k U n' acc hk ⟨rfl,hi,v,bk,rfl,rfl,Z,ac⟩ C hC;obtain⟨ad,ag⟩:=ah.mp hk;rw[aG] at ad;rw[cF] at ag;subst ag;left;show zV (zaD (by lia)) ?_;left;rw[show ((i:Int)+1)=((i+1:Nat):Int) from rfl];show zV (zaD (by lia)) ?_;left;show F_full.i hR (B _ (yD (by lia))) (B _ (yD (by lia))) (zc9 hN (by lia)) λx Y _=>?_;show hC #[BA,ad,_,bk++[x],BA,by rw[aR];rfl,Z.app (λy hy=>by rw[aq.mp hy];show Y),by rw[am,ac];rfl];rintro U n' acc ⟨rfl,hi,v,bk,rfl,rfl,Z,ac⟩;rw[aG] at ac;left;rw[ab];show dr hP λal a0 a1=>?_;left;show dr hP λJ w0 w1=>?_;have an:J=0\/J=1\/J=2\/J=3:=by lia
 obtain⟨j,rfl⟩:∃j:Nat,al=(j:Int):=#[al.toNat,by lia];left;rcases an with rfl | rfl | rfl | rfl;fail"ct";rw[zbb,zbb];have c1:=zdC bk none (some (j:Int));have c2:=zdC bk (some ((j:Int)+1)) none;show#[by rw[ab,ab];show aH (by lia:_<=1000) (by ext),?_];rw[<- aR];left;fail"cf";fail"cf";show r _ _ ((Z.cut _ _).app (Z.cut _ _)) (by rw[am];lia) (by lia);fail"cf";fail"ct";rw[show ((j:Int)+1)=((j+1:Nat):Int) from rfl];show zV (zaD (by lia)) ?_;left;show zV (zaD (by lia)) ?_;left;show F_full.i hR (B _ (yD (by lia))) (B _ (yD (by lia))) (Ne.symm (zc9 hN (by lia))) λx Y _=>?_;left;show#[#[by lia,by rw[ab];lia],?_];rw[aS,<- List.map_set];left;fail"cf";show r _ _ (Z.set Y j) (by rw[bR];lia) (by lia);fail"cf";fail"cf";fail"ct";show F_mkWi.i hP hR λx m Y hm=>?_;left;show#[#[by lia,by rw[ab];lia,by rw[ab];show a6 (by lia:_<=1000) (by ext)],?_];rw[aS,zoU];left;show r _ _ (Z.ins Y j) (by rw[zoT];lia) (by lia);fail"cf";fail"cf";fail"cf";show r _ _ Z (by lia) (by lia)
def zfz{rm B:AG}(I:∀q∈B,0<=q/\q<rm.length)(J:B.length<=100)(h:Q (.d (lsD (B.map (zQ rm)))) m):zeP (eN 0) zui (zrd zt7 (zrc 1) (zrc 0)) [none,some (.d (stD rm))] Q ((B.map Dt.int).map W.d) m:=by
 show zbY B (λq=>W.d (.int q)) (by rw[aI];rfl) (λD=>∃v,D=[v,some (.d (stD rm))]) (λq=>.int (zQ rm q)) (aH J (by ext)) #[_,BA] ?_ ?_;rintro q O U ⟨v,rfl⟩ C Y;have F:=I q O;left;show onA F.1 F.2 ?_;show Y #[_,BA];have:B.map (λq=>Dt.int (zQ rm q))=(B.map (zQ rm)).map Dt.int:=by rw[aI];rfl
 rw[this];show h
def zck (T:Txt K mg t):FnOk P w K mg base CX0 3 t.f30 t.d30 lc (spV 2 false (F_mkBk K)):=by
 have G1:=zI (P:=P) (w:=w) (base:=base) T;have G20:=zaT (P:=P) (w:=w) (base:=base) T;have G21:=zfo (P:=P) (w:=w) (base:=base) T;have G26:=zcl (P:=P) (w:=w) (base:=base) T
 show Fun.okW (k:=2) (fr:=false) [3] 8 T.q30.F zE BA (by ext) BA λcx A be s H E Pn hr=>#[_,(zb (wS zm <| zu (i:=2) zE.nd (wE zk <| yI T.q26 G26 hr (za (kv 0) (za (wE zce <| zfa T.b_list T.b_range (zi (JE.bo (zD z6 yY (by rfl) T.b_len aP (zi (kb 1) zj))) zj)) ze))))
   (zb (wS y8 <| zat (i:=3) zE.nd (zaI ze))
   (zb (xa bh BA (wI yP <| yh BA T.b_range (zi (JE.bo (zD z6 yY (by rfl) T.b_len aP (zi (kb 2) zj))) zj)) (wG yf <| zq (i:=4) zE.nd) (zb (wS zm <| zu (i:=5) zE.nd (yT yk uL (kb 2) (kb 4) (λ_ _=>rfl)))
   (zb (wS zm <| zu (i:=6) zE.nd (zD zlB zqX (by rfl) T.b_sorted cG (zi (JE.bo (wE uT <| zfc (JE.bo (wE zk <| yI T.q26 G26 hr (za (kv 0) (za (wE uT <| zfc (kb 2) uO (wO xE <| uP (kb 4))) ze)))) uO (wO xE <| uP (JE.bo (wE zk <| yI T.q1 G1 hr (za (kv 0) (za zo ze))))))) zj)))
   (zb (wS zy <| yp (wT zl <| zC zil zup (JE.bo (wE zk <| yI T.q20 G20 hr (za (uC (N:=lE) (BD:=[none,some 1]) BA (by fail"c") (wI uo <| um K BA (kv 6)) (λ_ _ _ _=>(wG yf <| zq (i:=0) (show (lE:AM).Nodup by decide +kernel))) (λ_ _ _ _=>xo) (λ_ _ _ _=>(yT zF yz (kb 1) (kb 0) (λ_ _=>rfl)))) ze))) (JE.bo zo) (zt _)) (zg (wS zm <| zu (i:=6) zE.nd (wE uT <| zfc (kb 6) uO (wO xE <| uP (JE.bo zo))))) zx)
   (zg (xa bh BA (wI uo <| um K BA (wE zk <| yI T.q21 G21 hr (za (uC (N:=lE) (BD:=[none,some 1]) BA (by fail"c") (wI uo <| um K BA (kv 6)) (λ_ _ _ _=>(wG yf <| zq (i:=0) (show (lE:AM).Nodup by decide +kernel))) (λ_ _ _ _=>xo) (λ_ _ _ _=>(yT zF yz (kb 1) (kb 0) (λ_ _=>rfl)))) ze))) (wG yf <| zq (i:=7) zE.nd) (zb (wS zm <| zu (i:=8) zE.nd (wE zk <| yI T.q26 G26 hr (za (kv 0) (za (wE zce <| zfa T.b_list T.b_range (zi (JE.bo (yT zF yz (kb 1) (kb 5) (λ_ _=>rfl))) zj)) ze))))
   (zb (wS zm <| zu (i:=9) zE.nd (yx zN xQ (by rfl) T.b_tuple bm (zi (JE.bo (uC (N:=lT) (BD:=[none,none]) BA (by fail"c") (wI zme <| zo4 BA T.b_zip (za (kv 6) (za (kv 7) ze))) (λ_ _ _ _=>(wG zhb <| zhf (n:=2) K BA BA (wH xY <| yy (wG yf <| zq (i:=0) (show (lT:AM).Nodup by decide +kernel)) (wH xY <| yy (wG yf <| zq (i:=1) (show (lT:AM).Nodup by decide +kernel)) (wH ze0 zb6))))) (λ_ _ _ _=>xo) (λ_ _ _ _=>(y6 (za (kv 0) (za (kv 1) ze)))))) zj)))
   (zg (wS zj3 <| znF 3 (uC (N:=lG) (BD:=[none,some 9,some 5,some 8]) BA (by fail"c") (wI yP <| yh BA T.b_range (zi (JE.bo (zas zkn zqZ (JE.bo (yT zF yz (kb 1) (kb 5) (λ_ _=>rfl))) (JE.bo zo))) zj)) (λ_ _ _ _=>(wG yf <| zq (i:=0) (show (lG:AM).Nodup by decide +kernel))) (λ_ _ _ _=>xo) (λ_ _ _ _=>(y6 (za (kv 1) (za (kv 2) (za (yT yk uL (kb 3) (JE.bo (zas yL zbH (kb 0) (JE.bo zo))) (λ_ _=>rfl)) (za (yT yk uL (kb 3) (kb 0) (λ_ _=>rfl)) ze)))))))))))))))))
   (zg (zp (yx zN xQ (by rfl) T.b_tuple bm (zi (kb 3) zj))))))),λws n R hF=>?_]
 obtain @⟨_,_,p,rm,hP,hR,hp,r,hn⟩:=hF;left;have h8:=hR.few;rw[ab];show#[#[by lia,by lia],?_];rw[aS,zfy];show F_turned.i hP (by rw[ab,yS];lia) (λl bl=>?_) (by rw[ab,yS];lia);obtain⟨bs,rfl,an⟩:=zcu bl;have bx:=an.length_eq;rw[ab,yS];rw[yS] at bx;left;rw[ab];show#[#[by lia,by lia],?_];rw[aS];show zeY (λk D m=>m<=n+8+50 * k/\∃ (bk:AW) (v4 v5 v6 v7 v8 v9:Option W),D=[some (.pen p),some (.d (stD rm)),some (.d (.lst (bs.map Dt.int))),some (.d (.lst (bk.map yN))),v4,v5,v6,v7,v8,v9]/\xR rm bk/\bk.length<=27 * k) #[by lia,[],_,_,_,_,_,_,BA,by intro x hx;simp at hx,aL _] ?_ ?_
 ·rintro k D m hk ⟨hm,bk,v4,v5,v6,v7,v8,v9,rfl,hB,a0⟩ C B E hC _ _;left;show onA (by lia) (by lia) ?_;left;rw[zH,zbb,L3.zag];show F_turned.i hP (by rw[ab,bq];lia) (λl2 b0=>?_) (by rw[ab,bq];lia);obtain⟨ps,rfl,a1⟩:=zcu b0;have b1:=a1.length_eq;rw[bq] at b1;rw[ab,bq];left;show dr hP λt t0 t1=>?_;left;rw[zbb];have a2:=zdC ps none (some t);show#[_,BA,by lia,λqs a3 b2=>?_];have J:=zst an (by lia) a1 a3 b2;have c0:=a3.length_eq;have b3:bs.getD k 0∈bs:=by rw[aj,ak hk];show bD _
  obtain⟨ac,ad⟩:=zb1 (an.mem_iff.mp b3);have a4:=ue hR.box ac ad;generalize bs.getD k 0=U at J ac ad a4;generalize c1:m+min k bs.length+1=m1;have cv:m1<=m+9:=by lia
  have ag:∀O,ParOk rm U O->∀x∈O.map (zQ rm),2<=x/\x<=4:=λO h1 x hx=>by obtain⟨q,hq,rfl⟩:=au.mp hx;have:=h1.ok q hq;show ue hR.box this.1 this.2.1
  left;show zfz (λq hq=>#[(J.ok q hq).1,(J.ok q hq).2.1]) (by lia) ?_;left;show F_size.i (.inr BA) (ag _ J) ?_;left;refine' zsa (λO:AG=>ParOk rm U O/\O.length<=8/\zY (O.map (zQ rm))<=9) _ (λzz=>?_) ?_;rotate_left;show x9 (λh9=>?_) (λh9=>?_);left;rw[zbb];have I:=J.cut none (some 1);have al:(zcQ qs none (some 1)).length<=1:=by rw[show (1:Int)=((1:Nat):Int) from rfl,L3.zag,bq];lia
  generalize zcQ qs none (some 1)=O at I al;show zz O #[I,by lia,?_]
  match O,al,I with
  | [],_,_=>change (1:Int)<=9;decide
  | [q],_,hq=>
   have:=hq.ok q (by simp);have:=ue hR.box this.1 this.2.1;change 1 * zQ rm q<=9;lia
  left;show zz qs #[J,by lia,by lia];rintro O ⟨I,c2,c3⟩;have a5:=ag O I;left;show zfz (λq hq=>#[(I.ok q hq).1,(I.ok q hq).2.1]) (by lia) ?_;left;show F_allQ.i (.inr BA) a5 (by rw[ab];lia) ?_;left;have a2:=ug (O.map (zQ rm)) λx hx=>by have:=a5 x hx;lia
  have a7:=zok (O.map (zQ rm));generalize zam ((O.map (zQ rm)).map zK)=cs at a2 a7;show yK cs (λst=>W.d (stD st)) (by rw[aI];rfl) (λi D m'=>m'<=m1+4 * i/\i<=cs.length/\∃ (Y:AW) (v7 v8 v9:Option W),D=[some (.pen p),some (.d (stD rm)),some (.d (.lst (bs.map Dt.int))),some (.d (.lst (Y.map yN))),some (.d (.int (k:Int))),some (.d (.int U)),some (.d (.lst (O.map Dt.int))),v7,v8,v9]/\xR rm Y/\Y.length<=27 * k+3 * i) #[by lia,aL _,bk,_,_,_,BA,hB,by lia] ?_ ?_;rintro i st D m' ba ⟨b4,ca,Y,v7,v8,v9,rfl,ap,bb⟩ C B E hC _ _;have hi:=(ah.mp ba).1;have bc:=a7 st (az ba);have cc:=bc.len;rw[ab] at cc;obtain⟨hG,cd⟩:=zoO I bc;obtain⟨w,hw⟩:∃w:Nat,zQ rm U=(w:Int):=#[(zQ rm U).toNat,by lia];have c4:2<=w/\w<=4:=by lia
  left;show onA ac ad ?_;left;rw[hw];show#[#[by lia,by lia],?_];rw[aS,zfy];show F_turned.i hP (by rw[ab,yS];lia) (λl3 ch=>?_) (by rw[ab,yS];lia);obtain⟨Z,rfl,as⟩:=zcu ch;have cl:=as.length_eq;rw[yS] at cl;rw[show (List.map Dt.int (zdJ w)).length=w by rw[ab,yS]];left;show#[by rw[ab,ab];lia,?_];rw[zhT];show zbY (O.zip st) (λq=>W.d (uu q)) BA (λD=>∃a b,D=[a,b]) uu (by rw[List.length_zip];show aH (by lia:_<=8) (by ext)) #[_,_,BA] ?_ ?_;rintro q hq cn ⟨a,b,rfl⟩ C hC;show hC #[_,_,BA];left;show onA ac ad ?_;left;rw[hw];show#[#[by lia,by lia],?_];have e3:((w:Int) - 1).toNat=w - 1:=by lia
  rw[e3,xG];have co:Z.Nodup:=as.nodup_iff.mpr (zb2 _)
  have bd:∀j:Nat,j<w->0<=Z.getD j 0/\Z.getD j 0<zQ rm U:=λj hj=>by
   have h1:Z.getD j 0∈Z:=by rw[aj,ak (by lia)];show bD _
   have:=zb1 (as.mem_iff.mp h1);lia
  show zbY (List.range (w - 1)) (λj:Nat=>W.d (.int (j:Int))) BA (λD=>∃v,D=[v,some (.d (.tup ((O.zip st).map uu))),some (.d (.int U)),some (.d (.lst (Z.map Dt.int)))]) (λj=>yN #[O.zip st,U,Z.getD (j+1) 0,Z.getD j 0]) (by rw[aG];show aH (by lia:_<=4) (by ext)) #[_,BA] ?_ ?_;rintro j hj cn ⟨v,rfl⟩ C hC;have cp:=aM.mp hj;left;rw[show ((j:Int)+1)=((j+1:Nat):Int) from rfl];show onA (by lia) (by lia) ?_;left;show onA (by lia) (by lia) ?_;rw[zH,zH];show hC #[_,BA];left;show#[by rw[ab,ab,aG];show aH (by lia:_<=1000) (by ext),hC #[by lia,hi,Y++(List.range (w - 1)).map (λj=>#[O.zip st,U,Z.getD (j+1) 0,Z.getD j 0]),_,_,_,by rw[aR,aI];rfl,ap.app λx hx=>?_,by rw[am,ab,aG];lia]];obtain⟨j,hj,rfl⟩:=au.mp hx;have cp:=aM.mp hj;have h1:=bd j (by lia);have h2:=bd (j+1) (by lia);have cu:Z.getD (j+1) 0≠Z.getD j 0:=by have:=bN.mp co j (j+1) (by lia) (by lia) (by lia);intro z;apply this;simpa [show j<Z.length by lia,show j+1<Z.length by lia] using z.symm
  show#[hG,ac,ad,cd,h2.1,h2.2,h1.1,h1.2,cu];rintro D m' ⟨b4,ca,Y,v7,v8,v9,rfl,ap,bb⟩;show hC #[by lia,Y,_,_,_,_,_,_,BA,ap,by lia]
 rintro D m ⟨hm,bk,v4,v5,v6,v7,v8,v9,rfl,hB,a0⟩;left;show r bk m hB (by lia) (by lia)
inductive F_book (K:AH) (Pn:PN):AU->Nat->AV->Prop
 | i {n:Nat} {R:AV} {p:Addr} {rm:AG} (hP:zbV K Pn p) (hR:RoomOk rm) (hp:zY rm<=256) (h:∀bk m,xR rm bk->bk.length<=1100->m<=n+5000->R (.d (xV bk)) m) (hn:n+7000<=1000000:=by lia):F_book K Pn [.pen p,.d (stD rm)] n R
def zd2 (T:Txt K mg t):FnOk P w K mg base CX0 5 t.f31 t.d31 lc (spV 2 false (F_book K)):=by
 have G1:=zI (P:=P) (w:=w) (base:=base) T;have G25:=ut (P:=P) (w:=w) (base:=base) T;have G29:=zbe (P:=P) (w:=w) (base:=base) T;have G30:=zck (P:=P) (w:=w) (base:=base) T
 show Fun.okW (k:=4) (fr:=false) [3] 2 T.q31.F xH BA (by ext) BA λag A ac s H E Pn B=>#[_,(zb (wS zm <| zu (i:=2) xH.nd (wE zk <| yI T.q1 G1 B (za (kv 0) (za zo ze))))
   (zb (wS zy <| yp (wT zl <| zC uJ zfP (kb 2) (JE.bo zo) (zt _)) (zg (zp (y6 ze))) zx)
   (zb (wS zy <| yp (wT zl <| zC uJ zfP (kb 2) (JE.bo zo) (zt _)) (zg (zp (wE zk <| yI T.q29 G29 B (za (kv 0) (za (kv 1) ze))))) zx)
   (zb (wS zy <| yp (wT zl <| zC zil zup (kb 2) (JE.bo zo) (zt _)) (zb (wS y8 <| zat (i:=3) xH.nd (yx zf3 ztK (by rfl) T.b_list eG (zi (JE.bo (wE zk <| yI T.q30 G30 B (za (kv 0) (za (kv 1) ze)))) zj)))
   (zb (wS zy <| yp (JW.t (wW zcd <| zfd (wT zl <| zC uJ zfP (kb 2) (JE.bo zo) (zt _)) (x6 (.inl BA) (wT zl <| zC zil zup (JE.bo (zD z6 yY (by rfl) T.b_len aP (zi (kb 3) zj))) (JE.bo zo) (zt _))))) (zg (wS zj6 <| znH 3 (JE.bo (wE zk <| yI T.q1 G1 B (za (kv 0) (za (zD z6 yY (by rfl) T.b_len aP (zi (kb 3) zj)) ze)))) (wE zk <| yI T.q25 G25 B (za (kv 0) (za (kv 1) (za zo ze)))))) zx)
   (zg (zp (yx zN xQ (by rfl) T.b_tuple bm (zi (kb 3) zj)))))) zx)
   (zb (wS y8 <| zjL (i:=3) (zdP (ix:=3) xH.nd BA BA (N:=lF) (BD:=[none,some 0,some 1,some 2]) BA (by fail"c") (wI yP <| yh BA T.b_range (zi (JE.bo (zas yL zbH (JE.bo zo) (JE.bo (wE zk <| yI T.q1 G1 B (za (kv 0) (za zo ze)))))) zj)) (λ_ _ _ _=>(wG yf <| zq (i:=0) (show (lF:AM).Nodup by decide +kernel))) (λ_ _ _ _=>xo) (λ_ _ _ _=>(wE zk <| yI T.q25 G25 B (za (kv 1) (za (kv 2) (za (kv 3) ze)))))))
   (zg (zp (yx zN xQ (by rfl) T.b_tuple bm (zi (JE.bo (zas zeb zhO (kb 3) (JE.bo (wE uT <| zfc (kb 3) uO (wO xE <| uP (JE.bo (wE zk <| yI T.q1 G1 B (za (kv 0) (za zo ze))))))))) zj))))))))),λws n R hF=>?_]
 obtain @⟨_,_,p,rm,I,hR,hp,r,hn⟩:=hF;left;show dr I λad w0 w1=>?_;left;show x9 (λh6=>?_) (λh6=>?_);left;show r [] _ (by intro x J;simp at J) (by ext) (by lia);left;show x9 (λh5=>?_) (λh5=>?_);left;show F_mkBk.i I hR hp λbk m q hl hm=>r bk m q (by lia) (by lia);left;show x9 (λh2=>?_) (λh2=>?_);left;show F_mkBk.i I hR hp λbk m q hl hm=>?_;left;show x9 (λh4=>?_) (λh4=>?_);left;rw[ab];show x9 (λhz=>?_) (λhz=>?_);left;show F_mkWi.i I hR λx m2 J al=>?_;left;rw[ab];show dr I λa a0 a1=>?_;left;show#[#[a0,a1],?_];rw[<- List.map_set];left;show r _ _ (q.set J _) (by rw[bR];lia) (by lia);left;show r bk m q (by lia) (by lia);left;show r bk m q (by lia) (by lia);left;show dr I λt t0 t1=>?_;left;show#[#[by lia,by lia],?_];rw[xG];show zg0 (List.range (1+t).toNat) (λk:Nat=>W.d (.int (k:Int))) BA (by rw[aG];show aH (by lia:_<=14) (by ext)) (λi O n' acc=>n'<=n+2+30 * i/\i<=(1+t).toNat/\∃ (v:Option W) (bk:AW),O=[v,some (.pen p),some (.d (stD rm)),some (.d (.int ad))]/\acc=bk.map yN/\xR rm bk/\bk.length=i) #[by lia,aL _,none,[],BA,BA,by intro x J;simp at J,BA] ?_ ?_;rintro i k O n' acc hk ⟨Y,hi,v,bk,rfl,rfl,q,U⟩ C hC;have Z:=(ah.mp hk).1;rw[aG] at Z;left;show F_mkWi.i I hR λx m J hm=>?_;show hC #[by lia,Z,_,bk++[x],BA,by rw[aR];rfl,q.app (λy hy=>by rw[aq.mp hy];show J),by rw[am,U];rfl];rintro O n' acc ⟨Y,hi,v,bk,rfl,rfl,q,U⟩;rw[aG] at U Y;left;show dr I λb b0 b1=>?_;left;rw[zbb];have hc:=zdC bk none (some b);show#[by rw[ab,ab];show aH (by lia:_<=100) (by ext),?_];rw[<- aR];left;show r _ _ (q.app (q.cut _ _)) (by rw[am];lia) (by lia)
inductive F_held (K:AH) (Pn:PN):AU->Nat->AV->Prop
 | i {n:Nat} {R:AV} {p:Addr} {rm:AG} (hP:zbV K Pn p) (hR:RoomOk rm) (h:∀v hs m,(v = .d (stD hs)\/(hs=[]/\v = .d .non))->m<=n+9->R v m) (hn:n+30<=1000000:=by lia):F_held K Pn [.pen p,.d (stD rm)] n R
def zd4 (T:Txt K mg t):FnOk P w K mg base CX0 2 t.f32 t.d32 lc (spV 2 false (F_held K)):=by
 have G1:=zI (P:=P) (w:=w) (base:=base) T
 show Fun.okW (k:=1) (fr:=false) [] 1 T.q32.F zbu BA (by ext) BA λac A U s H E Pn hr=>#[_,(zb (wS zm <| zu (i:=2) zbu.nd (wE zk <| yI T.q1 G1 hr (za (kv 0) (za zo ze))))
   (zb (wS zy <| yp (wT zl <| zC uJ zfP (kb 2) (JE.bo zo) (zt _)) (zg (zp zl3)) zx)
   (zg (zp (yx zN xQ (by rfl) T.b_tuple bm (zi (JE.bo (uC (N:=lL) (BD:=[none,some 2,some 0]) BA (by fail"c") (wI yP <| yh BA T.b_range (zi (JE.bo (zD z6 yY (by rfl) T.b_len aP (zi (kb 1) zj))) zj)) (λ_ _ _ _=>(wG yf <| zq (i:=0) (show (lL:AM).Nodup by decide +kernel))) (λ_ _ _ _=>(zdQ (JW.t (wW zcd <| zfd (wT zl <| zC uJ zfP (kb 1) (JE.bo zo) (zt _)) (x6 (.inl BA) (wT zl <| zC uJ zfP (JE.bo (wE zk <| yI T.q1 G1 hr (za (kv 2) (za zo ze)))) (JE.bo zo) (zt _))))))) (λ_ _ _ _=>(kv 0)))) zj)))))),λws n R hF=>?_]
 obtain @⟨_,_,p,rm,hP,hR,r,hn⟩:=hF;left;show dr hP λY w0 w1=>?_;have h8:=hR.few;left;show x9 (λ_=>?_) (λ_=>?_);left;show r _ [] _ (.inr #[BA,BA]) (by lia);left;rw[ab];show#[#[by lia,by lia],?_];rw[aS,xG];show zg0 (List.range rm.length) (λk:Nat=>W.d (.int (k:Int))) BA (by rw[aG];show aH h8 (by ext)) (λi B O acc=>O<=n+1+i/\i<=rm.length/\∃ (v:Option W) (hs:AG),B=[v,some (.d (.int Y)),some (.pen p)]/\acc=hs.map Dt.int) #[by lia,aL _,_,[],BA,BA] ?_ ?_;rintro i k B O acc hk ⟨I,hi,v,hs,rfl,rfl⟩ C Z;obtain⟨q,J⟩:=ah.mp hk;rw[aG] at q;rw[cF] at J;subst J;left;show x9 (λhc=>?_) (λhc=>?_);left;show dr hP λt t0 t1=>?_;left;show x9 (λhc=>?_) (λhc=>?_);show Z #[by lia,q,_,hs++[(i:Int)],BA,by rw[aR];rfl];show Z #[by lia,q,_,hs,BA,BA];show Z #[by lia,q,_,hs,BA,BA];rintro B O acc ⟨I,hi,v,hs,rfl,rfl⟩;rw[aG] at I;show r _ hs O (.inl BA) (by lia)
def zlt{s t hs:AG}(h:t∈yH bk s hs):t∈yH bk s []:=by obtain⟨x,q,h1,_,rfl⟩:=yg.mp (yn.mp h);show yn.mpr (yg.mpr #[x,q,h1,by simp,BA])
def zgW{rm:AG}{s t hs:AG}(J:xR rm bk)(hl:s.length=rm.length):t∈yH bk s hs↔t∈yH bk s []/\∀b∈hs,0<=b->b<rm.length->zQ t b=zQ s b:=by
 constructor;intro h;show#[zlt h,λb O U b1=>?_];obtain⟨x,B,h1,h2,rfl⟩:=yg.mp (yn.mp h);have q:=J x B;have F:=q.b1;rw[zay q.b0 (by lia) U,if_neg (show ¬ b=x.b from λe=>h2 (by rw[<- e];show O))];rintro⟨h,Y⟩;obtain⟨x,B,h1,_,rfl⟩:=yg.mp (yn.mp h);have q:=J x B;have F:=q.b1;show yn.mpr (yg.mpr #[x,B,h1,λI=>?_,BA]);have:=Y x.b I q.b0 q.b1;rw[zay q.b0 (by lia) q.b0,if_pos rfl] at this;unfold zbB at h1;rw[bj] at h1;have Z:=bp h1.1;show q.ne (this.trans Z)
def ziT {rm:AG}{bk:AW}{s t hs:AG}(q:xR rm bk)(h1:s.length=rm.length)(h2:t.length=rm.length):s∈yH (bk.map zae) t hs↔t∈yH bk s hs:=by rw[zgW (ziV q) h2,zgW q h1,zlu q h1 h2];show#[λ⟨a,b⟩=>#[a,λc B F I=>(b c B F I).symm],λ⟨a,b⟩=>#[a,λc B F I=>(b c B F I).symm]]
def zhc{l:AF}(h:i<l.length):l.reverse.getD i []=l.getD (l.length - 1 - i) []:=by rw[aj,aj,List.getElem?_reverse h]
def Way.rev{rm:AG}{a b hs:AG}{l:AF}(B:xR rm bk)(w:Way (λs=>yH bk s hs) a b l)(q:∀s∈l,StOk rm s):Way (λs=>yH (bk.map zae) s hs) b a l.reverse:=by
 show#[?_,by rw[List.getLast?_reverse,List.head?_eq_getElem?];show w.hd,λi hi=>?_];have:=w.lt;rw[<- List.head?_reverse,List.head?_eq_getElem?] at this;show this;rw[bB] at hi;rw[zhc (by lia),zhc (by lia),ziT B (q _ (yD (by lia))).len (q _ (yD (by lia))).len];have:=w.st (l.length - 1 - (i+1)) (by lia);rwa[show l.length - 1 - (i+1)+1=l.length - 1 - i by lia] at this
def Way.cat {g:AG->AF}{a b c:AG}{l k:AF}(w:Way g a b l)(v:Way g b c k)(h2:2<=k.length):Way g a c (l++k.drop 1):=by
 match k,v,h2 with
 | x::y::k,v,_=>
  have ex:x=b:=by have:=v.hd;simpa using this
  subst ex;have q:y∈g x:=by have:=v.st 0 (by simp);simpa using this
  have key:∀ (k:AF) (l:AF) (m y:AG),Way g a m l->y∈g m->Way g y c (y::k)->Way g a c (l++y::k):=by
   intro k
   induction k with
   | nil=>
    intro l m y w q v;have e:y=c:=by have:=v.lt;simpa using this
    rw[<- e];show w.snoc q
   | cons z k B=>
    intro l m y w q v;have F:z∈g y:=by have:=v.st 0 (by simp);simpa using this
    have:=B (l++[y]) y z (w.snoc q) F #[BA,by have:=v.lt;simpa using this,λi hi=>by have:=v.st (i+1) (by simpa using hi);simpa using this];rwa[aE] at this
  show key k l x y w q #[BA,by have:=v.lt;simpa using this,λi hi=>by have:=v.st (i+1) (by simpa using hi);simpa using this]
def Way.prev {g:AG->AF}{a b:AG}{l:AF}(w:Way g a b l)(h2:2<=l.length):∃s,Rch g a s/\b∈g s:=by have:=w.st (l.length - 2) (by lia);rw[show l.length - 2+1=l.length - 1 by lia,w.last] at this;show#[_,w.rch (l.length - 2) (by lia),this]
def Rch.way {g:AG->AF}{a s:AG}(h:Rch g a s):∃l,Way g a s l:=h (λs=>∃l,Way g a s l) #[_,.one] λ_ _ ⟨l,w⟩ q=>#[_,w.snoc q]
def Way.ok{rm:AG}{a b hs:AG}{l:AF}(B:xR rm bk)(F:StOk rm a)(w:Way (λs=>yH bk s hs) a b l):∀s∈l,StOk rm s:=λs q=>by obtain⟨i,hi,e⟩:=bt.mp q;have:=w.rch i hi (StOk rm) F λ_ _=>ziS B;rwa[aj,ak hi,show (some l[i]).getD []=l[i] from rfl,e] at this
def Way.two {g:AG->AF}{a b c:AG}{l:AF}(w:Way g a b l)(h:c∈g b):2<=(l++[c]).length:=by
 have:l≠[]:=λz=>by have:=w.hd;rw[z] at this;cases this
 have:=fM.mpr this;rw[am,bw];lia
inductive F_join (P:Aa) (w:Ab) (C:Addr) (Pn:PN):AU->Nat->AV->Prop
 | i {n:Nat} {R:AV} {rm:AG} {bk:AW} {one two lst hs:AG} {v:W} (hJ:Pn.J=J0) (hv:v = .d (stD hs)\/(hs=[]/\v = .d .non)) (hR:RoomOk rm) (hB:xR rm bk) (hp:zY rm<=32) (h1:StOk rm one) (h2:StOk rm two) (h3:StOk rm lst) (h:R (.d (.bl true)) n)  : F_join P w C Pn [.d (stD rm),.d (xV bk),.d (.lst [stD one,stD two,stD lst]),v] n R
def zcj (T:Txt K mg t):FnOk P w K mg base CX0 8 t.f33 t.d33 lm (spV 4 false (F_join P w t.C_Leads)):=by
 have G8:=zbQ (P:=P) (w:=w) (base:=base) T;have G16:=zbn (P:=P) (w:=w) (base:=base) T
 show Fun.okW (k:=7) (fr:=false) [] 7 T.q33.F zO BA (by ext) BA λcdv A outer s H E Pn hr=>#[_,(zb (zrW (kv 2) (zo1 (n:=3) K BA BA (wH xY <| yy (wG yf <| zq (i:=4) zO.nd) (wH xY <| yy (wG yf <| zq (i:=5) zO.nd) (wH xY <| yy (wG yf <| zq (i:=6) zO.nd) (wH ze0 zb6))))))
   (zb (wS zm <| zu (i:=7) zO.nd (wE zk <| zao T.q8 G8 hr (za (kv 0) (za (kv 1) (za (kv 4) (za (kv 5) (za (kv 3) ze)))))))
   (zb (wS zm <| zu (i:=8) zO.nd (wE zk <| zao T.q8 G8 hr (za (kv 0) (za (kv 1) (za (kv 5) (za (kv 6) (za (kv 3) ze)))))))
   (zb (wS zy <| yp (JW.t (wW zaQ <| zdR (wT zl <| zC zcY zne (JE.bo (yT zF yz (kb 7) (JE.bo zo) (λ_ _=>rfl))) (JE.bo zdO) (zt _)) (x6 (.inr BA) (wT zl <| zC zcY zne (JE.bo (yT zF yz (kb 8) (JE.bo zo) (λ_ _=>rfl))) (JE.bo zdO) (zt _))))) (zg (zp zaH)) zx)
   (zb (wS zm <| zu (i:=9) zO.nd (zas zeb zhO (JE.bo (yT zF yz (kb 7) (JE.bo zo) (λ_ _=>rfl))) (JE.bo (wE uT <| zfc (JE.bo (yT zF yz (kb 8) (JE.bo zo) (λ_ _=>rfl))) (wO xE <| uP (JE.bo zo)) uO))))
   (zb (wS zm <| zu (i:=10) zO.nd (wE zk <| zao T.q8 G8 hr (za (kv 0) (za (kv 1) (za (kv 4) (za (kv 6) (za (kv 3) ze)))))))
   (zb (wS zy <| yp (JW.t (wW zaQ <| zdR (wT zl <| zC zcY zne (JE.bo (yT zF yz (kb 10) (JE.bo zo) (λ_ _=>rfl))) (JE.bo zdO) (zt _)) (x6 (.inr BA) (wT zl <| zC zil zup (JE.bo (zD z6 yY (by rfl) T.b_len aP (zi (JE.bo (yT zF yz (kb 10) (JE.bo zo) (λ_ _=>rfl))) zj))) (JE.bo (zD z6 yY (by rfl) T.b_len aP (zi (kb 9) zj))) (zt _))))) (zg (zp zaH)) zx)
   (zg (zp (zgo zhv zla (JE.bo (wE zk <| zao T.q16 G16 hr (za (kv 0) (za (kv 1) (za (kv 4) (za (kv 6) (za (kv 9) (za (kv 3) ze)))))))) (JE.bo zaH) (zt _))))))))))),λws n R hF=>?_]
 obtain @⟨_,_,rm,bk,one,two,lst,hs,v,hJ,hv,hR,hB,hp,h1,h2,h3,r⟩:=hF;left;show F_told.i hJ hv hR hB (by lia) h1 h2 #[λl1 s1 f1 o1=>?_,λhno1 t1 u1 m1 o1=>?_];left;show F_told.i hJ hv hR hB (by lia) h2 h3 #[λl2 s2 f2 o2=>?_,λhno2 t2 u2 m2 o2=>?_]
 left;(with_reducible show zV xT ?_);left;with_reducible show zbD ?_ ?_
 decide +kernel
 left;(with_reducible show zV xT ?_);left;with_reducible show zbD ?_ ?_
 decide +kernel
 left;(with_reducible show zV zby ?_);left;(with_reducible show zV zby ?_);left;rw[zeS,<- List.map_drop];have hw:Way (λs=>yH bk s hs) one lst (l1++l2.drop 1):=s1.1.cat s2.1 s2.2.1;have q1:=s1.2.1;have q2:=s2.2.1;have hlw:(l1++l2.drop 1).length=l1.length+(l2.length - 1):=by rw[am,dw]
 show#[aH (by rw[ab,ab,dw];lia:_<=10000) (by ext),?_];rw[<- aR];generalize l1++l2.drop 1=l3 at hw hlw ⊢;left;show F_told.i hJ hv hR hB (by lia) h1 h3 #[λl4 s4 f4 o4=>?_,λhno4 t4 u4 m4 o4=>?_]
 left;(with_reducible show zV xT ?_);left;with_reducible show zbD ?_ ?_
 decide +kernel
 left;(with_reducible show zV zby ?_);left;rw[ab,ab];show x9 (λz=>absurd (s4.2.2 l3 hw (by lia)) (by lia)) (λ_=>?_);left;show F_lway.i hJ hv hR hB (hw.ok hB h1) (by lia) λb hb=>?_;obtain rfl:b=true:=hb.mpr #[by lia,hw];left;show r
 obtain⟨s,z1,z2⟩:=hw.prev (by lia);show absurd z2 (hno4 s z1)
 left;(with_reducible show zV xT ?_);left;with_reducible show zbD ?_ ?_
 decide +kernel
 left;(with_reducible show zV xT ?_);left;with_reducible show zd9 ?_ ?_
 decide +kernel;left;show r;left;show F_told.i hJ hv hR hB (by lia) h2 h3 #[λl2 s2 f2 o2=>?_,λhno2 t2 u2 m2 o2=>?_]
 left;(with_reducible show zV xT ?_);left;with_reducible show zd9 ?_ ?_
 decide +kernel;left;show r
 left;(with_reducible show zV xT ?_);left;with_reducible show zd9 ?_ ?_
 decide +kernel;left;show r
inductive F_back (P:Aa) (w:Ab) (C:Addr) (Pn:PN):AU->Nat->AV->Prop
 | i {n:Nat} {R:AV} {rm:AG} {bk:AW} {one two hs:AG} {v:W} (hJ:Pn.J=J0) (hv:v = .d (stD hs)\/(hs=[]/\v = .d .non)) (hR:RoomOk rm) (hB:xR rm bk) (hbl:bk.length<=1100) (hp:zY rm<=32) (h1:StOk rm one) (h2:StOk rm two) (h:R (.d (.bl true)) n)  : F_back P w C Pn [.d (stD rm),.d (xV bk),.d (stD one),.d (stD two),v] n R
def zd1 (T:Txt K mg t):FnOk P w K mg base CX0 8 t.f34 t.d34 ld (spV 5 false (F_back P w t.C_Leads)):=by
 have G8:=zbQ (P:=P) (w:=w) (base:=base) T;have G16:=zbn (P:=P) (w:=w) (base:=base) T;have G19:=zii (P:=P) (w:=w) (base:=base) T
 show Fun.okW (k:=7) (fr:=false) [] 2 T.q34.F zab BA (by ext) BA λcdv A outer s H E Pn hr=>#[_,(zb (wS zm <| zu (i:=5) zab.nd (wE zk <| zao T.q8 G8 hr (za (kv 0) (za (kv 1) (za (kv 2) (za (kv 3) (za (kv 4) ze)))))))
   (zb (wS zm <| zu (i:=6) zab.nd (wE zk <| zao T.q8 G8 hr (za (kv 0) (za (wE zk <| yI T.q19 G19 hr (za (kv 1) ze)) (za (kv 3) (za (kv 2) (za (kv 4) ze)))))))
   (zb (wS zy <| yp (wT zl <| zC zcY zne (JE.bo (yT zF yz (kb 5) (JE.bo zo) (λ_ _=>rfl))) (JE.bo (yT zF yz (kb 6) (JE.bo zo) (λ_ _=>rfl))) (zt _)) (zg (zp zaH)) zx)
   (zb (wS zy <| yp (wT zl <| zC uJ zfP (JE.bo (yT zF yz (kb 5) (JE.bo zo) (λ_ _=>rfl))) (JE.bo zdO) (zt _)) (zg (zp zaH)) zx)
   (zb (wS zy <| yp (wT zl <| zC zcY zne (JE.bo (zD z6 yY (by rfl) T.b_len aP (zi (JE.bo (yT zF yz (kb 5) (JE.bo zo) (λ_ _=>rfl))) zj))) (JE.bo (zD z6 yY (by rfl) T.b_len aP (zi (JE.bo (yT zF yz (kb 6) (JE.bo zo) (λ_ _=>rfl))) zj))) (zt _)) (zg (zp zaH)) zx)
   (zb (wS zy <| yp (wT zl <| zC zcr zdp (JE.bo (wE zk <| zao T.q16 G16 hr (za (kv 0) (za (wE zk <| yI T.q19 G19 hr (za (kv 1) ze)) (za (kv 3) (za (kv 2) (za (wE zaR <| zfb (JE.bo (yT zF yz (kb 5) (JE.bo zo) (λ_ _=>rfl)))) (za (kv 4) ze)))))))) (JE.bo zaH) (zt _)) (zg (zp zaH)) zx)
   (zg (zp (zgo zhv zla (JE.bo (wE zk <| zao T.q16 G16 hr (za (kv 0) (za (kv 1) (za (kv 2) (za (kv 3) (za (wE zaR <| zfb (JE.bo (yT zF yz (kb 6) (JE.bo zo) (λ_ _=>rfl)))) (za (kv 4) ze)))))))) (JE.bo zaH) (zt _)))))))))),λws n R hF=>?_]
 obtain @⟨_,_,rm,bk,one,two,hs,v,hJ,hv,hR,hB,hbl,hp,h1,h2,r⟩:=hF;left;have hBt:=ziV hB;have tt:(bk.map zae).map zae=bk:=by rw[aI];show (bP (g:=id) λx _=>rfl).trans (List.map_id _)
 show F_told.i hJ hv hR hB (by lia) h1 h2 #[λl1 s1 f1 o1=>?_,λhno1 t1 u1 m1 o1=>?_];have w1:=s1.1.rev hB o1;have q1:=s1.2.1;left;show F_trn.i hbl ?_;left;show F_told.i hJ hv hR hBt (by lia) h2 h1 #[λl2 s2 f2 o2=>?_,λhno2 t2 u2 m2 o2=>?_]
 have w2:=s2.1.rev hBt o2;rw[tt] at w2;have q2:=s2.2.1;have e1:=s1.2.2 _ w2 (by rw[bB];show q2);have e2:=s2.2.2 _ w1 (by rw[bB];show q1);rw[bB] at e1 e2;left;(with_reducible show zV xT ?_);left;(with_reducible show zV xT ?_);left;with_reducible show zbD ?_ ?_
 decide +kernel
 left;(with_reducible show zV xT ?_);left;with_reducible show zbD ?_ ?_
 decide +kernel
 left;(with_reducible show zV zby ?_);left;(with_reducible show zV zby ?_);left;rw[ab,ab];show zkj (λz=>absurd (show (l1.length:Int)=l2.length by lia) z) (λ_=>?_);left;show F_trn.i hbl ?_;left;(with_reducible show zV zby ?_);left;rw[<- dW];show F_lway.i hJ hv hR hBt (λs hs=>o1 s (bU.mp hs)) (by rw[bB];lia) λb hb=>?_;obtain rfl:b=true:=hb.mpr #[by rw[bB];show q1,w1];left;with_reducible show zbD ?_ ?_
 rfl
 left;(with_reducible show zV zby ?_);left;rw[<- dW];show F_lway.i hJ hv hR hB (λs hs=>o2 s (bU.mp hs)) (by rw[bB];lia) λb hb=>?_;obtain rfl:b=true:=hb.mpr #[by rw[bB];show q2,w2];left;show r
 obtain⟨s,z1,z2⟩:=w1.prev (by rw[bB];show q1);show absurd z2 (hno2 s z1);left;show F_trn.i hbl ?_;left;show F_told.i hJ hv hR hBt (by lia) h2 h1 #[λl2 s2 f2 o2=>?_,λhno2 t2 u2 m2 o2=>?_];have w2:=s2.1.rev hBt o2;rw[tt] at w2;obtain⟨s,z1,z2⟩:=w2.prev (by rw[bB];show s2.2.1);show absurd z2 (hno1 s z1)
 left;(with_reducible show zV xT ?_);left;(with_reducible show zV xT ?_);left;with_reducible show zbD ?_ ?_
 decide +kernel
 left;(with_reducible show zV xT ?_);left;with_reducible show zd9 ?_ ?_
 decide +kernel;left;show r
inductive F_sfa (P:Aa) (w:Ab) (C:Addr) (Pn:PN):AU->Nat->AV->Prop
 | i {n:Nat} {R:AV} {rm:AG} {bk:AW} {one two hs:AG} {v:W} (hJ:Pn.J=J0) (hv:v = .d (stD hs)\/(hs=[]/\v = .d .non)) (hR:RoomOk rm) (hB:xR rm bk) (hp:zY rm<=32) (h1:StOk rm one) (h2:StOk rm two) (h:R (.d (.bl true)) n)  : F_sfa P w C Pn [.d (stD rm),.d (xV bk),.d (stD one),.d (stD two),v] n R
def uU (T:Txt K mg t):FnOk P w K mg base CX0 8 t.f35 t.d35 ld (spV 5 false (F_sfa P w t.C_Leads)):=by
 have G8:=zbQ (P:=P) (w:=w) (base:=base) T;have G18:=zd8 (P:=P) (w:=w) (base:=base) T
 show Fun.okW (k:=7) (fr:=false) [] 2 T.q35.F yB BA (by ext) BA λcdv A outer s H E Pn hr=>#[_,(zb (wS zm <| zu (i:=5) yB.nd (wE zk <| zao T.q8 G8 hr (za (kv 0) (za (kv 1) (za (kv 2) (za (kv 3) (za (kv 4) ze)))))))
   (zb (wS zy <| yp (wT zl <| zC uJ zfP (JE.bo (yT zF yz (kb 5) (JE.bo zo) (λ_ _=>rfl))) (JE.bo zdO) (zt _)) (zg (zp zaH)) zx)
   (zb (xa bh BA (wI uo <| um K BA (yT zF yz (kb 5) (JE.bo zo) (λ_ _=>rfl))) (wG yf <| zq (i:=6) yB.nd) (zg (wS zy <| yp (wT zl <| zC zcr zdp (JE.bo (wE zk <| zao T.q18 G18 hr (za (kv 0) (za (kv 1) (za (kv 6) (za (kv 3) (za (yT zF yz (kb 5) (JE.bo zo) (λ_ _=>rfl)) (za (kv 4) ze)))))))) (JE.bo zaH) (zt _)) (zg (zp zaH)) zx)))
   (zg (zp zaH))))),λws n R hF=>?_]
 obtain @⟨_,_,rm,bk,one,two,hs,v,hJ,hv,hR,hB,hp,h1,h2,r⟩:=hF;left;show F_told.i hJ hv hR hB (by lia) h1 h2 #[λl1 s1 f1 o1=>?_,λhno1 BE u1 m1 o1=>?_]
 left;(with_reducible show zV xT ?_);left;with_reducible show zd9 ?_ ?_
 decide +kernel;left;show r
 left;(with_reducible show zV xT ?_);left;with_reducible show zbD ?_ ?_
 decide +kernel
 left;(with_reducible show zV zby ?_);left;have hal:=zgV hR;have few:=yW (ziG u1) λs hs=>zgN (o1 s hs);have hsh:zoi (λs=>yH bk s hs) two BE:=λs hs' u hu'=>#[λe=>hno1 s ((m1 s).mp hs') (e ▸ hu'),(m1 u).mpr (((m1 s).mp hs').step hu')];show yK BE (λs=>W.d (stD s)) (by rw[aI];rfl) (λi D m=>m=n/\∃v6,D=[some (.d (stD rm)),some (.d (xV bk)),some (.d (stD one)),some (.d (stD two)),some v,some (.d (.tup [.str "not",uK BE])),v6]) #[BA,_,BA] ?_ ?_
 rintro i s D m hsg ⟨rfl,v6,rfl⟩ C B E hC _ _;have hsm:=az hsg;left;(with_reducible show zV zby ?_);left;show F_lsh.i hJ hv hR hB o1 (by lia) λb hb=>?_;obtain rfl:b=true:=hb.mpr #[u1,hsm,hsh];left;with_reducible show zbD ?_ ?_
 rfl;left;show hC #[BA,_,BA];rintro D m ⟨rfl,v6,rfl⟩;left;show r
def zbK{s t hs:AG}(h:t∈yH bk s hs):t∈yH (bk++q) s hs:=by obtain⟨x,B,h1,h2,rfl⟩:=yg.mp (yn.mp h);show yn.mpr (yg.mpr #[x,bH _ B,h1,h2,BA])
def Way.more{a b hs:AG}{l:AF}(w:Way (λs=>yH bk s hs) a b l):Way (λs=>yH (bk++q) s hs) a b l:=#[w.hd,w.lt,λi hi=>zbK (w.st i hi)]
inductive F_more (P:Aa) (w:Ab) (C:Addr) (Pn:PN):AU->Nat->AV->Prop
 | i {n:Nat} {R:AV} {rm:AG} {bk:AW} {one two hs:AG} {v:W} {x:Wi} (hJ:Pn.J=J0) (hv:v = .d (stD hs)\/(hs=[]/\v = .d .non)) (hR:RoomOk rm) (hB:xR rm bk) (hbl:bk.length<=1100) (hp:zY rm<=32) (h1:StOk rm one) (h2:StOk rm two) (hx:WishOk rm x) (h:R (.d (.bl true)) n)  : F_more P w C Pn [.d (stD rm),.d (xV bk),.d (stD one),.d (stD two),v,.d (yN x)] n R
def zd5 (T:Txt K mg t):FnOk P w K mg base CX0 8 t.f36 t.d36 li (spV 6 false (F_more P w t.C_Leads)):=by
 have G8:=zbQ (P:=P) (w:=w) (base:=base) T;have G9:=zcn (P:=P) (w:=w) (base:=base) T
 show Fun.okW (k:=7) (fr:=false) [] 3 T.q36.F xI BA (by ext) BA λcdv A outer s H E Pn hr=>#[_,(zb (wS zm <| zu (i:=6) xI.nd (wE zk <| zao T.q8 G8 hr (za (kv 0) (za (kv 1) (za (kv 2) (za (kv 3) (za (kv 4) ze)))))))
   (zb (wS zm <| zu (i:=7) xI.nd (wE zk <| zao T.q8 G8 hr (za (kv 0) (za (zas zaA zfO (kb 1) (JE.bo (y6 (za (kv 5) ze)))) (za (kv 2) (za (kv 3) (za (kv 4) ze)))))))
   (zb (wS zm <| zu (i:=8) xI.nd (wE zk <| zao T.q9 G9 hr (za (kv 0) (za (zas zaA zfO (kb 1) (JE.bo (y6 (za (kv 5) ze)))) (za (kv 2) (za (kv 4) ze))))))
   (zb (wS zy <| yp (wT zl <| zC (znP hr.units) ztL (JE.bo (uC (N:=["_law_there",A6]) (BD:=[none,some 8]) BA (by fail"c") (wI uo <| um K BA (wE zk <| zao T.q9 G9 hr (za (kv 0) (za (kv 1) (za (kv 2) (za (kv 4) ze)))))) (λ_ _ _ _=>(wG yf <| zq (i:=0) (show (["_law_there",A6]:AM).Nodup by decide +kernel))) (λ_ _ _ _=>(zdQ (wT zl <| zC (zfs hr.units) ztJ (kb 0) (kb 1) (by with_unfolding_all rfl)))) (λ_ _ _ _=>(kv 0)))) (JE.bo (zaI ze)) (zt _)) (zg (zp zaH)) zx)
   (zb (wS zy <| yp (wT zl <| zC uJ zfP (JE.bo (yT zF yz (kb 6) (JE.bo zo) (λ_ _=>rfl))) (JE.bo zdO) (zt _)) (zg (zp zaH)) zx)
   (zg (zp (wE zaP <| zjJ (JE.bo (zgo uJ zfP (JE.bo (yT zF yz (kb 7) (JE.bo zo) (λ_ _=>rfl))) (JE.bo zdO) (zt _))) (zl4 (zgo zmr zuq (JE.bo (zD z6 yY (by rfl) T.b_len aP (zi (JE.bo (yT zF yz (kb 7) (JE.bo zo) (λ_ _=>rfl))) zj))) (JE.bo (zD z6 yY (by rfl) T.b_len aP (zi (JE.bo (yT zF yz (kb 6) (JE.bo zo) (λ_ _=>rfl))) zj))) (zt _))))))))))),λws n R hF=>?_]
 obtain @⟨_,_,rm,bk,one,two,hs,v,x,hJ,hv,hR,hB,hbl,hp,h1,h2,hx,r⟩:=hF;left;have hB':xR rm (bk++[x]):=hB.app λy hy=>by rw[aq.mp hy];show hx
 have eb:bk.map yN++[yN x]=(bk++[x]).map yN:=by rw[aR];rfl
 have hll:(bk.map yN).length+[yN x].length<=lim:=aH (by rw[ab,bw];lia:_<=10000) (by ext);show F_told.i hJ hv hR hB (by lia) h1 h2 #[λl1 s1 f1 o1=>?_,λhno1 t1 u1 m1 o1=>?_]
 ·left;show#[hll,?_];rw[eb];left;show F_told.i hJ hv hR hB' (by lia) h1 h2 #[λl2 s2 f2 o2=>?_,λhno2 t2 u2 m2 o2=>?_]
  ·left;show#[hll,?_];rw[eb];left;show F_rea.i hJ hv hR hB' (by lia) h1 λsm us hs1 os=>?_;left;show F_rea.i hJ hv hR hB (by lia) h1 λr0 ur hs0 orr=>?_;left;have hsub:∀s∈r0,s∈sm:=λs hs'=>(hs1 s).mpr (((hs0 s).mp hs') (Rch (λs=>yH (bk++[x]) s hs) one) Rch.self λ_ _ hu hv=>hu.step (zbK hv));have hfr:=zad hR (by lia) (ziG ur) orr;show zbZ r0 (λs=>.d (stD s)) (by rw[aI];rfl) (λD=>∃v',D=[v',some (.d (uK sm))]) (λ_=>false) stD (aH (by lia:_<=256) (by ext)) #[_,BA] ?_ ?_
   ·rintro s hs' ρ' ⟨v',rfl⟩ C hY hN;left;show#[ye,yO _,λb hb=>?_];rw[show xr true b = !b by cases b <;> rfl];left;show zav (λz=>by rw[hb.mpr (zcg.mpr (hsub s hs'))] at z;cases z) (λ_=>hN BA #[_,BA])
   rw[eI.mpr (λ_ _=>by simp)];left;show#[yO [],yO [],λb hb=>?_];left;show zav (λz=>by rw[hb.mpr rfl] at z;cases z) (λ_=>?_);left;(with_reducible show zV xT ?_);left;with_reducible show zbD ?_ ?_
   decide +kernel
   left;(with_reducible show zV xT ?_);left;with_reducible show zd9 ?_ ?_
   decide +kernel
   left;(with_reducible show zV zby ?_);left;(with_reducible show zV zby ?_);left;rw[ab,ab,a8 (show (l2.length:Int)<=l1.length by have:=s2.2.2 _ s1.1.more s1.2.1;lia)];show r
  obtain⟨s,z1,z2⟩:=s1.1.more.prev s1.2.1;show absurd z2 (hno2 s z1)
 ·left;show#[hll,?_];rw[eb];left;show F_told.i hJ hv hR hB' (by lia) h1 h2 #[λl2 s2 f2 o2=>?_,λhno2 t2 u2 m2 o2=>?_]
  ·left;show#[hll,?_];rw[eb];left;show F_rea.i hJ hv hR hB' (by lia) h1 λsm us hs1 os=>?_;left;show F_rea.i hJ hv hR hB (by lia) h1 λr0 ur hs0 orr=>?_;left;have hsub:∀s∈r0,s∈sm:=λs hs'=>(hs1 s).mpr (((hs0 s).mp hs') (Rch (λs=>yH (bk++[x]) s hs) one) Rch.self λ_ _ hu hv=>hu.step (zbK hv));have hfr:=zad hR (by lia) (ziG ur) orr;show zbZ r0 (λs=>.d (stD s)) (by rw[aI];rfl) (λD=>∃v',D=[v',some (.d (uK sm))]) (λ_=>false) stD (aH (by lia:_<=256) (by ext)) #[_,BA] ?_ ?_
   ·rintro s hs' ρ' ⟨v',rfl⟩ C hY hN;left;show#[ye,yO _,λb hb=>?_];rw[show xr true b = !b by cases b <;> rfl];left;show zav (λz=>by rw[hb.mpr (zcg.mpr (hsub s hs'))] at z;cases z) (λ_=>hN BA #[_,BA])
   rw[eI.mpr (λ_ _=>by simp)];left;show#[yO [],yO [],λb hb=>?_];left;show zav (λz=>by rw[hb.mpr rfl] at z;cases z) (λ_=>?_);left;(with_reducible show zV xT ?_);left;with_reducible show zd9 ?_ ?_
   decide +kernel;left;show r
  ·left;show#[hll,?_];rw[eb];left;show F_rea.i hJ hv hR hB' (by lia) h1 λsm us hs1 os=>?_;left;show F_rea.i hJ hv hR hB (by lia) h1 λr0 ur hs0 orr=>?_;left;have hsub:∀s∈r0,s∈sm:=λs hs'=>(hs1 s).mpr (((hs0 s).mp hs') (Rch (λs=>yH (bk++[x]) s hs) one) Rch.self λ_ _ hu hv=>hu.step (zbK hv));have hfr:=zad hR (by lia) (ziG ur) orr;show zbZ r0 (λs=>.d (stD s)) (by rw[aI];rfl) (λD=>∃v',D=[v',some (.d (uK sm))]) (λ_=>false) stD (aH (by lia:_<=256) (by ext)) #[_,BA] ?_ ?_
   ·rintro s hs' ρ' ⟨v',rfl⟩ C hY hN;left;show#[ye,yO _,λb hb=>?_];rw[show xr true b = !b by cases b <;> rfl];left;show zav (λz=>by rw[hb.mpr (zcg.mpr (hsub s hs'))] at z;cases z) (λ_=>hN BA #[_,BA])
   rw[eI.mpr (λ_ _=>by simp)];left;show#[yO [],yO [],λb hb=>?_];left;show zav (λz=>by rw[hb.mpr rfl] at z;cases z) (λ_=>?_);left;(with_reducible show zV xT ?_);left;with_reducible show zd9 ?_ ?_
   decide +kernel;left;show r
def zsf (T:Txt K mg t):FnOk P w K mg base CX0 9 t.f37 t.d37 lu (zix K):=by
 have G9:=zcn (P:=P) (w:=w) (base:=base) T;have G0:FnOk P w K mg base CX0 1 t.f0 t.d0 lu (zm7 K):=zgu T;have G1:=zI (P:=P) (w:=w) (base:=base) T;have G22:=zd6 (P:=P) (w:=w) (base:=base) T;have G23:=zbf (P:=P) (w:=w) (base:=base) T;have G25:=ut (P:=P) (w:=w) (base:=base) T;have G31:=zd2 (P:=P) (w:=w) (base:=base) T;have G32:=zd4 (P:=P) (w:=w) (base:=base) T;have G33:=zcj (P:=P) (w:=w) (base:=base) T;have G34:=zd1 (P:=P) (w:=w) (base:=base) T;have G35:=uU (P:=P) (w:=w) (base:=base) T;have G36:=zd5 (P:=P) (w:=w) (base:=base) T
 show zvF (S:=[]) (k:=8) (r:=10) [] T.q37.F uG BA BA (by ext) λa4 A al s H E Pn q=>#[_,_,_,BA,(u6 (i:=1) uG.nd BA (Or.inl BA) (zmJ T.q0 G0 q (zL (qv 0) yM))),(zb (wS zm <| zu (i:=2) uG.nd (wE zk <| yI T.q22 G22 q (za (kv 1) (za zo ze))))
   (zb (wS zm <| zu (i:=3) uG.nd (wE zk <| yI T.q31 G31 q (za (kv 1) (za (kv 2) ze))))
   (zb (xa bh BA (wI yP <| yh BA T.b_range (zi (JE.bo zo) zj)) (wG yf <| zq (i:=4) uG.nd) (zb (wS zm <| zu (i:=5) uG.nd (wE zk <| yI T.q32 G32 q (za (kv 1) (za (kv 2) ze))))
   (zb (wS zm <| zu (i:=6) uG.nd (wE zk <| yI T.q23 G23 q (za (kv 1) (za (kv 2) ze))))
   (zb (wS zm <| zu (i:=7) uG.nd (wE zk <| zao T.q9 G9 q (za (kv 2) (za (kv 3) (za (kv 6) (za (kv 5) ze))))))
   (zb (wS zm <| zu (i:=8) uG.nd (yT yk uL (kb 7) (JE.bo (wE zk <| yI T.q1 G1 q (za (kv 1) (za (zD z6 yY (by rfl) T.b_len aP (zi (kb 7) zj)) ze)))) (λ_ _=>rfl)))
   (zb (wS zm <| zu (i:=9) uG.nd (wE zk <| zao T.q9 G9 q (za (kv 2) (za (kv 3) (za (kv 8) (za (kv 5) ze))))))
   (zb (wS zm <| zu (i:=10) uG.nd (zaI (za (kv 6) (za (kv 8) (za (yT yk uL (kb 9) (JE.bo (wE zk <| yI T.q1 G1 q (za (kv 1) (za (zD z6 yY (by rfl) T.b_len aP (zi (kb 9) zj)) ze)))) (λ_ _=>rfl)) ze)))))
   (zb (wS zm <| zu (i:=11) uG.nd (wE zk <| yI T.q23 G23 q (za (kv 1) (za (kv 2) ze))))
   (zb (wS zy <| yp (JW.t (wW zaQ <| zdR (wT xu <| uQ (wT zl <| uR (JE.bo (wE zk <| yI T.q33 G33 q (za (kv 2) (za (kv 3) (za (kv 10) (za (kv 5) ze)))))))) (x6 (.inr BA) (wT xu <| uQ (wT zl <| uR (JE.bo (wE zk <| yI T.q34 G34 q (za (kv 2) (za (kv 3) (za (kv 6) (za (kv 8) (za (kv 5) ze)))))))))))) (zg (zp zaH)) zx)
   (zb (wS zy <| yp (JW.t (wW zaQ <| zdR (wT xu <| uQ (wT zl <| uR (JE.bo (wE zk <| yI T.q34 G34 q (za (kv 2) (za (kv 3) (za (kv 6) (za (kv 11) (za (kv 5) ze))))))))) (x6 (.inr BA) (wT xu <| uQ (wT zl <| uR (JE.bo (wE zk <| yI T.q35 G35 q (za (kv 2) (za (kv 3) (za (kv 6) (za (kv 11) (za (kv 5) ze)))))))))))) (zg (zp zaH)) zx)
   (zg (wS zy <| yp (wT xu <| uQ (wT zl <| uR (JE.bo (wE zk <| yI T.q36 G36 q (za (kv 2) (za (kv 3) (za (kv 6) (za (yT yk uL (JE.bo (zaI (za (kv 8) (za (kv 11) ze)))) (JE.bo (zas uE znd (kb 4) (JE.bo zo))) (λ_ _=>rfl)) (za (kv 5) (za (wE zk <| yI T.q25 G25 q (za (kv 1) (za (kv 2) (za zo ze)))) ze)))))))))) (zg (zp zaH)) zx))))))))))))
   (zg (zp zaH))))),λp c ns ag an=>?_]
 have U:zbV K Pn p:=#[c,ns,ag,an];show zta ?_;left;have Y:Pn.J=J0:=by rw[ag]
 show F_mkRm.i U #[by ext,by ext] (hn:=by omega) λrm m I O hm=>?_;have hp:zY rm<=256:=by omega
 left;show F_book.i U I hp (hn:=by omega) λbk m2 Z ap a5=>?_;left;show#[#[by ext,by ext],zeY (λi D m'=>m'<=5100+200 * i/\i<=6/\∃v4 v5 v6 v7 v8 v9 ac ad,D=[none,some (.pen p),some (.d (stD rm)),some (.d (xV bk)),v4,v5,v6,v7,v8,v9,ac,ad]) #[by omega,aL _,_,_,_,_,_,_,_,_,BA] ?_ ?_];rintro i D m' hi ⟨as,a0,v4,v5,v6,v7,v8,v9,ac,ad,rfl⟩ C B E hC _ _;left;show F_held.i U I (hn:=by omega) λv hs m4 hv a7=>?_;left;show F_mkSt.i U I (hn:=by omega) λone m5 h1 ba=>?_;left;show F_rea.i Y hv I Z hp h1 λsm us a1 os=>?_
 have p1:1<=sm.length:=by
  cases sm with
  | nil=>have:=(a1 one).mpr Rch.self;cases this
  | cons _ _=>simp
 have q1:=zad I hp (ziG us) os;left;rw[ab];show dr U (hn:=by omega) (h1:=by omega) (h2:=by omega) λc c0 c1=>?_;obtain⟨j,rfl⟩:∃j:Nat,c=(j:Int):=#[c.toNat,by omega];left;show zV (zaD (rows:=sm) (i:=j) (by omega)) ?_;have h2:=os _ (yD (rows:=sm) (i:=j) (by omega));generalize sm.getD j []=two at h2 ⊢;left;show F_rea.i Y hv I Z hp h2 λsn un a2 on=>?_
 have p2:1<=sn.length:=by
  cases sn with
  | nil=>have:=(a2 two).mpr Rch.self;cases this
  | cons _ _=>simp
 have q2:=zad I hp (ziG un) on;left;rw[ab];show dr U (hn:=by omega) (h1:=by omega) (h2:=by omega) λd d0 d1=>?_;obtain⟨k,rfl⟩:∃k:Nat,d=(k:Int):=#[d.toNat,by omega];left;show zV (zaD (rows:=sn) (i:=k) (by omega)) ?_;have h3:=on _ (yD (rows:=sn) (i:=k) (by omega));generalize sn.getD k []=lst at h3 ⊢;left;show F_mkSt.i U I (hn:=by omega) λa3 m6 h4 bb=>?_;left;show F_join.i Y hv I Z O h1 h2 h3 ?_;left;show F_back.i Y hv I Z (by omega) O h1 h2 ?_;left;show F_back.i Y hv I Z (by omega) O h1 h4 ?_;left;show F_sfa.i Y hv I Z O h1 h4 ?_;left;show#[by ext,zsg (cS _ (by ext)) (ci _ (by ext)) λy hy=>?_]
 obtain⟨tw,rfl,ht⟩:∃tw,y=stD tw/\StOk rm tw:=by
  simp only[aA,bW,or_false] at hy;rcases hy with rfl | rfl;show#[_,BA,h2];show#[_,BA,h4]
 clear hy;left;show F_mkWi.i U I (hn:=by omega) λx m7 hx bc=>?_;left;show F_more.i Y hv I Z ap O h1 ht hx ?_;left;show hC #[by omega,hi,_,_,_,_,_,_,_,_,BA];rintro D m' ⟨as,a0,v4,v5,v6,v7,v8,v9,ac,ad,rfl⟩;left
end
def Dm{K:AH}{h:Heap}{mg:AI}{x:Str}{st:Stmt}{ps:AM}{f:Addr}{J kV B F q ct:Value}{O I:Option Addr}(X:K.In h)(BF:h.Ns mainGlobals mg)(a:PySem.W.nsIn K mainGlobals x=some (some (.ref f)))(l:K.lookup f=some #[J,O,.func (PySem.W.fnOf x x (z9 st) (zB st) (zd st) .none kV B F I q ct),U])(c:PySem.W.codeIn K q x=true)(k:PySem.W.keepIn K (.ref f)=true)(b:∀ (kV B F:Value) (I:Option Addr) (q ct:Value) (us:AN),us.length=ps.length->bindArgs (PySem.W.fnOf x x (z9 st) (zB st) (zd st) .none kV B F I q ct) #[us,[]]=pure (ps.zip us)):Dfn K mg x st ps f (PySem.W.fnOf x x (z9 st) (zB st) (zd st) .none kV B F I q ct):=#[zha l c k,(zha l c k).binds b,PySem.W.mg_of X BF a]
def DmD{K:AH}{h:Heap}{mg:AI}{x:Str}{st:Stmt}{ps:AM}{ds:AN}{f T:Addr}{Y kV F I B ct Z:Value}{od J O:Option Addr}{q:AK}(X:K.In h)(BF:h.Ns mainGlobals mg)(a:PySem.W.nsIn K mainGlobals x=some (some (.ref f)))(l:K.lookup f=some #[Y,od,.func (PySem.W.fnOf x x (z9 st) (zB st) (zd st) (.ref T) kV F I J B ct),sl])(c:PySem.W.codeIn K B x=true)(k:PySem.W.keepIn K (.ref f)=true)(t:K.lookup T=some #[Z,O,.seq q n2,U])(b:∀us:AN,(us++[]).length=ps.length->∃k:Option AK->Sem (List (Str×Value)),bindArgs (PySem.W.fnOf x x (z9 st) (zB st) (zd st) (.ref T) kV F I J B ct) #[us,[]]=seqItems? (.ref T) >>= k/\k (some q)=pure (ps.zip (us++[])))(e:∀us:AN,(us++ds).length=ps.length->∃k:Option AK->Sem (List (Str×Value)),bindArgs (PySem.W.fnOf x x (z9 st) (zB st) (zd st) (.ref T) kV F I J B ct) #[us,[]]=seqItems? (.ref T) >>= k/\k (some q)=pure (ps.zip (us++ds))):DfnD K mg x st ps ds f (PySem.W.fnOf x x (z9 st) (zB st) (zd st) (.ref T) kV F I J B ct):=#[zjr l c k,zgX l BA t b,zgX l BA t e,PySem.W.mg_of X BF a]
def fin {l:PySem.W.OpenLaw}{w:Ab}{K:AH}{mg:AI}{fa:Addr}{t:Ad}(q:mg "law" = some (.ref fa))(T:Txt K mg t)(b:∀ (s:AZ) (v:Value),BindsTo s t.d37 #[[v],[]] [("_law_script",v)]):∃fd:Ac,(∀ (s:AZ) (v:Value),BindsTo s fd #[[v],[]] [("_law_script",v)])/\∀base:Heap,K.In base->base.Ns mainGlobals mg->FnOk l.prog w K mg base CX0 9 fa fd lu (zix K):=by have e:=q.symm.trans T.q37.m;cases e;show#[_,b,λbase _ _=>zsf T]
def walk {l:PySem.W.OpenLaw}{q:Aa}{B:AM}{XP:(AI)->Heap->Prop}{YP:Ab->Heap->Prop}{d:DefRec}{K:Params->AH}(hn:l.most=some 63)(I:d.params.defaults=[])
  (J:∀ (w:Ab) (h:Heap),YP w h->(K w.params).In h)
  (F:∀ (w:Ab) (mg:AI) (fa:Addr) (h:Heap),(K w.params).In h->h.Ns mainGlobals mg->mg d.name=some (.ref fa)->
   ∃fd:Ac,(∀ (s:AZ) (u:Value),BindsTo s fd #[[u],[]] [("_law_script",u)])/\∀base:Heap,(K w.params).In base->base.Ns mainGlobals mg->FnOk l.prog w (K w.params) mg base CX0 9 fa fd lu (zix (K w.params))) :
  PySem.W.WalkO q B XP YP l.row.toRowW d [] (λf vs=>PySem.call f vs):=
 L2.zq5 (n:=63) (k:=9) (x := "_law_script") (CX:=λ_=>CX0) (sp:=λw=>zix (K w.params)) hn (by ext) I #[BA,by ext,by ext] J F (λ_ _ _ _ O U Y=>zm6 U Y O λ_=>rfl) λ_ _ _ _ _ z=>z
end Law
end
open PySem PySem.W PyProof.Rows
theorem PySem.W.Fast.te13052408679150730464:True:=.intro
theorem PySem.W.Fast.te13590782946482404596:True:=.intro
set_option maxRecDepth 100000 in
set_option maxHeartbeats 0 in
theorem PySem.Challenge.cw_allelse_k21_whole_ways_put_together_holds : PySem.Challenge.rw_allelse_k21_whole_ways_put_together.Holds := by
 w_on;refine holds_law (by decide +kernel) λ_=>?_;k_head;(case hw=>w_witness2)
 k_fill
 refine Law.walk (l:=PySem.Challenge.rw_allelse_k21_whole_ways_put_together) rfl rfl (λw h Y=>PySem.W.kIn_of Y) ?F
 case F=>
  intro w mg fa h KX G I;refine' Law.fin (t:=⟨_,_,_,_,_,_,_,_,_,_,_,_,_,_,_,_,_,_,_,_,_,_,_,_,_,_,_,_,_,_,_,_,_,_,_,_,_,_,_,_,_,_,_,_,_,_,_,_,_,_,_,_,_,_,_,_,_,_,_,_,_,_,_,_,_,_,_,_,_,_,_,_,_,_,_,_,_,_,_,_,_⟩) I ⟨?CL,?D0,?D1,?D2,?D3,?D4,?D5,?D6,?D7,?D8,?D9,?D10,?D11,?D12,?D13,?D14,?D15,?D16,?D17,?D18,?D19,?D20,?D21,?D22,?D23,?D24,?D25,?D26,?D27,?D28,?D29,?D30,?D31,?D32,?D33,?D34,?D35,?D36,?D37,?z_enumerate,?z_sorted,?z_all,?z_set,?z_tuple,?z_range,?z_isinstance,?z_int,?z_list,?z_len,?z_bool,?z_abs,?B⟩ λs v=>?b
  (case D0 | D1 | D2 | D3 | D5 | D6 | D7 | D10 | D11 | D12 | D13 | D14 | D15 | D17 | D19 | D20 | D21 | D22 | D23 | D24 | D25 | D26 | D27 | D28 | D29 | D30 | D31 | D32 | D33 | D34 | D35 | D36 | D37=>(dsimp only;refine' Law.Dm (by assumption) (by assumption) ?da ?dl ?dc ?dk ?db;(case da=>k_is);(case dl=>k_is);(case dc=>k_is);(case dk=>k_is);(case db=>(intro _ _ _ _ _ _ us q;first | (obtain⟨_,e⟩:=L2.us_1 q;subst e;rfl) | (obtain⟨_,_,e⟩:=L2.us_2 q;subst e;rfl) | (obtain⟨_,_,_,e⟩:=L2.us_3 q;subst e;rfl) | (obtain⟨_,_,_,_,e⟩:=L2.zwe q;subst e;rfl) | (obtain⟨_,_,_,_,_,e⟩:=L2.zwf q;subst e;rfl) | (obtain⟨_,_,_,_,_,_,e⟩:=L2.us_6 q;subst e;rfl)))))
  (case D4 | D8 | D9 | D16 | D18=>(dsimp only;refine' Law.DmD (by assumption) (by assumption) ?da ?dl ?dc ?dk ?dt ?db ?J;(case da=>k_is);(case dl=>k_is);(case dc=>k_is);(case dk=>k_is);(case dt=>k_is);(case db=>(intro us q;first | (obtain⟨_,_,_,_,e⟩:=L2.zwe (show us.length=4 by rw[List.append_nil] at q;exact q);subst e;exact⟨_,rfl,rfl⟩) | (obtain⟨_,_,_,_,_,e⟩:=L2.zwf (show us.length=5 by rw[List.append_nil] at q;exact q);subst e;exact⟨_,rfl,rfl⟩) | (obtain⟨_,_,_,_,_,_,e⟩:=L2.us_6 (show us.length=6 by rw[List.append_nil] at q;exact q);subst e;exact⟨_,rfl,rfl⟩)));(case J=>(intro us q;first | (obtain⟨_,_,_,e⟩:=L2.us_3 (show us.length=3 by rw[List.length_append] at q;exact Nat.succ.inj q);subst e;exact⟨_,rfl,rfl⟩) | (obtain⟨_,_,_,_,e⟩:=L2.zwe (show us.length=4 by rw[List.length_append] at q;exact Nat.succ.inj q);subst e;exact⟨_,rfl,rfl⟩) | (obtain⟨_,_,_,_,_,e⟩:=L2.zwf (show us.length=5 by rw[List.length_append] at q;exact Nat.succ.inj q);subst e;exact⟨_,rfl,rfl⟩)))))
  (case z_enumerate | z_sorted | z_all | z_set | z_tuple | z_range | z_isinstance | z_int | z_list | z_len | z_bool | z_abs | B=>(refine' PySem.W.mg_none_of (by assumption) (by assumption) ?dz;(case dz=>k_is)))
  (case CL=>(dsimp only;refine' L3.Cm (by assumption) (by assumption) ?qa ?qa1 ?qi1 ?ql1 ?qc1 ?qk1 ?qt ?qa2 ?qi2 ?ql2 ?qc2 ?qk2 ?qpg ?qhd ?qpo ?qsa ?qmk ?qkc ?qn1 ?qn2 ?qn3 ?qn4 ?qb ?qe ?qbA;(case qa=>k_is);(case qa1=>k_is);(case qi1=>k_is);(case ql1=>k_is);(case qc1=>k_is);(case qk1=>k_is);(case qt=>k_is);(case qa2=>k_is);(case qi2=>k_is);(case ql2=>k_is);(case qc2=>k_is);(case qk2=>k_is);(case qpg=>k_is);(case qhd=>k_is);(case qpo=>k_is);(case qsa=>k_is);(case qmk=>k_is);(case qkc=>k_is);(case qn1=>k_is);(case qn2=>k_is);(case qn3=>k_is);(case qn4=>k_is);(case qb=>intro us q;exact match us,q with | [_,_,_,_],_=>⟨_,rfl,rfl⟩);(case qe=>intro us q;exact match us,(show us.length=3 by rw[List.length_append] at q;exact Nat.succ.inj q) with | [_,_,_],_=>⟨_,rfl,rfl⟩);(case qbA=>intro _ _ _ _ _ _ us q;exact match us,q with | [_,_],_=>rfl)))
  (case b=>exact .of_eq rfl)


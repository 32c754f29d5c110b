import PyProof.Rows.All
import Wide.All
import OpenK.AllK
import Wide.FinOn
import Lean
import PyProof.EqAt
import PyProof.EqKinds
import PyProof.TupleCall
import PySem.Challenge.RW_allelse_k16_shut_sets_told
set_option Elab.async false
set_option linter.all false
set_option maxRecDepth 100000
set_option maxHeartbeats 4000000
section
local macro_rules | `(tactic| show $e)=>`(tactic|refine $e)
local macro_rules | `(tactic| ext)=>`(tactic|decide)
local macro_rules | `(tactic| right)=>`(tactic|simp_all)
local macro_rules | `(tactic| walk_at "v") => `(tactic| (first | exact Or.inl rfl | exact Or.inr (Or.inl rfl) | exact Or.inr (Or.inr rfl)))
local macro_rules | `(tactic| walk_at "l") => `(tactic| (first | exact Or.inl rfl | exact Or.inr rfl | assumption))
local macro_rules | `(tactic| walk_at "f") => `(tactic| (exact ⟨rfl, rfl, rfl, by decide +kernel, rfl, by decide +kernel, by decide +kernel⟩))
local macro_rules | `(tactic| walk_at "c") => `(tactic| (exact ⟨rfl, by decide +kernel, rfl⟩))
open PySem PySem.Spec
abbrev AA:=Value->Shared->Prop
abbrev AB:=List (Addr×Obj)
abbrev AE:=List (List Int×Addr)
abbrev AF:=List (List Int)
abbrev AG:=List Int
abbrev AH:=PySem.W.Frag
abbrev AI:=Str->Option Value
abbrev AJ:=Option Value
abbrev AK:=Array Value
abbrev AL:=Addr->Prop
abbrev AM:=List Str
abbrev AN:=List Value
abbrev AO:=List Expr
abbrev AQ:=Option Int
abbrev AR:=List Nat
abbrev AY:=List Addr
abbrev AZ:=Shared
abbrev Aa:=Program
abbrev Ab:=World
abbrev Ac:=FuncData
abbrev Ae:=Around
abbrev Ag(p:Program)(w:World)(A:Around){α:Type}:=@wpAny α (model p w) A
abbrev Ah(x:Str):Prop:=(x==("__debug__":Str))=false
abbrev Ai:Str:="self"
abbrev Aj:Str:="room"
abbrev Ak:Str:="book"
abbrev Am:Str:="held"
abbrev An:Str:="standing"
abbrev Ao:Str:="_law_pen_here"
abbrev Ap:Str:="_law_room_here"
abbrev Aq:Str:="_law_most"
abbrev Ar:Str:="_law_book_here"
abbrev As:Str:="_law_one"
abbrev At:Str:="_law_held_here"
abbrev Au:Str:="_law_way"
abbrev Av:Str:="_law_standing_here"
abbrev Aw:Str:="_law_box"
abbrev Ax:Str:="_law_at"
abbrev Ay:Str:="_law_worth"
abbrev Az:Str:="_law_k"
abbrev A1:Str:="_law_found"
abbrev A5:Str:="_law_given_here"
abbrev A6:Str:="_law_some"
abbrev A7:Str:="_law_other"
abbrev A8:Str:="_law_worths"
abbrev A9:Str:="_law_better"
abbrev BA:Str:="_law_there"
namespace L2
open PyProof.Rows
abbrev ae:=@wpAny_bind
abbrev af:=@List.length_map
abbrev ah:=@wpAny_pure
abbrev ai:=@Heap.get?_push_of_some
abbrev aj:=@List.getElem?_eq_some_iff
abbrev ak:=@Nat.le_refl
abbrev am:=@List.mem_cons_self
abbrev ao:=@List.length_append
abbrev aq:=@List.mem_singleton
abbrev ar:=@List.mem_cons_of_mem
abbrev au:=@List.mem_append
abbrev av:=@List.getElem?_set_ne
abbrev aw:=@Heap.get?_push_size
abbrev ax:=@List.getElem?_eq_getElem
abbrev ay:=@Bool.false_ne_true
abbrev az:=@Heap.lt_size
abbrev aA:=@Nat.le_trans
abbrev aB:=@List.map_cons
abbrev aC:=@List.append_assoc
abbrev aD:=@List.mem_map
abbrev aE:=@List.length_range
abbrev aF:=@List.map_map
abbrev aG:=@List.mem_cons
abbrev aH:=@List.map_append
abbrev aI:=@List.mem_append_right
abbrev aJ:=@List.mem_of_getElem?
abbrev aK:=@Array.length_toList
abbrev aL:=@Option.map_eq_some_iff
abbrev aM:=@Nat.zero_le
abbrev aN:=@List.getElem?_map
abbrev aO:=@List.length_cons
abbrev aP:=@Bool.false_eq_true
abbrev aQ:=@List.mem_range
abbrev aR:=@Int.toNat_natCast
abbrev aS:=@Array.getElem?_eq_getElem
abbrev aT:=@List.mem_append_left
abbrev aU:=@List.getElem?_set_self
abbrev aV:=@Nat.ne_of_lt
abbrev aW:=@List.size_toArray
abbrev aX:=@List.take_append_drop
abbrev aY:=@List.eq_nil_of_length_eq_zero
abbrev aZ:=@Nat.lt_of_le_of_lt
abbrev a6:=@Nat.lt_of_lt_of_le
abbrev a8:=@decide_eq_false
abbrev a9:=@List.pairwise_cons
abbrev bf:=@wpAny_call_entry
abbrev bg:=@PySem.boot_len
abbrev bh:=@PassesOwn.never
abbrev bi:=@decide_eq_true
abbrev bj:=@List.take_of_length_le
abbrev bm:=@List.length_take
abbrev bn:=@Array.toList_append
abbrev bp:=@List.getElem?_append_right
abbrev bq:=@List.getD_eq_getElem?_getD
abbrev br:=@List.pairwise_append
abbrev bt:=@wpAny_holding
abbrev bu:=@List.dropLast_concat_getLast
abbrev bv:=@PyProof.Rows.boot_tuple
abbrev bw:=@Heap.SameBut.update
abbrev bz:=@wpAny_newObj_type
abbrev bB:=@List.take_length
abbrev bC:=@Heap.get?_update_self
abbrev bD:=@List.getElem?_append_left
abbrev bE:=@List.pairwise_iff_getElem
abbrev bF:=@List.mem_of_mem_take
abbrev bG:=@of_decide_eq_true
abbrev bH:=@wpAny_mono
abbrev bI:=@Bool.and_eq_true
abbrev bJ:=@wpAny_setState_of
abbrev bK:=@Heap.get?_update_other
abbrev bL:=@List.map_congr_left
abbrev bM:=@wpS_forRange
abbrev bN:=@List.length_set
abbrev bO:=@wpAny_setField
abbrev bP:=@List.getElem_mem
abbrev bQ:=@decide_eq_false_iff_not
abbrev bR:=@Array.toList_push
abbrev bS:=@List.pairwise_map
abbrev bT:=@Array.mem_toList_iff
abbrev bU:=@List.mem_iff_getElem
abbrev bV:=@PySem.W.kia_one
abbrev bW:=@List.drop_eq_getElem_cons
abbrev bX:=@Classical.byContradiction
abbrev bY:=@wpAny_askSetting
abbrev bZ:=@List.getElem?_take_of_lt
abbrev b5:=@Array.getElem?_toList
abbrev b6:=@PySem.F.slot_dict_keyiterator_next
abbrev b7:=@List.mem_filter
abbrev b8:=@sizeLine_eq
abbrev b9:=@wpAny_field
abbrev cb:=@Obj.data_mapFields
abbrev ce:=@List.getElem_map
abbrev cg:=@eq_of_beq
abbrev ci:=@List.filterMap_cons
abbrev cj:=@List.take_sublist
abbrev cm:=@decide_eq_true_eq
abbrev cq:=@List.find?_cons
abbrev cr:=@List.length_singleton
abbrev cw:=@Int.emod_lt_of_pos
abbrev cx:=@List.getElem_range
abbrev cy:=@PyProof.Rows.boot_sorted
abbrev cz:=@List.all_eq_true
abbrev cA:=@beq_self_eq_true
abbrev cB:=@List.mem_reverse
abbrev cC:=@wpAny_typeNameOfWhole_keyiter
abbrev cD:=@List.not_mem_nil
abbrev cE:=@List.take_append_of_le_length
abbrev cF:=@List.mem_of_mem_drop
abbrev cG:=@Nat.lt_irrefl
abbrev cH:=@Nat.le_of_lt
abbrev cI:=@wpAny_seqItems
abbrev cJ:=@List.reverse_cons
abbrev cK:=@Nat.lt_trichotomy
abbrev cL:=@Option.some.inj
abbrev cN:=@PyProof.Rows.boot_list
abbrev cO:=@F.slot_tuple_iterator_next
abbrev cP:=@Array.getElem?_eq_some_iff
abbrev cQ:=@wpAny_standAt
abbrev cR:=@List.any_cons
abbrev cS:=@Heap.size_push
abbrev cT:=@Int.le_refl
abbrev cU:=@wpAny_rule
abbrev cV:=@wpAny_passesOwn
abbrev cW:=@Bool.eq_iff_iff
abbrev cY:=@List.append_nil
abbrev cZ:=@List.nodup_cons
abbrev c7:=@Int.emod_nonneg
abbrev c8:=@Nat.lt_succ_of_lt
abbrev c9:=@Nat.not_lt_zero
abbrev da:=@Nat.le_of_lt_succ
abbrev db:=@PySem.mem_of_lookup
abbrev de:=@PySem.F.plainAttrs_list
abbrev dg:=@List.getElem_inj
abbrev dh:=@List.mem_filterMap
abbrev di:=@PyProof.Rows.callWith_type1
abbrev dj:=@Obj.isFreed_of_fields
abbrev dl:=@List.all_cons
abbrev dn:=@wpAny_attempt
abbrev dq:=@Array.getElem_mem
abbrev du:=@wpS_modify
abbrev dw:=@List.reverse_perm
abbrev dy:=@List.nodup_append
abbrev dz:=@Nat.pow_le_pow_right
abbrev dB:=@Array.getElem_toList
abbrev dC:=@List.drop_zero
abbrev dD:=@PySem.F.args_dict_keyiterator_next_1
abbrev dE:=@Nat.succ_le_succ
abbrev dF:=@List.nodup_range
abbrev dG:=@List.ext_getElem
abbrev dH:=@wpAny_isInstance
abbrev dJ:=@Heap.get?_update_ne
abbrev dL:=@PySem.F.entry_dict_keyiterator_next
abbrev dM:=@List.map_eq_nil_iff
abbrev dN:=@PySem.F.args_tuple_add_2
abbrev dO:=@wpAny_typeOf
abbrev dP:=@wpAny_Call_Name_kw
abbrev dQ:=@PySem.F.entry_tuple_add
abbrev dR:=@List.forIn_cons
abbrev dS:=@List.pairwise_singleton
abbrev dU:=@Nat.min_eq_left
abbrev dW:=@Int.natCast_mul
abbrev dX:=@List.getElem?_cons_succ
abbrev dY:=@PySem.F.slot_tuple_add
abbrev dZ:=@wpAny_truthy_bool
abbrev ee:=@Obj.cls_mapFields
abbrev ef:=@Bool.not_eq_true'
abbrev eh:=@List.drop_sublist
abbrev ek:=@Heap.get?_push_ne
abbrev em:=@List.drop_drop
abbrev en:=@List.Perm.refl
abbrev et:=@List.map_nil
abbrev eu:=@List.Perm.append_left
abbrev ez:=@List.pairwise_reverse
abbrev eA:=@List.eq_nil_or_concat
abbrev eC:=@PyProof.Rows.boot_abs
abbrev eD:=@List.contains_iff_mem
abbrev eE:=@Nat.lt_succ_self
abbrev eF:=@List.cons_append
abbrev eG:=@List.length_drop
abbrev eI:=@Array.toList_inj
abbrev eJ:=@Heap.get?_none_of_le
abbrev eK:=@List.drop_eq_nil_iff
abbrev eL:=@F.args_tuple_iterator_next_1
abbrev eM:=@Bool.and_true
abbrev eO:=@wpAny_execs_nil
abbrev eP:=@PySem.W.plainGet_of
abbrev eQ:=@List.of_mem_zip
abbrev eR:=@wpAny_specialOf
abbrev eS:=@F.entry_tuple_iterator_next
abbrev eU:=@List.take_left'
abbrev eV:=@entry_list_sort
abbrev eW:=@wpAny_setEntries_of
abbrev eX:=@Int.toNat_of_nonneg
abbrev eY:=@F.slot_zip_next
abbrev eZ:=@assignInOrder_cons
abbrev ff:=@Nat.ne_of_gt
abbrev fg:=@wpAny_pyIter_tuple
abbrev fj:=@PySem.W.callWith_K
abbrev fm:=@tupleKind_room_in1
abbrev fq:=@List.filterMap_map
abbrev fw:=@List.getElem?_drop
abbrev fB:=@Bool.not_eq_false'
abbrev fD:=@Nat.succ_pos
abbrev fE:=@slot_list_sort
abbrev fF:=@args_list_sort
abbrev fG:=@wpAny_fieldsOf
abbrev fH:=@isSubtype_stop
abbrev fJ:=@wpAny_pyIter_list
abbrev fK:=@Option.isSome_map
abbrev fL:=@List.ext_getElem?
abbrev fM:=@List.getElem_take
abbrev fN:=@bne_self_eq_false
abbrev fO:=@Nat.mod_lt
abbrev fP:=@Nat.lt_succ_of_le
abbrev fQ:=@wpAny_pyIter_slot
abbrev fR:=@wpAny_dictEntries
abbrev fS:=@List.Pairwise.imp
abbrev fT:=@Paired.length
abbrev fU:=@wpAny_handled
abbrev fV:=@listUpdate_at
abbrev fW:=@wpAny_newList
abbrev fX:=@Int.lt_irrefl
abbrev fY:=@Bool.not_true
abbrev fZ:=@noFill_tuple_add
abbrev gb:=@Nat.div_eq_of_lt
abbrev gc:=@Array.toList_map
abbrev gd:=@wpAny_forIn_list
abbrev ge:=@List.any_eq_true
abbrev gf:=@codeAny_mono
abbrev gg:=@Nat.succ_mul
abbrev gh:=@Nat.add_zero
abbrev gk:=@Nat.zero_add
abbrev Key:=Sum Int Str
def zf0:Key->Value->Bool
 | .inl k,v=>Value.isInt k v
 | .inr x,v=>Value.isStrOf x v
def keyH (w:Ab):Key->Int
 | .inl k=>hashInt k
 | .inr x=>hashStr w x
def zR:∀ {k:Key} {v:Value},zf0 k v=true->(∃i t,k=Sum.inl i/\v=Value.int i t)\/(∃x t,k=Sum.inr x/\v=Value.str x t)
 | .inl i,v,h=>by obtain⟨t,e⟩:=Value.isInt_shape (k:=i) (v:=v) h;exact .inl ⟨i,t,rfl,e⟩
 | .inr x,v,h=>by obtain⟨t,e⟩:=Value.isStrOf_shape (x:=x) (v:=v) h;exact .inr ⟨x,t,rfl,e⟩
def zeV (i:Int)(t:Tok):zf0 (.inl i) (.int i t)=true:=by simp[zf0,Value.isInt]
def zjx (x:Str)(t:Tok):zf0 (.inr x) (.str x t)=true:=by simp[zf0,Value.isStrOf]
def zrv (a b:Int):decide ((Sum.inl a:Key)=Sum.inl b)=(a==b):=by grind
def zry (a b:Str):decide ((Sum.inr a:Key)=Sum.inr b)=decide (a=b):=by grind
def zrw (a:Int)(b:Str):decide ((Sum.inl a:Key)=Sum.inr b)=false:=rfl
def zrx (a:Str)(b:Int):decide ((Sum.inr a:Key)=Sum.inl b)=false:=rfl
def zS (prog:Aa)(w:Ab):PySem.KeyKind prog w Key where
 is:=zf0
 hash:=keyH w
 inj:=λv a b I F=>by
  rcases zR I with ⟨i,t,rfl,rfl⟩ | ⟨x,t,rfl,rfl⟩;rcases zR F with ⟨j,u,rfl,e⟩ | ⟨y,u,rfl,e⟩;injection e with q _;rw[q];exact nomatch e;rcases zR F with ⟨j,u,rfl,e⟩ | ⟨y,u,rfl,e⟩;exact nomatch e;injection e with q _;rw[q]
 byValue:=λk v h=>by rcases zR h with ⟨i,t,rfl,rfl⟩ | ⟨x,t,rfl,rfl⟩ <;> rfl
 pyHash:=λB h=>by
  rcases zR B with ⟨i,t,rfl,rfl⟩ | ⟨x,t,rfl,rfl⟩;exact wpAny_pyHash_int h;exact wpAny_pyHash_str h
 eqBool:=λJ B h=>by
  rcases zR J with ⟨i,t,rfl,rfl⟩ | ⟨x,t,rfl,rfl⟩;rcases zR B with ⟨j,u,rfl,rfl⟩ | ⟨y,u,rfl,rfl⟩;rw[zrv] at h;exact wpAny_eqBool_int h;rw[zrw] at h;exact SeqAt.EqAt.int_str i t y u _ _ _ _ h;rcases zR B with ⟨j,u,rfl,rfl⟩ | ⟨y,u,rfl,rfl⟩;rw[zrx] at h;exact SeqAt.EqAt.str_int x t j u _ _ _ _ h;rw[zry] at h;exact wpAny_eqBool_str h
 «strs»:=λk x t v h=>by
  rcases zR h with ⟨i,u,rfl,e⟩ | ⟨y,u,rfl,e⟩;exact nomatch e
  ·injection e with q _;subst q;cases v <;> rfl
def zf4 (prog:Aa)(w:Ab)(i:Int)(t:Tok):(zS prog w).is (.inl i) (.int i t)=true:=zeV i t
def zf5 (prog:Aa)(w:Ab)(x:Str)(t:Tok):(zS prog w).is (.inr x) (.str x t)=true:=zjx x t
inductive V where
 | non | bl (b:Bool) | int (i:Int) | str (x:Str) | byt (b:Array UInt8) | flt (b:UInt64) | ref (a:Addr) | ty (n:String)
 deriving DecidableEq
abbrev AT:=List V
def yd:V->Value->Prop
 | .non,u=>u=Value.none
 | .bl b,u=>u=Value.bool b
 | .int i,u=>∃t,u=Value.int i t
 | .str x,u=>∃t,u=Value.str x t
 | .byt b,u=>∃t,u=Value.bytes b t
 | .flt b,u=>∃t,u=Value.float b t
 | .ref a,u=>u=Value.ref a
 | .ty n,u=>u=Value.type n
abbrev zT:AT->AN->Prop:=Paired yd
def zT.length(r:zT xs us):xs.length=us.length:=fT r
def zT.get:∀ {xs:AT} {us:AN} {i:Nat} {x:V},zT xs us->xs[i]?=some x->∃u,us[i]?=some u/\yd x u
 | _,_,_,_,.nil,e=>by simp at e
 | _,_,0,_,.cons r _,e=>by right
 | _,_,i+1,x,.cons _ t,e=>by
  obtain⟨u,h1,h2⟩:=zT.get (i:=i) (x:=x) t (by simpa using e);right
def zT.set(r:yd x u):∀ {xs:AT} {us:AN} (i:Nat),zT xs us->zT (xs.set i x) (us.set i u)
 | _,_,_,.nil=>.nil
 | _,_,0,.cons _ t=>.cons r t
 | _,_,i+1,.cons q t=>.cons q (zT.set r i t)
def zT.append:∀ {xs ys:AT} {us q:AN},zT xs us->zT ys q->zT (xs++ys) (us++q)
 | _,_,_,_,.nil,s=>s
 | _,_,_,_,.cons r t,s=>.cons r (zT.append t s)
def zT.take:∀ {xs:AT} {us:AN} (n:Nat),zT xs us->zT (xs.take n) (us.take n)
 | _,_,0,_=>.nil
 | _,_,_+1,.nil=>.nil
 | _,_,n+1,.cons r t=>.cons r (zT.take n t)
def zT.drop:∀ {xs:AT} {us:AN} (n:Nat),zT xs us->zT (xs.drop n) (us.drop n)
 | _,_,0,r=>r
 | _,_,_+1,.nil=>.nil
 | _,_,n+1,.cons _ t=>zT.drop n t
def zfv:Option V->AJ->Prop
 | some v,some u=>yd v u
 | none,none=>True
 | _,_=>False
def KV {κ:Type}:List (κ×V)->List (κ×Value)->Prop:=Paired λ(p:κ×V) (q:κ×Value)=>p.1=q.1/\yd p.2 q.2
def kV:Key->V
 | .inl i=>.int i
 | .inr x=>.str x
inductive HO where
  | lst (xs:AT)
  | tup (xs:AT)
  | dK (kvs:List (Key×V)) | dT (kvs:List (List Key×V))
  | set (S:Int->Bool) (n:Nat)
  | ins (C dx:Addr) (fs:List (Str×V))
  | own (x:Addr)
  | xd (fs:List (Str×V))
  | met (f x:Addr)
  | rng (lo hi:Int)
  | frz (o:Obj) (u:HO)
  | tbl (ps:AK)
  | ext (φ:Heap->Prop)
abbrev Hp:=Addr->Option HO
def upd (H:Hp)(a:Addr)(o:HO):Hp:=λb=>if b=a then some o else H b
def zg:upd H a o a=some o:=by unfold upd;rw[if_pos rfl]
def ze(h:b≠a):upd H a o b=H b:=by unfold upd;rw[if_neg h]
def zen:upd (upd H a o) a u=upd H a u:=by funext b;unfold upd;split <;> rfl
def zl1 {H:Hp}{a b:Addr}{o u:HO}(h:H a=some o)(h':H b=some u)(d:o≠u):a≠b:=by grind
def zf {H:Hp}{a b:Addr}{o:HO}(h:H a=some o)(h':H b=none):a≠b:=by grind
def zae (h:Heap)(a:Addr)(items:AK):Prop:=∃o,h.get? a=some o/\o.cls = .type "tuple" /\ (∃n,o.data = .seq items n)/\o.dict=none
def zae.tup(x:zae h a items):IsTup h a items:=let ⟨o,h1,h2,h3,_⟩:=x;⟨o,h1,h2,h3⟩
def zae.lt(x:zae h a items):a<h.objs.size:=x.tup.lt
def zae.new (h:Heap)(items:AK):zae (h.push { cls:=.type "tuple",data:=.seq items }) h.objs.size items:=⟨_,aw _ rfl,rfl,⟨_,rfl⟩,rfl⟩
section
variable (P:Aa)(w:Ab)
def ya (H:Hp)(h:Heap)(a:Addr):HO->Prop
 | .lst xs=>xs.length<=sizeLine/\∃ (B:AN) (n:Nat),zT xs B/\h.get? a=some { cls:=.type "list",data:=.seq B.toArray n }
 | .tup xs=>xs.length<=sizeLine/\∃B:AN,zT xs B/\zae h a B.toArray
 | .dK kvs=>kvs.length<=sizeLine/\(a==sysModules)=false/\∃vs,KV kvs vs/\h.DictOf (zS P w) a vs
 | .dT kvs=>kvs.length<=sizeLine/\(a==sysModules)=false/\∃xs:List (List Key×Addr×Value),
   Paired (λ(p:List Key×V) (q:List Key×Addr×Value)=>p.1=q.1/\H q.2.1=some (.tup (p.1.map kV))/\yd p.2 q.2.2) kvs xs/\
   ∃o es I,h.get? a=some o/\o.ExactDict/\o.data = .dict es I/\es.toList=xs.map (entryOfKey (tupleKind (zS P w)))/\(xs.map (·.1)).Nodup
 | .set S n=>h.SetOf (intKind P w) a S n
 | .ins C dx fs=>H dx=some (.own a)/\fs.length<=1000/\dx≠a/\h.get? a=some (PySem.W.instObj C dx)/\
   ∃mA,h.Ns1 dx mA/\(∀f,zfv (fs.lookup f) (mA f))/\PySem.Within mA (fs.map (·.1))
 | .own _=>∃o,h.get? a=some o
 | .xd fs=>∃mA,h.Ns1 a mA/\∀f,zfv (fs.lookup f) (mA f)
 | .rng lo hi=>∃t u v,h.get? a=some { cls:=.type "range",data:=.fields #[.int lo t,.int hi u,.int 1 v] }
 | .frz o u=>h.get? a=some o/\ya H h a u
 | .tbl ps=>h.get? a=some { cls:=.none,data:=.fields ps }
 | .met f x=>h.get? a=some (PySem.W.methodObj (.ref f) (.ref x))
 | .ext F=>F h/\(∃o,h.get? a=some o)/\∀h1 h2:Heap,F h1->(∀o,h1.get? a=some o->h2.get? a=some o)->F h2
def HOk (H:Hp)(h:Heap):Prop:=∀a o,H a=some o->ya P w H h a o
end
section
variable {P:Aa}{w:Ab}{H H':Hp}{h h':Heap}{a:Addr}{o:HO}
def ya.lt (x:ya P w H h a o):a<h.objs.size:=by
 cases o with
 | lst xs=>obtain⟨_,_,_,_,e⟩:=x;exact az e
 | tup xs=>obtain⟨_,_,_,p⟩:=x;exact p.lt
 | dK kvs=>obtain⟨_,_,_,_,o,_,_,e,_⟩:=x;exact az e
 | dT kvs=>obtain⟨_,_,_,_,o,_,_,e,_⟩:=x;exact az e
 | set S n=>obtain⟨o,_,_,_,e,_⟩:=x;exact az e
 | ins C dx fs=>obtain⟨_,_,_,e,_⟩:=x;exact az e
 | own y=>obtain⟨_,e⟩:=x;exact az e
 | xd fs=>obtain⟨_,⟨_,_,_,e,_⟩,_⟩:=x;exact az e
 | rng lo hi=>obtain⟨_,_,_,e⟩:=x;exact az e
 | frz ob u=>obtain⟨e,_⟩:=x;exact az e
 | tbl ps=>exact az (show h.get? a=some _ from x)
 | met f y=>exact az (show h.get? a=some _ from x)
 | ext q=>obtain⟨_,⟨_,e⟩,_⟩:=x;exact az e
def Paired.mapP {α B:Type}{F G:α->B->Prop}:∀ {l₁:List α} {q:List B},Paired F l₁ q->(∀a b,F a b->G a b)->Paired G l₁ q
 | _,_,.nil,_=>.nil
 | _,_,.cons r t,f=>.cons (f _ _ r) (Paired.mapP t f)
def Paired.imp' {α B:Type}{F G:α->B->Prop}(f:∀a b,F a b->G a b){l₁:List α}{q:List B}(r:Paired F l₁ q):Paired G l₁ q:=Paired.mapP r f
def ya.stay (x:ya P w H h a o)(k:∀b u,(b=a\/H b=some (.own a))->h.get? b=some u->h'.get? b=some u)
  (J:∀b,H b=some (.own a)->H' b=some (.own a)) (O:∀b xs,H b=some (.tup xs)->H' b=some (.tup xs)):ya P w H' h' a o:=by
 induction o with
 | lst xs=>obtain⟨z,F,n,r,e⟩:=x;exact⟨z,F,n,r,k _ _ (.inl rfl) e⟩
 | tup xs=>obtain⟨z,F,r,ob,e,c⟩:=x;exact⟨z,F,r,ob,k _ _ (.inl rfl) e,c⟩
 | dK kvs=>obtain⟨z,y,vs,r,ob,es,B,e,c⟩:=x;exact⟨z,y,vs,r,ob,es,B,k _ _ (.inl rfl) e,c⟩
 | dT kvs=>
  obtain⟨z,y,xs,r,ob,es,B,e,c⟩:=x;exact⟨z,y,xs,Paired.mapP r λp q z=>⟨z.1,O _ _ z.2.1,z.2.2⟩,ob,es,B,k _ _ (.inl rfl) e,c⟩
 | set S n=>obtain⟨ob,es,B,t,e,c⟩:=x;exact⟨ob,es,B,t,k _ _ (.inl rfl) e,c⟩
 | ins C dx fs=>
  obtain⟨d,z,U,e,mA,⟨I,es,B,Y,c⟩,r⟩:=x;exact⟨J _ d,z,U,k _ _ (.inl rfl) e,mA,⟨I,es,B,k _ _ (.inr d) Y,c⟩,r⟩
 | own y=>obtain⟨ob,e⟩:=x;exact⟨ob,k _ _ (.inl rfl) e⟩
 | xd fs=>obtain⟨mA,⟨I,es,B,e,c⟩,r⟩:=x;exact⟨mA,⟨I,es,B,k _ _ (.inl rfl) e,c⟩,r⟩
 | rng lo hi=>obtain⟨t,u,v,e⟩:=x;exact⟨t,u,v,k _ _ (.inl rfl) e⟩
 | frz ob u Z=>obtain⟨e,q⟩:=x;exact⟨k _ _ (.inl rfl) e,Z q⟩
 | tbl ps=>
  have e:h.get? a=some { cls:=.none,data:=.fields ps }:=x;change h'.get? a=some { cls:=.none,data:=.fields ps };exact k a _ (.inl rfl) e
 | met f y=>
  have e:h.get? a=some (PySem.W.methodObj (.ref f) (.ref y)):=x;change h'.get? a=some (PySem.W.methodObj (.ref f) (.ref y));exact k a _ (.inl rfl) e
 | ext φ=>obtain⟨p,⟨o,e⟩,st⟩:=x;exact⟨st _ _ p λo q=>k _ _ (.inl rfl) q,⟨o,k _ _ (.inl rfl) e⟩,st⟩
def HOk.lt (x:HOk P w H h)(e:H a=some o):a<h.objs.size:=(x a o e).lt
def HOk.fresh (x:HOk P w H h)(e:h.objs.size<=a):H a=none:=by
 cases q:H a with
 | none=>rfl
 | some u=>exact absurd (a6 (x.lt q) e) (cG _)
def HOk.kept (x:HOk P w H h)(k:∀b u,h.get? b=some u->h'.get? b=some u):HOk P w H h':=λa o e=>
 (x a o e).stay (λb u _ q=>k b u q) (λ_ q=>q) λ_ _ q=>q
def HOk.laid (x:HOk P w H h)(k:∀b u,h.get? b=some u->h'.get? b=some u)(I:h.objs.size<=a)(B:ya P w (upd H a o) h' a o):HOk P w (upd H a o) h':=λb u e=>by
 have hn:=x.fresh I;by_cases F:b=a;subst F;rw[zg] at e;cases e;exact B;rw[ze F] at e;exact (x b u e).stay (λc v _ q=>k c v q) (λc q=>by rw[ze (zf q hn)];exact q) λc xs q=>by rw[ze (zf q hn)];exact q
end
def Rd (H:Hp)(a:Addr)(u:HO):Prop:=H a=some u\/∃o,H a=some (.frz o u)
def Rd.ok(r:Rd H a u)(x:HOk P w H h):ya P w H h a u:=by
 rcases r with r | ⟨o,r⟩;exact x a u r;obtain⟨_,q⟩:=x a _ r;exact q
def Mut:Option HO->Prop
 | some (.lst _)=>True
 | some (.dK _)=>True
 | some (.dT _)=>True
 | some (.set _ _)=>True
 | some (.ins _ _ _)=>True
 | some (.ext _)=>True
 | _=>False
section
variable {P:Aa}{w:Ab}{H:Hp}{h h':Heap}{x e:Addr}{o':HO}
def HOk.write (ok:HOk P w H h)(I:Mut (H x))(he:e=x\/H e=some (.own x))(k:∀b u,b≠e->h.get? b=some u->h'.get? b=some u)(J:∃u,h'.get? e=some u)
  (O:ya P w (upd H x o') h' x o'):HOk P w (upd H x o') h':=λb u q=>by
 have B:∀c y,H c=some (.own y)->c≠x:=λc y r z=>by subst z;rw[r] at I;exact I
 have F:∀c xs,H c=some (.tup xs)->c≠x:=λc xs r z=>by subst z;rw[r] at I;exact I
 by_cases Y:b=x;subst Y;rw[zg] at q;cases q;exact O;rw[ze Y] at q;by_cases U:b=e
 have Z:H b=some (.own x):=by
  grind
 rw[q] at Z;cases Z;obtain⟨v,hv⟩:=J;exact⟨v,by rw[U];exact hv⟩;show (ok b u q).stay (λc v hc r=>k c v ?_ r) (λc r=>by rw[ze (B c b r)];exact r) λc xs r=>by rw[ze (F c xs r)];exact r
 grind
end
structure Un (fs ex:AY)(H H':Hp)(h h':Heap):Prop where
 keep:∀b o,h.get? b=some o->H b=none->b∉fs->b∉ex->h'.get? b=some o
 slot:∀b o,h.get? b=some o->H b=none->b∈fs->b∉ex->∃sl,h'.get? b=some { o with slots:=sl }
 free:∀b o,h.get? b=some o->H b=none->b∉ex->H' b=none
 there:∀b o,h.get? b=some o->b∉ex->∃o',h'.get? b=some o'
 tups:∀b xs,H b=some (.tup xs)->H' b=some (.tup xs)
 frzs:∀b o u,H b=some (.frz o u)->H' b=some (.frz o u)
 tbls:∀b ps,H b=some (.tbl ps)->∃more,H' b=some (.tbl (ps++more))
section
variable {fs fs' ex ex':AY}{H H1 H2:Hp}{h h1 h2 h':Heap}{a x e:Addr}{o:HO}
def Un.any(u:Un fs ex H H1 h h1)(q:h.get? b=some ob)(n:H b=none)(B:b∉ex):∃I,h1.get? b=some { ob with slots:=I }:=by
 by_cases F:b∈fs;exact u.slot b ob q n F B;exact⟨ob.slots,u.keep b ob q n F B⟩
def Un.kept (k:∀b u,h.get? b=some u->h'.get? b=some u):Un fs ex H H h h':=
 ⟨λb ob q _ _ _=>k b ob q,λb ob q _ _ _=>⟨ob.slots,k b ob q⟩,λ_ _ _ n _=>n,λb ob q _=>⟨ob,k b ob q⟩,λ_ _ q=>q,λ_ _ _ q=>q,λ_ ps q=>⟨#[],by rw[q];simp⟩⟩
def Un.refl:Un fs ex H H h h:=Un.kept λ_ _ q=>q
def Un.laid (k:∀b u,h.get? b=some u->h'.get? b=some u)(B:h.objs.size<=a)(hn:H a=none):Un fs ex H (upd H a o) h h' where
 keep:=λb u q _ _ _=>k b u q
 slot:=λb u q _ _ _=>⟨u.slots,k b u q⟩
 free:=λb u q n _=>by rw[ze (aV (a6 (az q) B))];exact n
 there:=λb u q _=>⟨u,k b u q⟩
 tups:=λb xs q=>by rw[ze (zf q hn)];exact q
 frzs:=λb u xs q=>by rw[ze (zf q hn)];exact q
 tbls:=λb ps q=>⟨#[],by rw[ze (zf q hn),q];simp⟩
def Un.write (B:Mut (H x))(U:e=x\/H e=some (.own x))(k:∀b u,b≠e->h.get? b=some u->h'.get? b=some u)(J:∃u,h'.get? e=some u):Un fs ex H (upd H x o) h h':=by
 have O:∀b,H b=none->b≠x:=λb n z=>by subst z;rw[n] at B;exact B
 have I:∀b,H b=none->b≠e:=λb n z=>by grind
 have F:∀b u,H b=some u->¬ Mut (some u)->b≠x:=λb u q nm z=>by subst z;rw[q] at B;exact nm B
 show⟨λb u q n _ _=>k b u (I b n) q,λb u q n _ _=>⟨u.slots,k b u (I b n) q⟩,λb u q n _=>by rw[ze (O b n)];exact n,λb u q _=>?_,
  λb xs q=>by rw[ze (F b _ q λz=>z)];exact q,λb u xs q=>by rw[ze (F b _ q λz=>z)];exact q,λb ps q=>⟨#[],by rw[ze (F b _ q λz=>z),q];simp⟩⟩
 grind
end
def trk (h:Heap)(H:Hp):AY:=(List.range h.objs.size).filter λa=>(H a).isSome
def zlD (h:Heap)(H:Hp):Heap:=PySem.W.hideAll h (trk h H)
def zjb (h:Heap)(H:Hp):(zlD h H).objs.size=h.objs.size:=PySem.W.hideAll_size _ _
def zlE(e:h.get? b=some o)(n:H b=none):(zlD h H).get? b=some o:=
 PySem.W.hideAll_get _ e λB=>by
  have q:(H b).isSome=true:=(b7.mp B).2;right
def zo3(e:(zlD h H).get? b=some o):h.get? b=some o/\H b=none:=by
 have B:h.get? b=some o:=PySem.W.of_hideAll (trk h H) e;show⟨B,?_⟩
 cases q:H b with
 | none=>rfl
 | some x=>
  have F:b∈trk h H:=b7.mpr ⟨aQ.mpr (az B),by simp[q]⟩;have z:(zlD h H).get? b=none:=PySem.W.hideAll_none (trk h H) F;grind
def znS (g h:Heap)(L:Addr):AB:=(List.range h.objs.size).filterMap λa=>if a=L\/(g.get? a).isSome=true then none else (h.get? a).map λo=>(a,o)
def zy (g h:Heap)(L d:Addr):AB:=(znS g h L).filter λp=>decide (p.1≠d)
structure Mod (K:AH)(mg:AI)(base:Heap):Prop where
 kin:K.In base
 glob:base.Ns mainGlobals mg
 blt:∃mb,base.Ns builtinsNs mb/\∀x:Str,x ≠ "__name__" -> mb x=bootBuiltins x
 nolimit:base.NoLimit
structure Cx where
 prog:Aa
 w:Ab
 K:AH
 mg:AI
 base:Heap
 A:Ae
 N:AM
 s₀:AZ
 H₀:Hp
 env:Env
 outer:List Env
 stack:List Env
 ex:AY
 fn:Str->Bool
 calm:Bool
 pn:AB
 xe:AA
abbrev Af (X:Cx){α:Type}:=@wpAny α (model X.prog X.w) X.A
def frs (l:List Env):AY:=l.filterMap (·.frame)
abbrev Cx.fs (X:Cx):AY:=frs X.outer
def Vis (q:Scope)(x:Str):Prop:=q.names.lookup x=some .local\/q.names.lookup x=some .cell\/q.names.lookup x=some .free
def Loc (q:Scope)(x:Str):Prop:=q.names.lookup x=some .local\/q.names.lookup x=some .cell
def Look (env:Env)(h:Heap)(m:AI)(x:Str)(u:Value):Prop:=
 (env.kindOf x=some .local/\m x=some u)\/((env.kindOf x=some .cell\/env.kindOf x=some .free)/\∃c,env.cells.lookup x=some c/\h.IsCell c (some u))
structure Cx.Ok (X:Cx):Prop where
 mod:Mod X.K X.mg X.base
 kind:X.env.scope.kind = .function
 glob:X.env.globals=mainGlobals
 blt:X.env.builtins=builtinsNs
 above:X.s₀.heap.objs.size<=X.env.locals
 inj:∀x y c,X.env.cells.lookup x=some c->X.env.cells.lookup y=some c->x=y
 has:∀x,(X.env.kindOf x=some .cell\/X.env.kindOf x=some .free)->∃c,X.env.cells.lookup x=some c
 cab:∀x c,X.fn x=true->X.env.cells.lookup x=some c->X.s₀.heap.objs.size<=c
 hd:X.calm=true->X.A.handled=none
 frames:X.A.frames=some X.stack
 stk:X.stack=X.outer\/(X.stack=X.env::X.outer/\X.env.frame=some X.env.locals)
 exf:∀b∈X.ex,b≠X.env.locals/\∀x c,X.env.cells.lookup x=some c->c≠b
 bs:∀b o,X.base.get? b=some o->X.s₀.heap.get? b=some o/\X.H₀ b=none
 bsz:X.base.objs.size<=X.s₀.heap.objs.size
 noex:∀b o,X.base.get? b=some o->b∉X.ex
 exfs:∀b∈X.ex,b∉X.fs
 funs:X.s₀.heap.FunFrames X.base X.outer
 frf:∀b∈X.fs,X.H₀ b=none
structure Inv (X:Cx)(pins:AB)(σ:List (Option V))(H:Hp)(s:AZ):Prop where
 ok:X.Ok
 os:s.os=X.s₀.os
 bare:AllBare s.gens
 base:Un X.fs X.ex X.H₀ H X.s₀.heap s.heap
 loc:∃m,s.heap.Ns X.env.locals m/\∀ (i:Nat) (x:Str) (v:V),X.N[i]?=some x->σ[i]?=some (some v)->Vis X.env.scope x->∃u,yd v u/\Look X.env s.heap m x u
 cell:∀x c,X.env.cells.lookup x=some c->∃v,s.heap.IsCell c v
 free:H X.env.locals=none
 freeC:∀x c,X.env.cells.lookup x=some c->H c=none
 pin:∀p∈X.pn++pins,s.heap.get? p.1=some p.2/\H p.1=none/\p.1≠X.env.locals/\p.1∉X.fs/\∀v,p.2.data≠.cell v
 hok:HOk X.prog X.w H s.heap
 len:σ.length=X.N.length
section
variable {X:Cx}{pins:AB}{σ:List (Option V)}{H H':Hp}{s:AZ}{h':Heap}
def Cx.Ok.nofr(q:X.Ok)(e:X.base.get? b=some o):b∉X.fs:=λB=>by
 have:=(q.funs.mem B).1;grind
def Inv.bs (I:Inv X pins σ H s):∀b o,X.base.get? b=some o->s.heap.get? b=some o/\H b=none:=λb o e=>
 ⟨I.base.keep b o (I.ok.bs b o e).1 (I.ok.bs b o e).2 (I.ok.nofr e) (I.ok.noex b o e),I.base.free b o (I.ok.bs b o e).1 (I.ok.bs b o e).2 (I.ok.noex b o e)⟩
def Inv.bk (I:Inv X pins σ H s):∀b o,X.base.get? b=some o->s.heap.get? b=some o:=λb o e=>(I.bs b o e).1
def Inv.mod (I:Inv X pins σ H s):Mod X.K X.mg X.base:=I.ok.mod
def Inv.kIn (I:Inv X pins σ H s):X.K.In s.heap:=I.ok.mod.kin.keeps I.bk
def Inv.lt (I:Inv X pins σ H s):X.env.locals<s.heap.objs.size:=let ⟨_,hn,_⟩:=I.loc;hn.lt
def Inv.sz (I:Inv X pins σ H s):X.s₀.heap.objs.size<=s.heap.objs.size:=aA I.ok.above (cH I.lt)
def Inv.nofs (I:Inv X pins σ H s){a:Addr}(h:s.heap.objs.size<=a):a∉X.fs:=λq=>by obtain⟨_,o,B,_⟩:=I.ok.funs.mem q;exact absurd (a6 (az B) (aA I.sz h)) (cG _)
def Inv.cne (I:Inv X pins σ H s):∀x c,X.env.cells.lookup x=some c->c≠X.env.locals:=λx c e z=>by
 obtain⟨v,o,F,J⟩:=I.cell x c e;obtain⟨m,⟨o',es,O,q,B,_⟩,_⟩:=I.loc;grind
def Inv.funs (I:Inv X pins σ H s):s.heap.FunFrames X.base X.outer:=by
 have all:∀ (l:List Env),(∀b∈frs l,b∈X.fs)->X.s₀.heap.FunFrames X.base l->s.heap.FunFrames X.base l:=by
  intro l
  induction l with
  | nil=>intro _ _;trivial
  | cons env r J=>
   intro hs O;obtain⟨U,⟨L,o,q,hn,Y,Z⟩,hr⟩:=O;have B:L∈X.fs:=hs L (by unfold frs;rw[ci,q];exact am);obtain⟨sl,e⟩:=I.base.slot L o Y (I.ok.frf L B) B λz=>I.ok.exfs L z B;exact⟨U,⟨L,_,q,hn,e,Z⟩,J (λb F=>hs b (by unfold frs;rw[ci,q];exact ar _ F)) hr⟩
 exact all X.outer (λ_ F=>F) I.ok.funs
def Inv.stack (I:Inv X pins σ H s):s.heap.FunFrames X.base X.stack:=by
 rcases I.ok.stk with e | ⟨e,hf⟩;rw[e];exact I.funs;rw[e];obtain⟨m,hn,_⟩:=I.loc;show .cons (by rw[I.ok.kind];decide) hf hn ?_ I.funs;exact eJ (aA I.ok.bsz I.ok.above)
def Inv.stkSub (I:Inv X pins σ H s):∀b∈frs X.stack,b∈X.env.locals::X.fs:=λb q=>by
 rcases I.ok.stk with e | ⟨e,hf⟩;grind;rw[e] at q;unfold frs at q;rw[ci,hf] at q;exact q
def Inv.stkFree (I:Inv X pins σ H s):∀b∈frs X.stack,H b=none:=λb q=>by
 rcases aG.mp (I.stkSub b q) with e | q;rw[e];exact I.free;obtain⟨_,o,B,_⟩:=I.ok.funs.mem q;exact I.base.free b o B (I.ok.frf b q) λz=>I.ok.exfs b z q
def Inv.step {g':Array GenState}{t':Nat}{d':Drawn}{ch:AY}(I:Inv X pins σ H s)
  (F:∀b∈ch,(b∈X.ex\/X.s₀.heap.objs.size<=b)/\b≠X.env.locals/\(∀x c,X.env.cells.lookup x=some c->c≠b)/\∀p∈X.pn++pins,p.1≠b)
  (U:∀b o,b≠X.env.locals->b∉X.fs->b∉ch->s.heap.get? b=some o->H b=none->h'.get? b=some o)
  (Y:∀b o,b≠X.env.locals->b∈X.fs->b∉ch->s.heap.get? b=some o->H b=none->∃sl,h'.get? b=some { o with slots:=sl }) (J:∀b o,b∉ch->s.heap.get? b=some o->H b=none->H' b=none)
  (ag:∀b o,b∉ch->s.heap.get? b=some o->∃o',h'.get? b=some o')
  (ab:∀b xs,H b=some (.tup xs)->H' b=some (.tup xs)) (ac:∀b o u,H b=some (.frz o u)->H' b=some (.frz o u)) (ap:∀b ps,H b=some (.tbl ps)->∃more,H' b=some (.tbl (ps++more)))
  (ns:∀m,s.heap.Ns X.env.locals m->h'.Ns X.env.locals m) (al:HOk X.prog X.w H' h') (hg:AllBare g') :
  Inv X pins σ H' { s with heap:=h',gens:=g',drawn:=d',toks:=t' }:=by
 have ad:∀b o,X.s₀.heap.get? b=some o->b≠X.env.locals:=λb o e=>aV (a6 (az e) I.ok.above)
 have Z:∀b o,X.s₀.heap.get? b=some o->b∉X.ex->b∉ch:=λb o e B hb=>by
  rcases (F b hb).1 with z | z;exact B z;exact absurd (a6 (az e) z) (cG _)
 have O:∀x c,X.env.cells.lookup x=some c->∀v,s.heap.IsCell c v->h'.IsCell c v:=by
  rintro x c e v ⟨o,ho,hd⟩;have aa:c∉ch:=λz=>(F c z).2.2.1 x c e rfl;by_cases hc:c∈X.fs;obtain⟨sl,q⟩:=Y c o (I.cne x c e) hc aa ho (I.freeC x c e);exact⟨_,q,hd⟩;exact⟨o,U c o (I.cne x c e) hc aa ho (I.freeC x c e),hd⟩
 show⟨I.ok,I.os,hg,⟨λb o e n hb B=>?_,λb o e n hb B=>?_,λb o e n B=>?_,λb o e B=>?_,λb xs e=>ab b xs (I.base.tups b xs e),λb o xs e=>ac b o xs (I.base.frzs b o xs e),λb ps e=>?_⟩,?_,λx c e=>?_,?_,λx c e=>?_,λp hp=>?_,al,I.len⟩;exact U b o (ad b o e) hb (Z b o e B) (I.base.keep b o e n hb B) (I.base.free b o e n B);obtain⟨sl,e1⟩:=I.base.slot b o e n hb B;obtain⟨an,e2⟩:=Y b _ (ad b o e) hb (Z b o e B) e1 (I.base.free b o e n B);exact⟨an,e2⟩;obtain⟨o',e1⟩:=I.base.there b o e B;exact J b o' (Z b o e B) e1 (I.base.free b o e n B);obtain⟨o',e1⟩:=I.base.there b o e B;right;obtain⟨m1,e1⟩:=I.base.tbls b ps e;grind;obtain⟨m,hn,hl⟩:=I.loc;show⟨m,ns m hn,λi x v e1 e2 e3=>?_⟩;obtain⟨u,r,l⟩:=hl i x v e1 e2 e3;show⟨u,r,?_⟩;rcases l with l | ⟨k,c,e,z⟩;exact .inl l;exact .inr ⟨k,c,e,O x c e _ z⟩;obtain⟨v,z⟩:=I.cell x c e;exact⟨v,O x c e v z⟩;obtain⟨m,⟨o,_,_,ho,_⟩,_⟩:=I.loc;exact J _ o (λz=>(F _ z).2.1 rfl) ho I.free;obtain⟨v,o,ho,hd⟩:=I.cell x c e;exact J c o (λz=>(F c z).2.2.1 x c e rfl) ho (I.freeC x c e);obtain⟨e,n,ne,nf,d⟩:=I.pin p hp;have aa:p.1∉ch:=λz=>(F p.1 z).2.2.2 p hp rfl;right
def Inv.un(I:Inv X pins σ H s)(u:Un X.fs [] H H' s.heap h')(B:HOk X.prog X.w H' h'):Inv X pins σ H' { s with heap:=h',toks:=t' }:=by
 obtain⟨m,⟨o,es,ep,O,r⟩,_⟩:=id I.loc;obtain⟨sl,U⟩:=u.any O I.free (by simp);exact I.step (g':=s.gens) (d':=s.drawn) (ch:=[]) (λ_ z=>nomatch z) (λb o _ F _ e n=>u.keep b o e n F (by simp)) (λb o _ F _ e n=>u.slot b o e n F (by simp)) (λb o _ e n=>u.free b o e n (by simp)) (λb o _ e=>u.there b o e (by simp)) u.tups u.frzs u.tbls (λm' Y=>by obtain⟨o',es',J,q,Z⟩:=Y;rw[O] at q;cases q;exact⟨_,es',J,U,Z⟩) B I.bare
def Inv.call(I:Inv X pins σ H s)(u:Un (frs X.stack) ch H H' s.heap h')(J:HOk X.prog X.w H' h')(Z:AllBare g')(B:∀b∈ch,(b∈X.ex\/X.s₀.heap.objs.size<=b)/\b≠X.env.locals/\(∀x c,X.env.cells.lookup x=some c->c≠b)/\∀p∈X.pn++pins,p.1≠b) :
  Inv X pins σ H' { s with heap:=h',gens:=g',drawn:=d',toks:=t' }:=by
 obtain⟨m,⟨o,es,ep,Y,r⟩,_⟩:=id I.loc;obtain⟨sl,O⟩:=u.any Y I.free λz=>(B _ z).2.1 rfl;exact I.step (ch:=ch) B (λb o O hb q e n=>u.keep b o e n (λz=>(aG.mp (I.stkSub b z)).elim O hb) q) (λb o _ _ q e n=>u.any e n q) (λb o q e n=>u.free b o e n q) (λb o q e=>u.there b o e q) u.tups u.frzs u.tbls (λm' hm=>by obtain⟨o',es',U,F,r'⟩:=hm;rw[Y] at F;cases F;exact⟨_,es',U,O,r'⟩) J Z
def Inv.turned(I:Inv X pins σ H s)(k:∀b o,b≠B->s.heap.get? b=some o->h'.get? b=some o)(hn:H B=none)(J:B≠X.env.locals)(h1:B∈X.ex\/X.s₀.heap.objs.size<=B)(h2:∀x c,X.env.cells.lookup x=some c->c≠B)(O:∀p∈X.pn++pins,p.1≠B):Inv X pins σ H { s with heap:=h',toks:=t' }:=by
 have U:∀b u,H b=some u->b≠B:=λb u e z=>by rw[z,hn] at e;cases e
 show I.step (g':=s.gens) (d':=s.drawn) (ch:=[B]) (λb Y=>?_) (λb o _ _ F e _=>k b o (λz=>F (by simp[z])) e) (λb o _ _ F e _=>⟨o.slots,k b o (λz=>F (by simp[z])) e⟩) (λ_ _ _ _ n=>n)
  (λb o F e=>⟨o,k b o (λz=>F (by simp[z])) e⟩) (λ_ _ e=>e) (λ_ _ _ e=>e) (λb ps e=>⟨#[],by rw[e];simp⟩) (λm Z=>?_) (λb u e=>?_) I.bare
 have e:b=B:=by simpa using Y
 subst e;exact⟨h1,J,h2,O⟩;obtain⟨o,es,ep,ho,r⟩:=Z;exact⟨o,es,ep,k _ o (Ne.symm J) ho,r⟩;show (I.hok b u e).stay (λc v F q=>k c v ?_ q) (λ_ q=>q) λ_ _ q=>q;grind
def Inv.tok (I:Inv X pins σ H s)(t:Nat):Inv X pins σ H { s with toks:=t }:=I.un (h':=s.heap) (t':=t) Un.refl I.hok
def Inv.kept(I:Inv X pins σ H s)(k:∀b u,s.heap.get? b=some u->h'.get? b=some u):Inv X pins σ H { s with heap:=h',toks:=t' }:=I.un (Un.kept k) (I.hok.kept k)
def Inv.laid{a:Addr}(I:Inv X pins σ H s)(k:∀b u,s.heap.get? b=some u->h'.get? b=some u)(q:s.heap.objs.size<=a)(B:ya X.prog X.w (upd H a o) h' a o) :
  Inv X pins σ (upd H a o) { s with heap:=h',toks:=t' }:=I.un (Un.laid k q (I.hok.fresh q)) (I.hok.laid k q B)
def Inv.write(I:Inv X pins σ H s)(F:Mut (H x))(J:e=x\/H e=some (.own x))(k:∀b u,b≠e->s.heap.get? b=some u->h'.get? b=some u)(q:∃u,h'.get? e=some u)(B:ya X.prog X.w (upd H x o) h' x o):Inv X pins σ (upd H x o) { s with heap:=h',toks:=t' }:=I.un (Un.write F J k q) (I.hok.write F J k q B)
def Inv.pins_of(I:Inv X pins σ H s)(h:∀p∈q,s.heap.get? p.1=some p.2/\H p.1=none/\p.1≠X.env.locals/\p.1∉X.fs/\∀v,p.2.data≠.cell v):Inv X q σ H s:=
 ⟨I.ok,I.os,I.bare,I.base,I.loc,I.cell,I.free,I.freeC,λp B=>(au.mp B).elim (λz=>I.pin p (aT _ z)) (h p),I.hok,I.len⟩
def zg9 {N:AM}(q:N.Nodup){i j:Nat}{x:Str}(a:N[i]?=some x)(b:N[j]?=some x):i=j:=by obtain⟨h1,B⟩:=aj.mp a;obtain⟨h2,F⟩:=aj.mp b;exact (dg q).mp (B.trans F.symm)
def zfm(I:Inv X pins σ H s)(hN:X.N.Nodup)(hi:X.N[i]?=some x)(J:Loc X.env.scope x)(r:yd v u)(h:∀s',Inv X pins (σ.set i (some v)) H s'->(∃a,Heap.SameBut a s.heap s'.heap/\(a=X.env.locals\/X.env.cells.lookup x=some a))->Q () s')(hf:X.fn x=true\/X.env.scope.names.lookup x=some .local:=by walk_at "l"):wpAny M A (storeName X.env x u) Q E s:=by
 obtain⟨m,hn,hl⟩:=id I.loc;have ab:(X.env.scope.kind==.class || (X.env.scope.kind==.module&&X.env.locals != X.env.globals))=false:=by rw[I.ok.kind];rfl
 have Y:i<σ.length:=by rw[I.len];exact (aj.mp hi).1
 have Z:=I.cne
 have B:∀ {a:Addr} {h':Heap},(∃o,s.heap.get? a=some o/\H a=none)->Heap.SameBut a s.heap h'->HOk X.prog X.w H h':=λ{a h'} ha hs b ob e=>by
  obtain⟨_,_,ag⟩:=ha;show (I.hok b ob e).stay (λc w' O q=>(hs.2 c ?_).trans q) (λ_ q=>q) λ_ _ q=>q;grind
 rcases J with hk | hk;show wpAny_storeName_local hk hn (λh' al hs=>?_) ab;obtain⟨oL,_,_,an,_⟩:=id hn;show h _ ⟨I.ok,I.os,I.bare,⟨λb o e n hb J=>?_,λb o e n hb J=>?_,I.base.free,λb o e J=>?_,I.base.tups,I.base.frzs,I.base.tbls⟩,⟨_,al,λj y v' F U e3=>?_⟩,λy c e=>?_,I.free,I.freeC,λp hp=>?_,B ⟨oL,an,I.free⟩ hs,by simpa using I.len⟩ ⟨_,hs,.inl rfl⟩;exact (hs.2 b (aV (a6 (az e) I.ok.above))).trans (I.base.keep b o e n hb J);obtain⟨sl,F⟩:=I.base.slot b o e n hb J;exact⟨sl,(hs.2 b (aV (a6 (az e) I.ok.above))).trans F⟩;obtain⟨o',F⟩:=I.base.there b o e J;exact⟨o',(hs.2 b (aV (a6 (az e) I.ok.above))).trans F⟩;by_cases hj:j=i;subst hj;rw[hi] at F;cases F;rw[aU Y] at U;cases U;exact⟨u,r,.inl ⟨hk,by simp⟩⟩;rw[av (Ne.symm hj)] at U;obtain⟨u',r',q⟩:=hl j y v' F U e3;show⟨u',r',?_⟩;rcases q with ⟨k,e⟩ | ⟨k,c,e,z⟩;show .inl ⟨k,?_⟩;have:y≠x:=λe=>hj (zg9 hN F (e ▸ hi));simp[this,e];exact .inr ⟨k,c,e,z.sameBut hs (Z y c e)⟩;obtain⟨w',z⟩:=I.cell y c e;exact⟨w',z.sameBut hs (Z y c e)⟩;obtain⟨e,n,ne,nf,d⟩:=I.pin p hp;exact⟨(hs.2 p.1 ne).trans e,n,ne,nf,d⟩
 have aa:X.fn x=true:=by
  grind
 obtain⟨c,O⟩:=I.ok.has x (.inl hk);obtain⟨w',z⟩:=I.cell x c O;show wpAny_storeName_cell I.ok.kind hk O z (λh' ac hs=>?_);obtain⟨oc,ap,as⟩:=id z;show h { s with heap:=h' } ⟨I.ok,I.os,I.bare,⟨λb o e n hb J=>?_,λb o e n hb J=>?_,I.base.free,λb o e J=>?_,I.base.tups,I.base.frzs,I.base.tbls⟩,⟨m,hn.sameBut hs (Ne.symm (Z x c O)),λj y v' F U e3=>?_⟩,λy c' e=>?_,I.free,I.freeC,λp hp=>?_,B ⟨oc,ap,I.freeC x c O⟩ hs,by simpa using I.len⟩ ⟨c,hs,.inr O⟩;exact (hs.2 b (aV (a6 (az e) (I.ok.cab x c aa O)))).trans (I.base.keep b o e n hb J);obtain⟨sl,F⟩:=I.base.slot b o e n hb J;exact⟨sl,(hs.2 b (aV (a6 (az e) (I.ok.cab x c aa O)))).trans F⟩;obtain⟨o',F⟩:=I.base.there b o e J;exact⟨o',(hs.2 b (aV (a6 (az e) (I.ok.cab x c aa O)))).trans F⟩;by_cases hj:j=i;subst hj;rw[hi] at F;cases F;rw[aU Y] at U;cases U;exact⟨u,r,.inr ⟨.inl hk,c,O,ac⟩⟩;rw[av (Ne.symm hj)] at U;obtain⟨u',r',q⟩:=hl j y v' F U e3;show⟨u',r',?_⟩;rcases q with q | ⟨k,c',e,z'⟩;exact .inl q;show .inr ⟨k,c',e,z'.sameBut hs ?_⟩;rintro rfl;exact hj (zg9 hN F (I.ok.inj _ _ _ e O ▸ hi));by_cases ad:c'=c;subst ad;exact⟨_,ac⟩;obtain⟨w2,z2⟩:=I.cell y c' e;exact⟨w2,z2.sameBut hs ad⟩;obtain⟨e,n,ne,nf,d⟩:=I.pin p hp;show⟨(hs.2 p.1 ?_).trans e,n,ne,nf,d⟩;intro q;right
def zaT(I:Inv X pins σ H s)(q:X.N.Nodup)(hi:X.N[i]?=some x)(B:Loc X.env.scope x)(r:yd v u)(h:∀s',Inv X pins (σ.set i (some v)) H s'->Q () s')(F:X.fn x=true\/X.env.scope.names.lookup x=some .local:=by walk_at "l"):wpAny M A (storeName X.env x u) Q E s:=
 zfm I q hi B r (λs' I' _=>h s' I') F
def Inv.call'(I:Inv X pins σ H s)(F:s'.os=s.os)(u:Un (frs X.stack) ch H H' s.heap s'.heap)(q:HOk X.prog X.w H' s'.heap)(J:AllBare s'.gens)(B:∀b∈ch,(b∈X.ex\/X.s₀.heap.objs.size<=b)/\b≠X.env.locals/\(∀x c,X.env.cells.lookup x=some c->c≠b)/\∀p∈X.pn++pins,p.1≠b):Inv X pins σ H' s':=by
 obtain⟨h',g',d',t',o'⟩:=s';have e:o'=s.os:=F;subst e;exact I.call (g':=g') (t':=t') (d':=d') u q J B
end
abbrev XK:=Value->Option Addr->Hp->Prop
abbrev St:=List (Option V)
abbrev VK:=V->Hp->Prop
abbrev TE:=St->Hp->VK->Prop
abbrev TT:=St->Hp->(Bool->Hp->Prop)->Prop
abbrev TA:=St->Hp->(AT->Hp->Prop)->Prop
structure Ends where
 nx:St->Hp->Prop
 rt:VK
 bk:St->Hp->Prop:=λ_ _=>False
 ct:St->Hp->Prop:=λ_ _=>False
abbrev TS:=Ends->St->Hp->Prop
def EP (X:Cx)(pins:AB)(σ:St)(Q:VK)(u:Value)(s':AZ):Prop:=∃v H',Inv X pins σ H' s'/\yd v u/\Q v H'
def TP (X:Cx)(pins:AB)(σ:St)(Q:Bool->Hp->Prop)(b:Bool)(s':AZ):Prop:=∃H',Inv X pins σ H' s'/\Q b H'
def AP (X:Cx)(pins:AB)(σ:St)(Q:AT->Hp->Prop)(us:AN)(s':AZ):Prop:=∃vs H',Inv X pins σ H' s'/\zT vs us/\Q vs H'
def SP (X:Cx)(pins:AB)(D:Ends)(f:Flow)(s':AZ):Prop:=
 match f with
 | .next=>∃ q H',Inv X pins q H' s'/\D.nx q H'
 | .brk=>∃ q H',Inv X pins q H' s'/\D.bk q H'
 | .cont=>∃ q H',Inv X pins q H' s'/\D.ct q H'
 | .ret u=>∃v q H',Inv X pins q H' s'/\yd v u/\D.rt v H'
def PE (X:Cx)(e:Expr)(t:TE):Prop:=
 ∀ (pins:AB) (s:AZ) (σ:St) (H:Hp) (Q:VK),Inv X pins σ H s->t σ H Q->Af X (eval e X.env) (EP X pins σ Q) X.xe s
def PT (X:Cx)(e:Expr)(t:TT):Prop:=
 ∀ (pins:AB) (s:AZ) (σ:St) (H:Hp) (Q:Bool->Hp->Prop),Inv X pins σ H s->t σ H Q->Af X (isTrue e X.env (eval e X.env)) (TP X pins σ Q) X.xe s
def PW (X:Cx)(e:Expr)(t:TT):Prop:=
 ∀ (q:Sem Value) (pins:AB) (s:AZ) (σ:St) (H:Hp) (Q:Bool->Hp->Prop),Inv X pins σ H s->t σ H Q->Af X (isTrue e X.env q) (TP X pins σ Q) X.xe s
def PW.pt(h:PW X e t):PT X e t:=h _
def PA (X:Cx)(es:AO)(t:TA):Prop:=
 ∀ (pos:Pos) (pins:AB) (s:AZ) (σ:St) (H:Hp) (Q:AT->Hp->Prop),Inv X pins σ H s->t σ H Q->Af X (spliced (backTo pos (starEach es X.env))) (AP X pins σ Q) X.xe s
def PS (X:Cx)(st:Stmt)(t:TS):Prop:=
 ∀ (pins:AB) (s:AZ) (σ:St) (H:Hp) (D:Ends),Inv X pins σ H s->t D σ H->Af X (exec st X.env) (SP X pins D) X.xe s
def PSs (X:Cx)(st:List Stmt)(t:TS):Prop:=
 ∀ (pins:AB) (s:AZ) (σ:St) (H:Hp) (D:Ends),Inv X pins σ H s->t D σ H->Af X (execs st X.env) (SP X pins D) X.xe s
def thn{α:Type}{t:Sem α}{Q Q':α->AZ->Prop}(h:wpAny M A t Q E s)(q:∀a s,Q a s->Q' a s):wpAny M A t Q' E s:=bH h q λ_ _ x=>x
section
variable {X:Cx}
def zaU (i:Nat):TE:=λσ H Q=>∃v,σ[i]?=some (some v)/\Q v H
def tC (v:V):TE:=λ_ H Q=>Q v H
def znu {i:Nat}{x:Str}{pos:Pos}(J:X.N[i]?=some x)(O:Vis X.env.scope x)(B:Ah x:=by ext)(F:(x==("__classdict__" : Str))=false:=by ext):PE X (.Name x pos) (zaU i):=by
 intro pins s σ H Q I h;obtain⟨v,e,h⟩:=h;obtain⟨m,hn,U⟩:=I.loc;obtain⟨u,r,l⟩:=U i x v J e O;have fin:EP X pins σ Q u s:=⟨v,H,I,r,h⟩;rcases l with ⟨q,hm⟩ | ⟨q,c,hc,hcell⟩;exact wpAny_Name (wpAny_loadName_local I.ok.kind q hn hm fin) B;rcases q with q | q;exact wpAny_Name (wpAny_loadName_cell I.ok.kind q hc hcell fin) B;exact wpAny_Name (wpAny_loadName_free I.ok.kind q hc hcell fin F) B
def znt {i j pos}:PE X (.Constant (.int i) j pos) (tC (.int i)):=λ_ _ _ H _ I h=>wpAny_Constant_int ⟨.int i,H,I.tok _,⟨_,rfl⟩,h⟩
def zvg {b j pos}:PE X (.Constant (.bool b) j pos) (tC (.bl b)):=λ_ _ _ H _ I h=>Constant_bool ⟨.bl b,H,I,rfl,h⟩
def zsa {j pos}:PE X (.Constant .none j pos) (tC .non):=λ_ _ _ H _ I h=>Constant_none ⟨.non,H,I,rfl,h⟩
def zsc {x j pos}:PE X (.Constant (.str x) j pos) (tC (.str x)):=λ_ _ _ H _ I h=>Calls.Constant_str ⟨.str x,H,I.tok _,⟨_,rfl⟩,h⟩
def Gl (X:Cx)(x:Str):Prop:=X.env.kindOf x=some .globalImplicit
def zjz{E:AA}{pins:AB}{s:AZ}{σ:St}{H:Hp}{x:Str}{u:Value}{Q:AA}(I:Inv X pins σ H s)(q:Gl X x)(B:X.mg x=some u)(h:Q u s)(F:Ah x:=by ext):Af X (eval (.Name x pos) X.env) Q E s:=
 Calls.Name_function_global I.ok.kind q (Calls.loadGlobal_global (by rw[I.ok.glob];exact I.mod.glob.keeps I.bk) B h) F
def zeZ {E:AA}{pins:AB}{s:AZ}{σ:St}{H:Hp}{x:Str}{u:Value}{pos:Pos}{Q:AA}(I:Inv X pins σ H s)(q:Gl X x)(B:X.mg x=none)(F:bootBuiltins x=some u)(h:Q u s)
  (hn:x ≠ "__name__" := by ext) (J:Ah x:=by ext):Af X (eval (.Name x pos) X.env) Q E s:=by
 obtain⟨O,h1,h2⟩:=I.mod.blt;exact Calls.Name_function_global I.ok.kind q (Calls.loadGlobal_builtin (by rw[I.ok.glob];exact I.mod.glob.keeps I.bk) B (by rw[I.ok.blt];exact h1.keeps I.bk) ((h2 x hn).trans F) h) J
def zo9 {x:Str}{v:V}{u:Value}{pos:Pos}(q:Gl X x)(B:X.mg x=none)(F:bootBuiltins x=some u)(r:yd v u)(hn:x ≠ "__name__" := by ext)(J:Ah x:=by ext):PE X (.Name x pos) (tC v):=
 λ_ _ _ H _ I h=>zeZ I q B F ⟨v,H,I,r,h⟩ hn J
variable {a b:Expr}{ta tb:TE}{pos:Pos}
def PC (X:Cx)(F:CmpOp)(a b:Expr)(t:TE):Prop:=
 ∀ (pins:AB) (s:AZ) (σ:St) (H:Hp) (Q:VK),Inv X pins σ H s->t σ H Q->
  Af X (eval a X.env) (λv q=>Af X (eval b X.env) (λu B=>Af X (compareOp F v u) (EP X pins σ Q) X.xe B) X.xe q) X.xe s
def zdP(b:Expr)(h:q≠.In)(h2:q≠.NotIn):behindInMarks q b=false:=by
 have B:(q==CmpOp.In)=false:=by cases q <;> first | rfl | exact absurd rfl h
 have F:(q==CmpOp.NotIn)=false:=by cases q <;> first | rfl | exact absurd rfl h2
 cases b <;> simp[behindInMarks,B,F]
def zvB (ta:TE):TE:=λσ H Q=>ta σ H λx H1=>Q (.bl (decide (x = .non))) H1
def zqi (ta:TE):TE:=λσ H Q=>ta σ H λx H1=>Q (.bl (!decide (x = .non))) H1
def yd.none_iff(r:yd x v):(v==Value.none)=decide (x = .non):=by
 cases x with
 | non=>cases r;rfl
 | bl _=>cases r;rfl
 | int _=>obtain⟨t,rfl⟩:=r;rfl
 | str _=>obtain⟨t,rfl⟩:=r;rfl
 | byt _=>obtain⟨t,rfl⟩:=r;rfl
 | flt _=>obtain⟨t,rfl⟩:=r;rfl
 | ref _=>cases r;rfl
 | ty _=>cases r;rfl
def zr5 {j pos'}(q:PE X a ta):PC X .Is a (.Constant .none j pos') (zvB ta):=by intro pins s σ H Q I h;show thn (q pins s σ H _ I h)  ?_;rintro v J ⟨x,H1,I1,B,F⟩;exact Constant_none (is_none_gen ⟨.bl _,H1,I1,by rw[B.none_iff];rfl,F⟩)
def zo8 {j pos'}(q:PE X a ta):PC X .IsNot a (.Constant .none j pos') (zqi ta):=by intro pins s σ H Q I h;show thn (q pins s σ H _ I h)  ?_;rintro v J ⟨x,H1,I1,B,F⟩;exact Constant_none (isnot_none_gen ⟨.bl _,H1,I1,by rw[B.none_iff];rfl,F⟩)
def tB (t:TE):TT:=λσ H Q=>t σ H λx H1=>∃c,x = .bl c/\Q c H1
def znx(h:PC X B a b t)(h1:behindInMarks B b=false:=by first | exact zdP _ (by ext) (by ext) | rfl):PT X (.Compare a [B] [b] pos) (tB t):=by intro pins s σ H Q I F;show wpAny_isTrue_Compare1 (thn (h pins s σ H _ I F) λv U h1=>thn h1 λu Y h2=>thn h2 λc Z ⟨x,H1,I1,J,O⟩=>?_) h1;obtain⟨d,rfl,q⟩:=O;cases J;exact dZ ⟨H1,I1,q⟩
def zss(h:PE X e t)(he:∀whole,isTrue e X.env whole=(do let v <- whole;standAt e.pos;holding [v] (truthy v)):=by intro _;rfl):PT X e (tB t):=by intro pins s σ H Q I hw;show isTrue_plain (thn (h pins s σ H _ I hw) λv s1 ⟨x,H1,I1,r1,q1⟩=>?_) (he _);obtain⟨d,rfl,q⟩:=q1;cases r1;exact dZ ⟨H1,I1,q⟩
variable {tA tB':TT}{zy:AO}
def zvx (t u:TT):TT:=λσ H Q=>t σ H λc H1=>if c=true then u σ H1 Q else Q false H1
def tOr (t u:TT):TT:=λσ H Q=>t σ H λc H1=>if c=true then Q true H1 else u σ H1 Q
def tNot (t:TT):TT:=λσ H Q=>t σ H λc H1=>Q (!c) H1
def zpw (q:PT X a tA):PW X (.BoolOp .And [a] pos) tA:=by
 intro B pins s σ H Q I h;show isTrue_and (thn (q pins s σ H Q I h) λc F e=>?_)
 cases c with
 | true=>exact isTrue_and_nil e
 | false=>exact e
def zsu (q:PT X a tA):PW X (.BoolOp .Or [a] pos) tA:=by
 intro B pins s σ H Q I h;show isTrue_or (thn (q pins s σ H Q I h) λc F e=>?_)
 cases c with
 | false=>exact isTrue_or_nil e
 | true=>exact e
def zst (B:PT X a tA)(F:PW X (.BoolOp .And (b::zy) pos) tB'):PW X (.BoolOp .And (a::b::zy) pos) (zvx tA tB'):=by
 intro J pins s σ H Q I h;show isTrue_and (thn (B pins s σ H _ I h)  ?_);rintro c O ⟨H1,I1,q⟩
 cases c with
 | true=>exact F J pins O σ H1 Q I1 q
 | false=>exact⟨H1,I1,q⟩
def zvm (B:PT X a tA)(F:PW X (.BoolOp .Or (b::zy) pos) tB'):PW X (.BoolOp .Or (a::b::zy) pos) (tOr tA tB'):=by
 intro J pins s σ H Q I h;show isTrue_or (thn (B pins s σ H _ I h)  ?_);rintro c O ⟨H1,I1,q⟩
 cases c with
 | true=>exact⟨H1,I1,q⟩
 | false=>exact F J pins O σ H1 Q I1 q
def zsr (q:PT X a tA):PT X (.UnaryOp .Not a pos) (tNot tA):=by intro pins s σ H Q I h;exact isTrue_not (q pins s σ H (λc H1=>Q (!c) H1) I h)
def zsY (ta tb:TE):TE:=λσ H Q=>ta σ H λx H1=>∃c,x = .bl c/\if c=true then tb σ H1 Q else Q (.bl false) H1
def zsb{op}(h:PE X a t):PE X (.BoolOp op [a] pos) t:=λpins s σ H Q I q=>BoolOp_one (h pins s σ H Q I q)
def zr6 (B:PE X a ta)(F:PE X (.BoolOp .And (b::zy) pos) tb):PE X (.BoolOp .And (a::b::zy) pos) (zsY ta tb):=by
 intro pins s σ H Q I h;show BoolOp_and (thn (B pins s σ H _ I h)  ?_);rintro v J ⟨x,H1,I1,O,q⟩;obtain⟨c,rfl,q⟩:=q;cases O;show dZ ?_
 cases c with
 | true=>exact F pins J σ H1 Q I1 q
 | false=>exact⟨.bl false,H1,I1,rfl,q⟩
def tIf (t:TT)(ta tb:TE):TE:=λσ H Q=>t σ H λc H1=>if c=true then ta σ H1 Q else tb σ H1 Q
def zmf(F:PT X c tA)(J:PE X a ta)(O:PE X b tb):PE X (.IfExp c a b pos) (tIf tA ta tb):=by
 intro pins s σ H Q I h;show wpAny_IfExp (thn (F pins s σ H _ I h)  ?_);rintro d q ⟨H1,I1,B⟩
 cases d with
 | true=>exact J pins q σ H1 Q I1 B
 | false=>exact O pins q σ H1 Q I1 B
end
def SqL (K:AH)(H:Hp)(a:Addr)(xs:AT):Prop:=
 Rd H a (.lst xs)\/
  ∃ (o:Obj) (q:AK) (n:Nat),K.lookup a=some o/\o.cls = .type "list" /\ o.dict=none/\o.data = .seq q n/\q.size<=sizeLine/\zT xs q.toList
def SqT (K:AH)(H:Hp)(a:Addr)(xs:AT):Prop:=
 Rd H a (.tup xs)\/
  ∃ (o:Obj) (q:AK) (n:Nat),K.lookup a=some o/\o.cls = .type "tuple" /\ o.data = .seq q n/\q.size<=sizeLine/\zT xs q.toList
def absV:Value->Option V
 | .none=>some .non
 | .bool b=>some (.bl b)
 | .int i _=>some (.int i)
 | .str x _=>some (.str x)
 | .bytes b _=>some (.byt b)
 | .float b _=>some (.flt b)
 | .ref a=>some (.ref a)
 | .type n=>some (.ty n)
 | _=>none
def yd.abs(r:yd x u):absV u=some x:=by
 cases x with
 | non=>cases r;rfl
 | bl _=>cases r;rfl
 | int _=>obtain⟨t,rfl⟩:=r;rfl
 | str _=>obtain⟨t,rfl⟩:=r;rfl
 | byt _=>obtain⟨t,rfl⟩:=r;rfl
 | flt _=>obtain⟨t,rfl⟩:=r;rfl
 | ref _=>cases r;rfl
 | ty _=>cases r;rfl
def yd.inj(r:yd x u)(q:yd y u):x=y:=cL (r.abs.symm.trans q.abs)
def zT.inj:∀ {xs ys:AT} {us:AN},zT xs us->zT ys us->xs=ys
 | _,_,_,.nil,.nil=>rfl
 | _,_,_,.cons r t,.cons q t'=>by rw[r.inj q,zT.inj t t']
section
variable {X:Cx}{pins:AB}{σ:St}{H:Hp}{s:AZ}{a:Addr}{xs ys:AT}
def SqL.of {K:AH}(h:H a=some (.lst xs)):SqL K H a xs:=.inl (.inl h)
def SqT.of {K:AH}(h:H a=some (.tup xs)):SqT K H a xs:=.inl (.inl h)
def Inv.list (I:Inv X pins σ H s)(h:SqL X.K H a xs):∃q:AN,zT xs q/\PlainL s.heap a q.toArray/\xs.length<=sizeLine:=by
 rcases h with h | ⟨o,q,n,hk,hc,hd,hs,hz,r⟩;obtain⟨z,q,n,r,e⟩:=h.ok I.hok;exact⟨q,r,⟨_,n,e,rfl,rfl,rfl⟩,z⟩;show⟨q.toList,r,⟨o,n,I.kIn a o hk,hc,hd,by simpa using hs⟩,?_⟩;have e:=r.length;grind
def Inv.tuple (I:Inv X pins σ H s)(h:SqT X.K H a xs):∃q:AN,zT xs q/\IsTup s.heap a q.toArray/\xs.length<=sizeLine:=by
 rcases h with h | ⟨o,q,n,hk,hc,hs,hz,r⟩;obtain⟨z,q,r,p⟩:=h.ok I.hok;exact⟨q,r,p.tup,z⟩;show⟨q.toList,r,⟨o,I.kIn a o hk,hc,n,by simpa using hs⟩,?_⟩;have e:=r.length;grind
def Inv.list_inj (I:Inv X pins σ H s)(h:SqL X.K H a xs)(h':SqL X.K H a ys):xs=ys:=by
 obtain⟨q,r,⟨o,n,e,_,_,d⟩,_⟩:=I.list h;obtain⟨its',F,⟨o',O,B,_,_,d'⟩,_⟩:=I.list h';rw[e] at B;cases B;rw[d] at d';injection d' with J _;have:q=its':=by simpa using congrArg Array.toList J
 subst this;exact r.inj F
def Inv.tuple_inj (I:Inv X pins σ H s)(h:SqT X.K H a xs)(h':SqT X.K H a ys):xs=ys:=by
 obtain⟨q,r,⟨o,e,_,n,d⟩,_⟩:=I.tuple h;obtain⟨its',F,⟨o',B,_,O,d'⟩,_⟩:=I.tuple h';rw[e] at B;cases B;rw[d] at d';injection d' with J _;have:q=its':=by simpa using congrArg Array.toList J
 subst this;exact r.inj F
end
abbrev Cx.wish (X:Cx)(E:AA):Cx:={ X with xe:=E }
abbrev Cx.nox (X:Cx):Cx:=X.wish λ_ _=>False
def Cx.Ok.wish {X:Cx}(q:X.Ok)(E:AA):(X.wish E).Ok:=
 ⟨q.mod,q.kind,q.glob,q.blt,q.above,q.inj,q.has,q.cab,q.hd,q.frames,q.stk,q.exf,q.bs,q.bsz,q.noex,q.exfs,q.funs,q.frf⟩
def Cx.Ok.unwish{X:Cx}(q:(X.wish E).Ok):X.Ok:=
 ⟨q.mod,q.kind,q.glob,q.blt,q.above,q.inj,q.has,q.cab,q.hd,q.frames,q.stk,q.exf,q.bs,q.bsz,q.noex,q.exfs,q.funs,q.frf⟩
section
variable {X:Cx}{pins:AB}{σ:St}{H:Hp}{s:AZ}{E:AA}
def Inv.wish (I:Inv X pins σ H s)(E:AA):Inv (X.wish E) pins σ H s:=⟨I.ok.wish E,I.os,I.bare,I.base,I.loc,I.cell,I.free,I.freeC,I.pin,I.hok,I.len⟩
def Inv.unwish (I:Inv (X.wish E) pins σ H s):Inv X pins σ H s:=⟨I.ok.unwish,I.os,I.bare,I.base,I.loc,I.cell,I.free,I.freeC,I.pin,I.hok,I.len⟩
def SP.unwish(h:SP (X.wish E) pins D f s'):SP X pins D f s':=by
 cases f with
 | next=>obtain⟨B,H',I,q⟩:=h;exact⟨B,H',I.unwish,q⟩
 | brk=>obtain⟨B,H',I,q⟩:=h;exact⟨B,H',I.unwish,q⟩
 | cont=>obtain⟨B,H',I,q⟩:=h;exact⟨B,H',I.unwish,q⟩
 | ret u=>obtain⟨v,B,H',I,r,q⟩:=h;exact⟨v,B,H',I.unwish,r,q⟩
def PSs.nox{st:List Stmt}(h:PSs X.nox st t):PSs X st t:=λpins s σ H D I B=>
 bH (h pins s σ H D (I.wish _) B) (λ_ _ q=>q.unwish) λ_ _ z=>False.elim z
end
section
variable {X:Cx}{st:Stmt}{zy:List Stmt}{t u:TS}{e:Expr}{te:TE}{pos:Pos}
def zqg:TS:=λD σ H=>D.nx σ H
def zqj (t u:TS):TS:=λD σ H=>t { D with nx:=u D } σ H
def zkf:PSs X [] zqg:=λ_ _ σ H _ I h=>eO ⟨σ,H,I,h⟩
def zaK (h1:PS X st t)(h2:PSs X zy u):PSs X (st::zy) (zqj t u):=by
 intro pins s σ H D I h;show wpAny_execs_cons (thn (h1 pins s σ H { D with nx:=u D } I h) λf F q=>?_)
 cases f with
 | next=>
  obtain⟨B,H',I',q⟩:=q;exact h2 pins F B H' D I' q
 | ret v=>exact q
 | brk=>exact q
 | cont=>exact q
def zd3 (h1:PS X st t):PSs X [st] t:=by
 intro pins s σ H D I h;show wpAny_execs_cons (thn (h1 pins s σ H D I h) λf B q=>?_)
 cases f with
 | next=>exact eO q
 | ret v=>exact q
 | brk=>exact q
 | cont=>exact q
def zsZ:TS:=λD σ H=>D.ct σ H
def zgd:PS X (.Continue pos) zsZ:=λ_ _ σ H _ I h=>wpAny_Continue ⟨σ,H,I,h⟩
def Inv.quiet{pins:AB}{σ:St}{H:Hp}(I:Inv X pins σ H s):interactive X.env=false:=by simp[interactive,I.ok.kind]
def zmM (te:TE):TS:=λD σ H=>te σ H λ_ H1=>D.nx σ H1
def zps (q:PE X e te)(hs:swapsWith e none pos.line X.env=pure false:=by rfl):PS X (.Expr e pos) (zmM te):=by intro pins s σ H D I h;exact wpAny_Expr_any (thn (q pins s σ H _ I h) <| by rintro v F ⟨x,H1,I1,J,B⟩;exact⟨σ,H1,I1,B⟩) I.quiet hs
def zta (te:TE):TS:=λD σ H=>te σ H D.rt
def znw (q:PE X e te):PS X (.Return (some e) pos) (zta te):=by intro pins s σ H D I h;exact wpAny_Return_some (thn (q pins s σ H _ I h) <| by rintro v J ⟨x,H1,I1,B,F⟩;exact⟨x,σ,H1,I1,B,F⟩)
def zvA (c:TT)(t u:TS):TS:=λD σ H=>c σ H λb H1=>if b=true then t D σ H1 else u D σ H1
def zso(F:PT X c tc)(J:PSs X a t)(O:PSs X b u):PS X (.If c a b pos) (zvA tc t u):=by
 intro pins s σ H D I h;show wpAny_If (thn (F pins s σ H _ I h)  ?_);rintro d q ⟨H1,I1,B⟩
 cases d with
 | true=>exact J pins q σ H1 D I1 B
 | false=>exact O pins q σ H1 D I1 B
end
abbrev TG:=V->St->Hp->(St->Hp->Prop)->Prop
abbrev TGs:=AT->St->Hp->(St->Hp->Prop)->Prop
def PG (X:Cx)(q:Expr)(t:TG):Prop:=
 ∀ (pins:AB) (s:AZ) (σ:St) (H:Hp) (v:V) (u:Value) (Q:St->Hp->Prop),Inv X pins σ H s->yd v u->t v σ H Q->
  Af X (assign q X.env u) (λ_ s'=>∃ B H',Inv X pins B H' s'/\Q B H') X.xe s
def PGs (X:Cx)(B:AO)(t:TGs):Prop:=
 ∀ (pins:AB) (s:AZ) (σ:St) (H:Hp) (vs:AT) (us:AN) (Q:St->Hp->Prop),Inv X pins σ H s->zT vs us->t vs σ H Q->
  Af X (assignInOrder ((assignEach B X.env).map (·.2)) us) (λ_ s'=>∃ q H',Inv X pins q H' s'/\Q q H') X.xe s
abbrev zt2:=V->V->V->Hp->(Hp->Prop)->Prop
def PSet (X:Cx)(t:zt2):Prop:=
 ∀ (pins:AB) (s:AZ) (σ:St) (H:Hp) (o i v:V) (q B u:Value) (Q:Hp->Prop),Inv X pins σ H s->yd o q->yd i B->yd v u->t o i v H Q->
  Af X (setItem q B u) (λ_ s'=>∃H',Inv X pins σ H' s'/\Q H') X.xe s
abbrev TIp:=V->V->Hp->VK->Prop
def PIp (X:Cx)(q:Operator)(t:TIp):Prop:=
 ∀ (pins:AB) (s:AZ) (σ:St) (H:Hp) (x y:V) (v u:Value) (Q:VK),Inv X pins σ H s->yd x v->yd y u->t x y H Q->
  Af X (inplaceOp q v u) (EP X pins σ Q) X.xe s
section
variable {X:Cx}{pos:Pos}
def za5 (i:Nat):TG:=λv σ H Q=>Q (σ.set i (some v)) H
def zpl(q:X.N.Nodup)(hi:X.N[i]?=some x)(B:Loc X.env.scope x)(F:X.fn x=true\/X.env.scope.names.lookup x=some .local:=by walk_at "l"):PG X (.Name x pos) (za5 i):=by intro pins s σ H v u Q I r h;exact wpAny_assign_Name (zaT I q hi B r (λs' I'=>⟨_,H,I',h⟩) F)
def gNil:TGs:=λvs σ H Q=>vs=[]/\Q σ H
def zrh (t:TG)(u:TGs):TGs:=λvs σ H Q=>∃v r,vs=v::r/\t v σ H λq H'=>u r q H' Q
def zpm:PGs X [] gNil:=by intro pins s σ H vs us Q I r h;obtain⟨e,h⟩:=h;subst e;cases r;exact assignInOrder_nil ⟨σ,H,I,h⟩
def zmh(h1:PG X e t)(h2:PGs X es u)(hs:(assignEach (e::es) X.env).map (·.2)=assign e X.env::(assignEach es X.env).map (·.2):=by rfl):PGs X (e::es) (zrh t u):=by
 intro pins s σ H vs us Q I r h;obtain⟨v,O,B,h⟩:=h;subst B
 cases r with
 | cons r rr=>
  rw[hs];show eZ (thn (h1 pins s σ H _ _ _ I r h)  ?_);rintro _ F ⟨q,H1,I1,J⟩;exact h2 pins F q H1 _ _ Q I1 rr J
def zuw (K:AH)(n:Nat)(t:TGs):TG:=λv σ H Q=>∃a xs,v = .ref a/\SqT K H a xs/\xs.length=n/\t xs σ H Q
def zsj {es:AO}{k:Nat}{t:TGs}{n:Nat}(J:X.calm=true)(h:PGs X es t)
  (hn:(assignEach es X.env).length=n:=by rfl) (q:(assignEach es X.env).findIdx? (·.1)=none:=by rfl):PG X (.Tuple es k pos) (zuw X.K n t):=by
 intro pins s σ H v u Q I r B;obtain⟨a,xs,O,U,Y,B⟩:=B;subst O;cases r;obtain⟨Z,F,ht,hz⟩:=I.tuple U;show assign_Tuple_tuple (I.ok.hd J) ht (by simp[hn,<- Y,F.length]) q λh' hx=>?_;have I1:Inv X pins σ H { s with heap:=h' }:=I.kept (t':=s.toks) λb o e=>hx b o (aV (az e)) e;exact h pins _ σ H xs _ Q I1 (by simpa using F) B
def gSub (to ti:TE)(t:zt2):TG:=λv σ H Q=>to σ H λo H1=>ti σ H1 λi H2=>t o i v H2 λH3=>Q σ H3
def zsi(ho:PE X o to)(hi:PE X i ti)(hs:PSet X t)(ha:∀v,assign (.Subscript o i pos) X.env v=(do
   let ov <- holding [v] (eval o X.env)
   let iv <- holding [v,ov] (eval i X.env)
   standAt pos
   holding [v,ov,iv] (setItem ov iv v)
   release [v,ov,iv] []):=by intro _;rfl):PG X (.Subscript o i pos) (gSub to ti t):=by
 intro pins s σ H v u Q I r h;rw[ha];show ae (bt (thn (ho pins s σ H _ I h)  ?_));rintro ov s1 ⟨x,H1,I1,r1,q1⟩;show ae (bt (thn (hi pins s1 σ H1 _ I1 q1)  ?_));rintro iv s2 ⟨y,H2,I2,r2,q2⟩;show ae (cQ (ae (bt (thn (hs pins s2 σ H2 x y v ov iv u _ I2 r1 r2 r q2)  ?_))));rintro _ s3 ⟨H3,I3,q3⟩;exact wpAny_release ⟨σ,H3,I3,q3⟩
def zh6 (te:TE)(g:TG):TS:=λD σ H=>te σ H λx H1=>g x σ H1 D.nx
def zsl(B:PE X e te)(F:PG X tg g)(hs:swapsWithSole [tg] e pos.line X.env=pure false:=by rfl)(J:swappedStores [tg] e X.env=pure none:=by rfl)(h1:(assignEach [tg] X.env).map (·.2)=[assign tg X.env]:=by rfl):PS X (.Assign [tg] e pos) (zh6 te g):=by
 intro pins s σ H D I h;show wpAny_Assign_stores (thn (B pins s σ H _ I h) λv O ⟨x,H1,I1,U,Y⟩=>?_) hs J;rw[h1];exact thn (F pins O σ H1 x v _ I1 U Y) λ_ Z q=>q
def zsq(q:X.N.Nodup)(hi:X.N[i]?=some x)(B:Loc X.env.scope x)(F:PE X e te)(hs:swapsWith e (some (.Name x pos')) pos.line X.env=pure false:=by rfl)(J:X.fn x=true\/X.env.scope.names.lookup x=some .local:=by walk_at "l") :
  PS X (.Assign [.Name x pos'] e pos) (zh6 te (za5 i)):=by
 intro pins s σ H D I h;show wpAny_Assign_Name (thn (F pins s σ H _ I h) λv Y ⟨y,H1,I1,O,U⟩=>?_) hs;exact zaT I1 q hi B O (λZ I2=>⟨_,H1,I2,U⟩) J
def tPar (i j:Nat)(ta:TA):TS:=λD σ H=>ta σ H λvs H1=>∃v w,vs=[v,w]/\D.nx ((σ.set i (some v)).set j (some w)) H1
def zsp{kt k2 pt2}(hc:X.calm=true)(hN:X.N.Nodup)(hi:X.N[i]?=some x)(hj:X.N[j]?=some y)(hij:i≠j)(hx:X.env.scope.names.lookup x=some .local)(hy:X.env.scope.names.lookup y=some .local)(ha:PA X [a,b] ta)(hw:swappedStores [.Tuple [.Name x px,.Name y py] kt pt] (.Tuple [a,b] k2 pt2) X.env=pure (some [x,y]))(hs:swapsWithSole [.Tuple [.Name x px,.Name y py] kt pt] (.Tuple [a,b] k2 pt2) pos.line X.env=pure false:=by rfl) :
  PS X (.Assign [.Tuple [.Name x px,.Name y py] kt pt] (.Tuple [a,b] k2 pt2) pos) (tPar i j ta):=by
 intro pins s σ H D I h;rw[exec_Assign_arm];show ae (cQ ?_);rw[hs];show ae (ah ?_);rw[if_neg (by ext)];show ae (Tuple_ (thn (ha _ pins s σ H _ I h)  ?_));rintro us s1 ⟨vs,H1,I1,r1,q1⟩;obtain⟨v,w,e1,q1⟩:=q1;subst e1
 obtain⟨u1,u2,rfl,rv,rw'⟩:∃u1 u2,us=[u1,u2]/\yd v u1/\yd w u2:=by
  cases r1 with
  | cons p q=>
   cases q with
   | cons p' q'=>
    cases q';exact⟨_,_,rfl,p,p'⟩
 show bz ?_ (by change 2<=sizeLine;decide);have I2:Inv X pins σ H1 { s1 with heap:=s1.heap.push { cls:=.type "tuple",data:=.seq [u1,u2].toArray } }:=I1.kept (t':=s1.toks) λb o e=>ai _ e;rw[hw];show ae (ah ?_);change Af X (do rule "assign.swapped-stores";let items <- unpackItems (.ref s1.heap.objs.size) 2 none;assignInOrder [λv=>bindName X.env y v,λv=>bindName X.env x v] items.reverse;pure Flow.next) _ _ _;show ae (cU (ae (unpackItems_tuple (items:=#[u1,u2]) (I.ok.hd hc) (IsTup.new s1.heap _) λh' hx'=>?_)));have I3:=I2.kept (h':=h') (t':=s1.toks) λb o e=>hx' b o (aV (az e)) e;change wpAny _ _ (assignInOrder [λv=>bindName X.env y v,λv=>bindName X.env x v] [u2,u1] >>= λ_=>pure Flow.next) _ _ _;show ae (eZ (wpAny_bindName (zaT I3 hN hj (.inl hy) rw' (λs2 I4=>?_) (.inr hy))));show eZ (wpAny_bindName (zaT I4 hN hi (.inl hx) rv (λs3 I5=>assignInOrder_nil (ah ?_)) (.inr hx)));rw[List.set_comm _ _ (Ne.symm hij)] at I5;exact⟨_,H1,I5,q1⟩
def tAug (i:Nat)(te:TE)(ti:TIp):TS:=λD σ H=>∃x,σ[i]?=some (some x)/\te σ H λy H1=>ti x y H1 λz H2=>D.nx (σ.set i (some z)) H2
def zsm(Z:X.N.Nodup)(hi:X.N[i]?=some x)(O:Loc X.env.scope x)(he:PE X e te)(ho:PIp X J ti)(hf:X.fn x=true\/X.env.scope.names.lookup x=some .local:=by walk_at "l") :
  PS X (.AugAssign (.Name x pos') J e pos) (tAug i te ti):=by
 intro pins s σ H D I h;obtain⟨v,e1,h⟩:=h;obtain⟨m,hn,hl⟩:=I.loc;have U:Vis X.env.scope x:=by rcases O with k | k;exact .inl k;exact .inr (.inl k)
 obtain⟨u,r,l⟩:=hl i x v hi e1 U;show wpAny_AugAssign_Name ?_;have Y:Af X (eval e X.env) (λw B=>Af X (inplaceOp J u w) (λr F=>Af X (storeName X.env x r) (λ_=>SP X pins D .next) X.xe F) X.xe B) X.xe s:=by show thn (he pins s σ H _ I h)  ?_;rintro w s1 ⟨y,H1,I1,r1,q1⟩;show thn (ho pins s1 σ H1 v y u w _ I1 r r1 q1)  ?_;rintro z s2 ⟨zv,H2,I2,r2,q2⟩;exact zaT I2 Z hi O r2 (λs3 I3=>⟨_,H2,I3,q2⟩) hf
 rcases l with ⟨q,hm⟩ | ⟨q,c,hc,hcell⟩;exact wpAny_loadName_local I.ok.kind q hn hm Y;rcases q with q | q;exact wpAny_loadName_cell I.ok.kind q hc hcell Y;rcases O with k | k;have:X.env.scope.names.lookup x=some .free:=q;right;have:X.env.scope.names.lookup x=some .free:=q;right
def ipI (f:Int->Int->Int):TIp:=λx y H Q=>∃i j,x = .int i/\y = .int j/\Q (.int (f i j)) H
def zrl:PIp X .Add (ipI λi j=>i+j):=by intro pins s σ H x y v u Q I B F h;obtain⟨i,j,J,O,q⟩:=h;subst J;subst O;obtain⟨t,rfl⟩:=B;obtain⟨t',rfl⟩:=F;exact iadd_int ⟨.int _,H,I.tok _,⟨_,rfl⟩,q⟩
def ztf (c:TT)(tb:TS):TS:=λD σ H=>∃W:Nat->St->Hp->Prop,(∃m,W m σ H)/\∀m σ H,W m σ H->
 c σ H λb H1=>if b=true then ∃N:St->Hp->Prop,(∀ q H',N q H'->∃B,B<m/\W B q H')/\tb { D with nx:=N,ct:=N,bk:=D.nx } σ H1 else D.nx σ H1
def zmk(hp:PassesOwn (model X.prog X.w) X.A X.env X.xe)(hc:PT X c tc)(hb:PSs X body tb):PS X (.While c body [] pos) (ztf tc tb):=by
 intro pins s σ H D I h;obtain⟨W,⟨m0,w0⟩,F⟩:=h;show wpAny_While (codeAny_whileLoop (λn s'=>∃ J H',Inv X pins J H' s'/\W n J H') ?_ m0 ⟨σ,H,I,w0⟩);rintro n s1 ⟨B,H1,I1,w1⟩;show cV hp (thn (hc pins s1 B H1 _ I1 (F n B H1 w1))  ?_);rintro b s2 ⟨H2,I2,O⟩
 cases b with
 | true=>
  obtain⟨N,hN,O⟩:=O;rw[if_pos rfl];show cV hp (thn (hb pins s2 B H2 _ I2 O) λf s3 U=>?_)
  cases f with
  | next=>
   obtain⟨q,H3,I3,Y⟩:=U;obtain⟨Z,hm,w3⟩:=hN q H3 Y;exact⟨Z,hm,q,H3,I3,w3⟩
  | cont=>
   obtain⟨q,H3,I3,Y⟩:=U;obtain⟨Z,hm,w3⟩:=hN q H3 Y;exact⟨Z,hm,q,H3,I3,w3⟩
  | brk=>exact U
  | ret v=>exact U
 | false=>
  rw[if_neg ay];exact eO ⟨B,H2,I2,O⟩
end
structure It where
 go:Nat->Hp->Prop
 yld:Nat->Hp->V->Hp->Prop
 stop:Nat->Hp->Prop
def zfx (X:Cx)(pins:AB)(H:Hp)(b:Addr):Prop:=
 H b=none/\b≠X.env.locals/\b∉X.fs/\(b∈X.ex\/X.s₀.heap.objs.size<=b)/\(∀x c,X.env.cells.lookup x=some c->c≠b)/\∀p∈X.pn++pins,p.1≠b
def Inv.fpOk {X:Cx}{pins:AB}{σ:St}{H H':Hp}{s:AZ}{b:Addr}(I:Inv X pins σ H s)(B:s.heap.objs.size<=b)(hn:H' b=none):zfx X pins H' b:=by
 show⟨hn,ff (a6 I.lt B),I.nofs B,.inr (aA I.sz B),λx c e z=>?_,λp F z=>?_⟩;obtain⟨v,q⟩:=I.cell x c e;exact absurd (a6 q.lt (by rw[z];exact B)) (cG _);exact absurd (a6 (az (I.pin p F).1) (by rw[z];exact B)) (cG _)
structure Turn (P:Aa)(w:Ab)(K:AH)(tg:Expr)(J:It)(fp:AY)(it:Addr)(tn:Nat->Heap->Prop):Prop where
 mem:it∈fp
 obj:∀i h,tn i h->∀b∈fp,∃o,h.get? b=some o/\∀v,o.data≠.cell v
 keep:∀i h h',tn i h->(∀b∈fp,∀o,h.get? b=some o->h'.get? b=some o)->tn i h'
 item:∀ (X:Cx),X.prog=P->X.w=w->X.K=K->X.calm=true->∀ (i:Nat) (pins:AB) (s:AZ) (σ:St) (H:Hp) (E:AA),Inv X pins σ H s->(∀b∈fp,zfx X pins H b)->tn i s.heap->J.go i H->
  wpAny (model P w) X.A (pyNext (.ref it)) (λr s1=>∃u,r=some u/\
   wpAny (model P w) X.A (letOwnedTupleGo tg (.ref it) u) (λ_ s2=>∃x H',Inv X pins σ H' s2/\yd x u/\J.yld i H x H'/\tn (i+1) s2.heap/\∀b∈fp,H' b=none) E s1) E s
 done:∀ (X:Cx),X.prog=P->X.w=w->X.K=K->X.calm=true->∀ (i:Nat) (pins:AB) (s:AZ) (σ:St) (H:Hp) (E:AA),Inv X pins σ H s->(∀b∈fp,zfx X pins H b)->tn i s.heap->J.stop i H->
  wpAny (model P w) X.A (pyNext (.ref it)) (λr s1=>r=none/\Inv X pins σ H s1) E s
 self:∀ (A:Ae) (i:Nat) (s:AZ) (Q:AA) (E:AA),tn i s.heap->Q (.ref it) s->wpAny (model P w) A (pyIter (.ref it)) Q E s
abbrev TI:=St->Hp->(It->Hp->Prop)->Prop
def PIE (X:Cx)(pins:AB)(σ:St)(tg:Expr)(R:It->Hp->Prop)(q:Value)(B:AZ):Prop:=
 ∃ (F:Addr) (I:AY) (O:Nat->Heap->Prop) (J:It) (H':Hp),q = .ref F/\Inv X pins σ H' B/\Turn X.prog X.w X.K tg J I F O/\O 0 B.heap/\(∀b∈I,zfx X pins H' b)/\R J H'
def PI (X:Cx)(tg iter:Expr)(wi:TI):Prop:=
 ∀ (pins:AB) (s:AZ) (σ:St) (H:Hp) (R:It->Hp->Prop),Inv X pins σ H s->wi σ H R->
  Af X (eval iter X.env) (λv q=>Af X (pyIter v) (PIE X pins σ tg R) X.xe q) X.xe s
def zom(F:s.heap.get? B=some o)(I:o.cls = .type n)(J:o.data = .fields vs)(hn:["enumerate","zip","dict_itemiterator","dict_reverseitemiterator","odict_iterator","itertools.zip_longest","itertools.pairwise"].contains n=false)(q:Q () s):wpAny M A (letOwnedTupleGo tg (.ref B) u) Q E s:=by
 unfold letOwnedTupleGo
 cases tg <;> first
  | exact ah q
  | (cases u <;> first
    | exact ah q
    | (show ae (wpAny_load F ?_)
       rw[I,J];change wpAny M A (if (["enumerate","zip","dict_itemiterator","dict_reverseitemiterator","odict_iterator","itertools.zip_longest","itertools.pairwise"].contains n&&vs[0]?==some (rawInt _))=true then _ else _) Q E s;rw[if_neg (by lia)];exact ah q))
def Itl (K:AH)(a:Addr):It:=
 ⟨λi H=>∃xs x,SqL K H a xs/\xs[i]?=some x,λi H x H'=>H'=H/\∀xs,SqL K H a xs->xs[i]?=some x,λi H=>∃xs,SqL K H a xs/\xs.length<=i⟩
def Itt (K:AH)(a:Addr):It:=
 ⟨λi H=>∃xs x,SqT K H a xs/\xs[i]?=some x,λi H x H'=>H'=H/\∀xs,SqT K H a xs->xs[i]?=some x,λi H=>∃xs,SqT K H a xs/\xs.length<=i⟩
def Itr (lo:Int)(n:Nat):It:=⟨λi _=>i<n,λi H x H'=>H'=H/\x = .int (lo+i),λi _=>n<=i⟩
def zkR{P:Aa}{w:Ab}{K:AH}(a q:Addr):Turn P w K tg (Itl K a) [q] q (λi h=>h.IsListIter q a i) where
 mem:=by simp
 obj:=λi h st b B=>by
  have e:b=q:=by simpa using B
  subst e;obtain⟨o,e,c,d⟩:=st;right
 keep:=λi h h' st k=>st.at λo e=>k q (by simp) o e
 item:=by intro X U Y Z hc i pins s σ H E I J st hg;subst U Y Z;obtain⟨xs,x,O,hx⟩:=hg;obtain⟨aa,rv,p,hz⟩:=I.list O;obtain⟨u,hu,ru⟩:=rv.get hx;obtain⟨f0,f1,f2,f3,f4,f5⟩:=J q (by simp);show wpAny_pyNext_list_item st p.isList (x:=u) (by simpa using hu) λh' F sb=>?_;have I1:Inv X pins σ H { s with heap:=h' }:=I.turned (t':=s.toks) (λb o B e=>(sb.2 b B).trans e) f0 f1 f3 f4 f5;obtain⟨o,e,c,d⟩:=id F;exact⟨u,rfl,zom (s:={ s with heap:=h' }) e c d (by ext) ⟨x,H,I1,ru,⟨rfl,λys hy=>by rw[I.list_inj hy O];exact hx⟩,F,λb B=>(J b B).1⟩⟩
 done:=by intro X U Y Z hc i pins s σ H E I J st hg;subst U Y Z;obtain⟨xs,O,hx⟩:=hg;obtain⟨aa,rv,p,hz⟩:=I.list O;obtain⟨f0,f1,f2,f3,f4,f5⟩:=J q (by simp);have hl:=rv.length;exact wpAny_pyNext_list_end (I.ok.hd hc) st p.isList (by simp;lia) λh' eb=>⟨rfl,I.turned (t':=s.toks) (λb o B e=>eb b o B e) f0 f1 f3 f4 f5⟩
 self:=λ_ _ _ _ _ st h=>wpAny_pyIter_listiter st h
def zid{P:Aa}{w:Ab}{K:AH}(a q:Addr):Turn P w K tg (Itt K a) [q] q (λi h=>h.IsTupleIter q a i) where
 mem:=by simp
 obj:=λi h st b B=>by
  have e:b=q:=by simpa using B
  subst e;obtain⟨o,e,c,d⟩:=st;right
 keep:=λi h h' st k=>st.at λo e=>k q (by simp) o e
 item:=by intro X Y Z hK hc i pins s σ H E I O st hg;subst Y Z hK;obtain⟨xs,x,U,hx⟩:=hg;obtain⟨F,rv,p,hz⟩:=I.tuple U;obtain⟨u,hu,ru⟩:=rv.get hx;obtain⟨f0,f1,f2,f3,f4,f5⟩:=O q (by simp);show wpAny_pyNext_tuple_item st (show s.heap.IsTuple a F.toArray from p) (x:=u) (by simpa using hu) λh' J sb=>?_;have I1:Inv X pins σ H { s with heap:=h' }:=I.turned (t':=s.toks) (λb o B e=>(sb.2 b B).trans e) f0 f1 f3 f4 f5;obtain⟨o,e,c,d⟩:=id J;exact⟨u,rfl,zom (s:={ s with heap:=h' }) e c d (by ext) ⟨x,H,I1,ru,⟨rfl,λys hy=>by rw[I.tuple_inj hy U];exact hx⟩,J,λb B=>(O b B).1⟩⟩
 done:=by intro X Y Z hK hc i pins s σ H E I O st hg;subst Y Z hK;obtain⟨xs,U,hx⟩:=hg;obtain⟨F,rv,p,hz⟩:=I.tuple U;obtain⟨f0,f1,f2,f3,f4,f5⟩:=O q (by simp);have hl:=rv.length;exact wpAny_pyNext_tuple_end (I.ok.hd hc) st (show s.heap.IsTuple a F.toArray from p) (by simp;lia) λh' eb=>⟨rfl,I.turned (t':=s.toks) (λb o B e=>eb b o B e) f0 f1 f3 f4 f5⟩
 self:=λ_ _ _ _ _ st h=>wpAny_pyIter_tupleiter st h
def zic{P:Aa}{w:Ab}{K:AH}(q:Addr)(lo:Int)(n:Nat):Turn P w K tg (Itr lo n) [q] q (λi h=>IsRangeIter h q (lo+(i:Nat) * 1) ((n:Int) - (i:Nat)) 1) where
 mem:=by simp
 obj:=λi h st b B=>by right
 keep:=λi h h' st k=>k q (by simp) _ st
 item:=by intro X O U Y Z i pins s σ H E I J st hg;subst O U Y;obtain⟨f0,f1,f2,f3,f4,f5⟩:=J q (by simp);have W:=Walks.range (prog:=X.prog) (w:=X.w) (I.ok.hd Z) q lo 1 n;show W.item i s _ _ hg st λv h' tk hv F kk=>?_;obtain⟨t,rfl⟩:=hv;have I1:Inv X pins σ H { s with heap:=h',toks:=tk }:=I.turned (λb o B e=>kk b o (by simpa using B) e) f0 f1 f3 f4 f5;show⟨_,rfl,zom (s:={ s with heap:=h',toks:=tk }) (n := "range_iterator") F rfl rfl (by ext) ⟨.int (lo+i),H,I1,⟨t,?_⟩,⟨rfl,rfl⟩,F,λb B=>(J b B).1⟩⟩;rw[Int.mul_one]
 done:=by intro X O U Y Z i pins s σ H E I J st hg;subst O U Y;obtain⟨f0,f1,f2,f3,f4,f5⟩:=J q (by simp);exact wpAny_pyNext_range_end (I.ok.hd Z) st (by have:n<=i:=hg;lia) λh' eb=>⟨rfl,I.turned (t':=s.toks) (λb o B e=>eb b o B e) f0 f1 f3 f4 f5⟩
 self:=λ_ _ _ _ _ st h=>wpAny_pyIter_rangeiter st h
section
variable {X:Cx}{tg:Expr}
def zoo (K:AH)(tl:TE):TI:=λσ H R=>tl σ H λx H1=>∃a,x = .ref a/\(∃xs,SqL K H1 a xs)/\R (Itl K a) H1
def zuz (K:AH)(tl:TE):TI:=λσ H R=>tl σ H λx H1=>∃a,x = .ref a/\(∃xs,SqT K H1 a xs)/\R (Itt K a) H1
def zpn(F:PE X l tl):PI X tg l (zoo X.K tl):=by
 intro pins s σ H R I h;show thn (F pins s σ H _ I h)  ?_;rintro v B ⟨x,H1,I1,J,O⟩;obtain⟨a,e,⟨xs,U⟩,q⟩:=O;subst e;cases J;obtain⟨Y,rv,p,hz⟩:=I1.list U;show fJ p.isList ?_;show⟨B.heap.objs.size,[B.heap.objs.size],_,_,H1,rfl,I1.kept (t':=B.toks) λb o e=>ai _ e,zkR a _,⟨_,aw _ rfl,rfl,rfl⟩,λb Z=>?_,q⟩;have e:b=B.heap.objs.size:=by simpa using Z
 subst e;exact I1.fpOk (ak _) (I1.hok.fresh (ak _))
def zsk(J:PE X l tl):PI X tg l (zuz X.K tl):=by
 intro pins s σ H R I h;show thn (J pins s σ H _ I h)  ?_;rintro v B ⟨x,H1,I1,O,U⟩;obtain⟨a,e,⟨xs,Y⟩,q⟩:=U;subst e;cases O;obtain⟨F,rv,p,hz⟩:=I1.tuple Y;show fg (show B.heap.IsTuple a F.toArray from p) ?_;show⟨B.heap.objs.size,[B.heap.objs.size],_,_,H1,rfl,I1.kept (t':=B.toks) λb o e=>ai _ e,zid a _,⟨_,aw _ rfl,rfl,rfl⟩,λb Z=>?_,q⟩;have e:b=B.heap.objs.size:=by simpa using Z
 subst e;exact I1.fpOk (ak _) (I1.hok.fresh (ak _))
def zms{pins:AB}{σ:St}{H:Hp}{s:AZ}{R:It->Hp->Prop}{E:AA}{lo hi:Int}{t u v:Tok}(I:Inv X pins σ H s)(h1:-(2 ^ 62)<=lo)(h2:lo<2 ^ 62)(B:-(2 ^ 62)<=hi)(F:hi<2 ^ 62)(q:R (Itr lo (hi - lo).toNat) H):Af X (pyIter (.ref s.heap.objs.size)) (PIE X pins σ tg R) E { s with heap:=s.heap.push { cls:=.type "range",data:=.fields #[.int lo t,.int hi u,.int 1 v] },toks:=tk }:=by
 show wpAny_pyIter_range (IsRange.new ..) (small_one h1 h2 B F) ?_;have I1:Inv X pins σ H { s with heap:=s.heap.push { cls:=.type "range",data:=.fields #[.int lo t,.int hi u,.int 1 v] },toks:=tk }:=I.kept λb o e=>ai _ e
 show⟨(s.heap.push { cls:=.type "range",data:=.fields #[.int lo t,.int hi u,.int 1 v] }).objs.size,[(s.heap.push { cls:=.type "range",data:=.fields #[.int lo t,.int hi u,.int 1 v] }).objs.size],_,_,H,rfl,
  I1.kept (t':=tk) λb o e=>ai _ e,zic _ lo (hi - lo).toNat,?_,λb J=>?_,q⟩
 ·have O:lo+((0:Nat):Int) * 1=lo:=by simp
  have U:(((hi - lo).toNat:Nat):Int) - ((0:Nat):Int)=Builtin.Range.rangeSize lo hi 1:=by rw[rangeSize_one];split <;> lia
  change IsRangeIter _ _ (lo+((0:Nat):Int) * 1) ((((hi - lo).toNat:Nat):Int) - ((0:Nat):Int)) 1;rw[O,U];exact aw _ rfl
 have e:b=(s.heap.push { cls:=.type "range",data:=.fields #[.int lo t,.int hi u,.int 1 v] }).objs.size:=by simpa using J
 subst e;exact I1.fpOk (ak _) (I1.hok.fresh (ak _))
def zrj (ta:TA):TI:=λσ H R=>ta σ H λvs H1=>∃j:Int,vs=[.int j]/\-(2 ^ 62)<=j/\j<2 ^ 62/\R (Itr 0 j.toNat) H1
def zj9(F:Gl X "range")(J:X.mg "range" = none)(O:PA X [a] ta)(hs:starEach [a] X.env=[(false,eval a X.env)]:=by rfl):PI X tg (.Call (.Name "range" p) [a] [] pos) (zrj ta):=by
 intro pins s σ H R I h;show Call_ (zeZ I F J boot_range (di (thn (O pos pins s σ H _ I h) λus Z ⟨vs,H1,I1,U,B⟩=>?_) hs rfl));obtain⟨j,e,B,Y,q⟩:=B;subst e
 cases U with
 | cons r rr=>
  cases rr;obtain⟨t,rfl⟩:=r;exact call_range_1 (zms I1 (by lia) (by lia) B Y (by simpa using q))
def ztV (wi:TI)(g:TG)(tb:TS):TS:=λD σ H=>wi σ H λJ H1=>∃W:Nat->Nat->St->Hp->Prop,(∃m,W 0 m σ H1)/\∀i m σ H,W i m σ H->
 (J.stop i H/\D.nx σ H)\/(J.go i H/\∃N:St->Hp->Prop,(∀ q H',N q H'->∃F,F<m/\W (i+1) F q H')/\∀x H',J.yld i H x H'->g x σ H' λB H2=>tb { D with nx:=N,ct:=N,bk:=D.nx } B H2)
def zfb (q:AY)(h:Heap):AB:=q.filterMap λb=>(h.get? b).map λo=>(b,o)
def zba(B:b∈q)(e:h.get? b=some o):(b,o)∈zfb q h:=dh.mpr ⟨b,B,by rw[e];rfl⟩
def zj0(F:p∈zfb B h):p.1∈B/\h.get? p.1=some p.2:=by
 obtain⟨b,I,e⟩:=dh.mp F
 cases q:h.get? b with
 | none=>rw[q] at e;cases e
 | some o=>
  grind
def Inv.pinned {pins:AB}{σ:St}{H:Hp}{s:AZ}{q:AY}(I:Inv X pins σ H s)(F:∀b∈q,zfx X pins H b)(J:∀b∈q,∃o,s.heap.get? b=some o/\∀v,o.data≠.cell v):Inv X (pins++zfb q s.heap) σ H s:=
 I.pins_of λp O=>(au.mp O).elim (λz=>I.pin p (aI _ z)) λz=>by
  obtain⟨B,e⟩:=zj0 z;obtain⟨U,Y,Z,_⟩:=F p.1 B;obtain⟨o,e',d⟩:=J p.1 B;right
def Inv.unpinned{pins pl:AB}{σ:St}{H:Hp}(I:Inv X (pins++pl) σ H s):Inv X pins σ H s:=I.pins_of λp q=>I.pin p (aI _ (aT _ q))
def zsn(hp:PassesOwn (model X.prog X.w) X.A X.env X.xe)(hc:X.calm=true)(hi:PI X tg iter wi)(hg:PG X tg g)(B:PSs X body tb)(hs:∀x,foldedSetIterable iter X.env x=pure x:=by intro _;rfl):PS X (.For tg iter body [] pos) (ztV wi g tb):=by
 intro pins s σ H D I h;show wpAny_For (thn (hi pins s σ H _ I h) λv s1 h1=>thn h1 λap s2 h2=>?_) hs;obtain⟨it,fp,tn,J,H2,e,I2,T,ag,f2,W,⟨m0,w0⟩,ab⟩:=h2;subst e;have F:∀ {H':Hp},(∀b∈fp,H' b=none)->∀b∈fp,zfx X pins H' b:=λhn b B=>⟨hn b B,(f2 b B).2⟩;show codeAny_forLoop_any (λn s'=>∃i O H',Inv X pins O H' s'/\tn i s'.heap/\(∀b∈fp,H' b=none)/\W i n O H') ?_ m0 ⟨0,σ,H2,I2,ag,λb B=>(f2 b B).1,w0⟩;rintro n s3 ⟨i,U,H3,I3,ac,ad,w3⟩;rcases ab i n U H3 w3 with ⟨stop,qn⟩ | ⟨go,N,hN,step⟩
 ·show cV hp (thn (T.done X rfl rfl rfl hc i pins s3 U H3 X.xe I3 (F ad) ac stop)  ?_);rintro r s4 ⟨hr,I4⟩;subst hr;exact eO ⟨U,H3,I4,qn⟩
 ·show cV hp (thn (T.item X rfl rfl rfl hc i pins s3 U H3 X.xe I3 (F ad) ac go)  ?_);rintro r s4 ⟨u,hr,h4⟩;subst hr;show cV hp (thn h4  ?_);rintro _ s5 ⟨x,H5,I5,r5,y5,aa,al⟩;have I5':=I5.pinned (F al) (T.obj _ _ aa);show cV hp (thn (hg _ s5 U H5 x u _ I5' r5 (step x H5 y5))  ?_);rintro _ s6 ⟨an,H6,I6,q6⟩;show cV hp (thn (B _ s6 an H6 _ I6 q6) λf s7 Z=>?_);have Y:∀ {q:St} {H7:Hp},Inv X (pins++zfb fp s5.heap) q H7 s7->N q H7->∃m,m<n/\∃i O H',Inv X pins O H' s7/\tn i s7.heap/\(∀b∈fp,H' b=none)/\W i m O H':=λ{q H7} I7 n7=>by obtain⟨m',hm,w7⟩:=hN q H7 n7;show⟨m',hm,i+1,q,H7,I7.unpinned,T.keep _ _ _ aa λb B o e=>(I7.pin (b,o) (aI _ (aI _ (zba B e)))).1,λb B=>?_,w7⟩;obtain⟨o,e,d⟩:=T.obj _ _ aa b B;exact (I7.pin (b,o) (aI _ (aI _ (zba B e)))).2.1
  cases f with
  | next=>obtain⟨q,H7,I7,n7⟩:=Z;exact Y I7 n7
  | cont=>obtain⟨q,H7,I7,n7⟩:=Z;exact Y I7 n7
  | brk=>obtain⟨q,H7,I7,Z⟩:=Z;exact⟨q,H7,I7.unpinned,Z⟩
  | ret v=>obtain⟨x7,q,H7,I7,r7,Z⟩:=Z;exact⟨x7,q,H7,I7.unpinned,r7,Z⟩
end
def zoi {K:AH}{a:Addr}{xs:AT}{g:TG}{tb:TS}{D:Ends}{σ:St}{H:Hp}(Pv:Nat->St->Hp->Prop)(O:Pv 0 σ H)(U:∀i σ H,i<=xs.length->Pv i σ H->SqT K H a xs)
  (hs:∀i x σ H,xs[i]?=some x->Pv i σ H->g x σ H λB H2=>tb { D with nx:=Pv (i+1),ct:=Pv (i+1),bk:=D.nx } B H2) (Y:∀ σ H,Pv xs.length σ H->D.nx σ H) :
  ∃W:Nat->Nat->St->Hp->Prop,(∃m,W 0 m σ H)/\∀i m σ H,W i m σ H->
   ((Itt K a).stop i H/\D.nx σ H)\/((Itt K a).go i H/\∃N:St->Hp->Prop,(∀ F H',N F H'->∃J,J<m/\W (i+1) J F H')/\∀x H',(Itt K a).yld i H x H'->g x σ H' λB H2=>tb { D with nx:=N,ct:=N,bk:=D.nx } B H2):=by
 show⟨λi m σ H=>m=xs.length - i/\i<=xs.length/\Pv i σ H,⟨xs.length,by simp,aM _,O⟩,?_⟩;rintro i m σ H ⟨rfl,hi,p⟩;have q:=U i σ H hi p;by_cases I:i<xs.length;show .inr ⟨⟨xs,xs[i],q,by simp[I]⟩,Pv (i+1),λF H' Z=>⟨xs.length - (i+1),by lia,rfl,I,Z⟩,λx H' y=>?_⟩;obtain⟨e,y⟩:=y;subst e;exact hs i x σ _ (y xs q) p;have e:i=xs.length:=by lia
 subst e;exact .inl ⟨⟨xs,q,ak _⟩,Y σ H p⟩
abbrev R2:=V->V->Hp->VK->Prop
def OpR (X:Cx)(f:Value->Value->Sem Value)(r:R2):Prop:=
 ∀ (pins:AB) (s:AZ) (σ:St) (H:Hp) (x y:V) (v u:Value) (Q:VK),Inv X pins σ H s->yd x v->yd y u->r x y H Q->
  Af X (f v u) (EP X pins σ Q) X.xe s
def UnR (X:Cx)(f:Value->Sem Value)(r:V->Hp->VK->Prop):Prop:=
 ∀ (pins:AB) (s:AZ) (σ:St) (H:Hp) (x:V) (v:Value) (Q:VK),Inv X pins σ H s->yd x v->r x H Q->
  Af X (f v) (EP X pins σ Q) X.xe s
def zdn (X:Cx)(f:Value)(r:AT->Hp->VK->Prop):Prop:=
 ∀ (pins:AB) (s:AZ) (σ:St) (H:Hp) (xs:AT) (us:AN) (Q:VK),Inv X pins σ H s->zT xs us->r xs H Q->
  Af X (call f us) (EP X pins σ Q) X.xe s
def tOp (r:R2)(ta tb:TE):TE:=λσ H Q=>ta σ H λx H1=>tb σ H1 λy H2=>r x y H2 Q
def tUn (r:V->Hp->VK->Prop)(ta:TE):TE:=λσ H Q=>ta σ H λx H1=>r x H1 Q
def rI (C:Int->Int->Prop)(g:Int->Int->V):R2:=λx y H Q=>∃i j,x = .int i/\y = .int j/\C i j/\Q (g i j) H
def rI0 (g:Int->Int->V):R2:=λx y H Q=>∃i j,x = .int i/\y = .int j/\Q (g i j) H
def rU (g:Int->V):V->Hp->VK->Prop:=λx H Q=>∃i,x = .int i/\Q (g i) H
section
variable {X:Cx}{a b c:Expr}{ta tb tc:TE}{pos:Pos}
def zt6(J:PE X a ta)(O:PE X b tb){pins:AB}{σ:St}{H:Hp}{R:V->V->Hp->Prop}(I:Inv X pins σ H s)(h:ta σ H λx H1=>tb σ H1 λy H2=>R x y H2){Q:AA}{f:Value->Value->Sem Value}(U:∀v u F x y H2,Inv X pins σ H2 F->yd x v->yd y u->R x y H2->Af X (f v u) Q X.xe F) :
  Af X (eval a X.env) (λv q=>Af X (eval b X.env) (λu B=>Af X (f v u) Q X.xe B) X.xe q) X.xe s:=by
 show thn (J pins s σ H _ I h)  ?_;rintro v Y ⟨x,H1,I1,Z,q1⟩;show thn (O pins Y σ H1 _ I1 q1)  ?_;rintro u F ⟨y,H2,I2,r2,q2⟩;exact U v u F x y H2 I2 Z r2 q2
def zvi(F:OpR X (binaryOp B) r)(J:PE X a ta)(O:PE X b tb):PE X (.BinOp a B b pos) (tOp r ta tb):=by intro pins s σ H Q I h;exact wpAny_BinOp (zt6 J O I h λv u U x y H2 I2 Y Z q=>F pins U σ H2 x y v u Q I2 Y Z q)
def zvj(B:UnR X (unaryOp q) r)(F:PE X a ta):PE X (.UnaryOp q a pos) (tUn r ta):=by intro pins s σ H Q I h;exact UnaryOp_ (thn (F pins s σ H _ I h) <| by rintro v J ⟨x,H1,I1,O,U⟩;exact B pins J σ H1 x v Q I1 O U)
def opI{C:Int->Int->Prop}{g:Int->Int->Int}(B:∀ (i j:Int) (t u:Tok) (s:AZ) (Q:AA) (E:AA),C i j->Q (.int (g i j) s.toks) { s with toks:=s.toks+1 }->Af X (f (.int i t) (.int j u)) Q E s) :
  OpR X f (rI C λi j=>.int (g i j)):=by
 intro pins s σ H x y v u Q I F J h;obtain⟨i,j,rfl,rfl,O,q⟩:=h;obtain⟨t,rfl⟩:=F;obtain⟨t',rfl⟩:=J;exact B i j t t' s _ _ O ⟨.int (g i j),H,I.tok _,⟨_,rfl⟩,q⟩
def opI0{g:Int->Int->Int}(B:∀ (i j:Int) (t u:Tok) (s:AZ) (Q:AA) (E:AA),Q (.int (g i j) s.toks) { s with toks:=s.toks+1 }->Af X (f (.int i t) (.int j u)) Q E s) :
  OpR X f (rI0 λi j=>.int (g i j)):=by
 intro pins s σ H x y v u Q I F J h;obtain⟨i,j,rfl,rfl,q⟩:=h;obtain⟨t,rfl⟩:=F;obtain⟨t',rfl⟩:=J;exact B i j t t' s _ _ ⟨.int (g i j),H,I.tok _,⟨_,rfl⟩,q⟩
def ztQ{g:Int->Int->Bool}(B:∀ (i j:Int) (t u:Tok) (s:AZ) (Q:AA) (E:AA),Q (.bool (g i j)) s->Af X (f (.int i t) (.int j u)) Q E s) :
  OpR X f (rI0 λi j=>.bl (g i j)):=by
 intro pins s σ H x y v u Q I F J h;obtain⟨i,j,rfl,rfl,q⟩:=h;obtain⟨t,rfl⟩:=F;obtain⟨t',rfl⟩:=J;exact B i j t t' s _ _ ⟨.bl (g i j),H,I,rfl,q⟩
def zqA (i j:Int):Prop:=0<j/\j<1073741824
def CPow (i j:Int):Prop:=0<=j/\j<=1000000/\i.natAbs<2 ^ 64
def zm0 (i j:Int):Prop:=(-(2 ^ 64)<i/\i<2 ^ 64)\/(-(2 ^ 64)<j/\j<2 ^ 64)
def zm0.ok {i j:Int}(h:zm0 i j):IntMulOk i j:=by
 rcases h with ⟨h1,h2⟩ | ⟨h1,h2⟩;exact .of_left (intBits_le_64 h1 h2);exact .of_right (intBits_le_64 h1 h2)
def zrQ:OpR X (binaryOp .Add) (rI0 λi j=>.int (i+j)):=opI0 λ_ _ _ _ _ _ _ q=>add_int q
def zrX:OpR X (binaryOp .Sub) (rI0 λi j=>.int (i - j)):=opI0 λ_ _ _ _ _ _ _ q=>sub_int q
def zrU:OpR X (binaryOp .Mult) (rI zm0 λi j=>.int (i * j)):=opI λ_ _ _ _ _ _ _ B q=>mul_int q B.ok
def zo6:OpR X (binaryOp .FloorDiv) (rI zqA λi j=>.int (i / j)):=opI λi j _ _ _ _ _ B q=>by have h1:(0:Int)<j:=B.1;have h2:j<1073741824:=B.2;exact floordiv_int (by lia) (by rw[Int.fdiv_eq_ediv_of_nonneg i (by lia)];exact q) (.inl (PyProof.noPylong_small (by lia)))
def zrT:OpR X (binaryOp .Mod) (rI (λ_ j=>0<j) λi j=>.int (i % j)):=opI λi j _ _ _ _ _ B q=>by have h1:(0:Int)<j:=B;exact mod_int' (by lia) (by rw[Int.fmod_eq_emod_of_nonneg i (by lia)];exact q)
def zrW:OpR X (binaryOp .Pow) (rI CPow λi j=>.int (i ^ j.toNat)):=opI λ_ _ _ _ _ _ _ B q=>pow_int_small B.1 B.2.1 B.2.2 q
def unI{g:Int->Int}(B:∀ (i:Int) (t:Tok) (s:AZ) (Q:AA) (E:AA),Q (.int (g i) s.toks) { s with toks:=s.toks+1 }->Af X (f (.int i t)) Q E s) :
  UnR X f (rU λi=>.int (g i)):=by
 intro pins s σ H x v Q I F h;obtain⟨i,rfl,q⟩:=h;obtain⟨t,rfl⟩:=F;exact B i t s _ _ ⟨.int (g i),H,I.tok _,⟨_,rfl⟩,q⟩
def ztl:UnR X (unaryOp .USub) (rU λi=>.int (-i)):=unI λ_ _ _ _ _ q=>neg_int q
end
def zvw:V->V->Bool
 | .non,.non=>true | .non,.int _=>true | .int _,.non=>true | .non,.bl _=>true | .bl _,.non=>true | .non,.str _=>true | .str _,.non=>true
 | .int _,.int _=>true | .bl _,.bl _=>true | .str _,.str _=>true | .byt _,.byt _=>true
 | .int _,.str _=>true | .str _,.int _=>true | .bl _,.str _=>true | .str _,.bl _=>true
 | _,_=>false
def rEq:R2:=λx y H Q=>zvw x y=true/\Q (.bl (decide (x=y))) H
def rNe:R2:=λx y H Q=>zvw x y=true/\Q (.bl (!decide (x=y))) H
def ziO {i j:Int}:decide (V.int i=V.int j)=(i==j):=by rw[cW];simp
def zna:decide (V.bl i=V.bl j)=(i==j):=by rw[cW];simp
def ziP:decide (V.str i=V.str j)=(i==j):=by rw[cW];simp
def ziN:decide (V.byt i=V.byt j)=(i.toList==j.toList):=by
 rw[cW];right
section
variable {X:Cx}{a b c:Expr}{ta tb tc:TE}{pos:Pos}
def zW{pins:AB}{σ:St}{H:Hp}{Q:VK}(I:Inv X pins σ H s)(q:Q (.bl k) H)(e:k=B):EP X pins σ Q (.bool B) s:=by subst e;exact⟨.bl k,H,I,rfl,q⟩
def zu9:OpR X (compareOp .Eq) rEq:=by
 intro pins s σ H x y v u Q I F B h;obtain⟨hs,q⟩:=h
 cases x with
 | non=>
  cases F
  cases y with
  | non=>cases B;exact PySem.EqNone.eq_none_none (zW I q (by simp))
  | bl j=>cases B;exact PySem.EqNone.eq_none_bool (zW I q (by simp))
  | int j=>obtain⟨t',rfl⟩:=B;exact PySem.EqNone.eq_none_int (zW I q (by simp))
  | str j=>obtain⟨t',rfl⟩:=B;exact PySem.EqNone.eq_none_str (zW I q (by simp))
  | _=>exact absurd (show false=true from hs) ay
 | bl i=>
  cases F
  cases y with
  | non=>cases B;exact PySem.EqNone.eq_bool_none (zW I q (by simp))
  | bl j=>cases B;exact eq_bool (zW I q zna)
  | str j=>obtain⟨t',rfl⟩:=B;exact PySem.EqMixed.eq_bool_str (zW I q (by simp))
  | _=>exact absurd (show false=true from hs) ay
 | int i=>
  obtain⟨t,rfl⟩:=F
  cases y with
  | non=>cases B;exact PySem.EqNone.eq_int_none (zW I q (by simp))
  | int j=>obtain⟨t',rfl⟩:=B;exact eq_int (zW I q ziO)
  | str j=>obtain⟨t',rfl⟩:=B;exact PySem.EqMixed.eq_int_str (zW I q (by simp))
  | _=>exact absurd (show false=true from hs) ay
 | str i=>
  obtain⟨t,rfl⟩:=F
  cases y with
  | non=>cases B;exact PySem.EqNone.eq_str_none (zW I q (by simp))
  | bl j=>cases B;exact PySem.EqMixed.eq_str_bool (zW I q (by simp))
  | int j=>obtain⟨t',rfl⟩:=B;exact PySem.EqMixed.eq_str_int (zW I q (by simp))
  | str j=>obtain⟨t',rfl⟩:=B;exact eq_str (zW I q ziP)
  | _=>exact absurd (show false=true from hs) ay
 | byt i=>
  obtain⟨t,rfl⟩:=F
  cases y with
  | byt j=>obtain⟨t',rfl⟩:=B;exact PySem.W.eq_bytes (zW I q ziN)
  | _=>exact absurd (show false=true from hs) ay
 | _=>cases y <;> exact absurd (show false=true from hs) ay
def zve:OpR X (compareOp .NotEq) rNe:=by
 intro pins s σ H x y v u Q I F B h;obtain⟨hs,q⟩:=h
 cases x with
 | non=>
  cases F
  cases y with
  | non=>cases B;exact PySem.EqNone.ne_none_none (zW I q (by simp))
  | bl j=>cases B;exact PySem.EqNone.ne_none_bool (zW I q (by simp))
  | int j=>obtain⟨t',rfl⟩:=B;exact PySem.EqNone.ne_none_int (zW I q (by simp))
  | str j=>obtain⟨t',rfl⟩:=B;exact PySem.EqNone.ne_none_str (zW I q (by simp))
  | _=>exact absurd (show false=true from hs) ay
 | bl i=>
  cases F
  cases y with
  | non=>cases B;exact PySem.EqNone.ne_bool_none (zW I q (by simp))
  | bl j=>cases B;exact ne_bool (zW I q (congrArg not zna))
  | str j=>obtain⟨t',rfl⟩:=B;exact PySem.EqMixed.ne_bool_str (zW I q (by simp))
  | _=>exact absurd (show false=true from hs) ay
 | int i=>
  obtain⟨t,rfl⟩:=F
  cases y with
  | non=>cases B;exact PySem.EqNone.ne_int_none (zW I q (by simp))
  | int j=>obtain⟨t',rfl⟩:=B;exact ne_int (zW I q (congrArg not ziO))
  | str j=>obtain⟨t',rfl⟩:=B;exact PySem.EqMixed.ne_int_str (zW I q (by simp))
  | _=>exact absurd (show false=true from hs) ay
 | str i=>
  obtain⟨t,rfl⟩:=F
  cases y with
  | non=>cases B;exact PySem.EqNone.ne_str_none (zW I q (by simp))
  | bl j=>cases B;exact PySem.EqMixed.ne_str_bool (zW I q (by simp))
  | int j=>obtain⟨t',rfl⟩:=B;exact PySem.EqMixed.ne_str_int (zW I q (by simp))
  | str j=>obtain⟨t',rfl⟩:=B;exact ne_str (zW I q (congrArg not ziP))
  | _=>exact absurd (show false=true from hs) ay
 | byt i=>
  obtain⟨t,rfl⟩:=F
  cases y with
  | byt j=>obtain⟨t',rfl⟩:=B;exact PySem.W.ne_bytes (zW I q (congrArg not ziN))
  | _=>exact absurd (show false=true from hs) ay
 | _=>cases y <;> exact absurd (show false=true from hs) ay
def zvd:OpR X (compareOp .Lt) (rI0 λi j=>.bl (decide (i<j))):=ztQ λ_ _ _ _ _ _ _ q=>lt_int q
def zvc:OpR X (compareOp .LtE) (rI0 λi j=>.bl (decide (i<=j))):=ztQ λ_ _ _ _ _ _ _ q=>le_int q
def zvb:OpR X (compareOp .Gt) (rI0 λi j=>.bl (decide (j<i))):=ztQ λ_ _ _ _ _ _ _ q=>gt_int q
def zva:OpR X (compareOp .GtE) (rI0 λi j=>.bl (decide (j<=i))):=ztQ λ_ _ _ _ _ _ _ q=>ge_int q
def zx(b:Expr)(h:q≠.In:=by ext)(h2:q≠.NotIn:=by ext):behindInMarks q b=false:=by
 have B:(q==CmpOp.In)=false:=by cases q <;> first | rfl | exact absurd rfl h
 have F:(q==CmpOp.NotIn)=false:=by cases q <;> first | rfl | exact absurd rfl h2
 cases b <;> simp[behindInMarks,B,F]
def zpa(F:OpR X (compareOp B) r)(J:PE X a ta)(O:PE X b tb)(U:behindInMarks B b=false):PE X (.Compare a [B] [b] pos) (tOp r ta tb):=by intro pins s σ H Q I h;exact wpAny_Compare1 (zt6 J O I h λv u Y x y H2 I2 Z ry q=>F pins Y σ H2 x y v u Q I2 Z ry q) U
def zqk (t:TE):TT:=λσ H Q=>t σ H λx H'=>∃k,x = .bl k/\Q k H'
def zpt(B:OpR X (compareOp q) r)(F:PE X a ta)(J:PE X b tb)(O:behindInMarks q b=false):PT X (.Compare a [q] [b] pos) (zqk (tOp r ta tb)):=by
 intro pins s σ H Q I h
 show wpAny_isTrue_Compare1 (thn (F pins s σ H _ I h) λv U ⟨x,H1,I1,Y,Z⟩=>thn (J pins U σ H1 _ I1 Z) λu s2 ⟨y,H2,I2,r2,q2⟩=>
  thn (B pins s2 σ H2 x y v u _ I2 Y r2 q2) λc s3 ⟨z,H3,I3,r3,k,e,q3⟩=>?_) O
 subst e;cases r3;exact dZ ⟨H3,I3,q3⟩
def zg3:(sizeLine:Nat)<2 ^ 63:=by rw[b8];decide
def zaY(r:zT [x] us):∃u,us=[u]/\yd x u:=by
 cases r with
 | cons q B=>cases B;exact⟨_,rfl,q⟩
def zvS(r:zT [x,y] us):∃u w',us=[u,w']/\yd x u/\yd y w':=by
 cases r with
 | cons q B=>
  cases B with
  | cons F I=>cases I;exact⟨_,_,rfl,q,F⟩
def zlf:zdn X (.builtin "abs") (λxs H Q=>∃i,xs=[.int i]/\Q (.int (if i<0 then -i else i)) H):=by intro pins s σ H xs us Q I r h;obtain⟨i,rfl,q⟩:=h;obtain⟨u,rfl,t,rfl⟩:=zaY r;exact call_abs_int λu tk=>⟨.int (if i<0 then -i else i),H,I.tok _,⟨_,rfl⟩,q⟩
def zit:zdn X (.type "int") (λxs H Q=>(∃i,xs=[.int i]/\Q (.int i) H)\/∃k,xs=[.bl k]/\Q (.int (if k then 1 else 0)) H):=by
 intro pins s σ H xs us Q I r h;rcases h with ⟨i,rfl,q⟩ | ⟨k,rfl,q⟩;obtain⟨u,rfl,t,rfl⟩:=zaY r;exact call_int_int ⟨.int i,H,I,⟨_,rfl⟩,q⟩;obtain⟨u,rfl,B⟩:=zaY r;cases B;exact call_int_bool ⟨.int (if k then 1 else 0),H,I.tok _,⟨_,rfl⟩,q⟩
def ztz (K:AH)(x:V)(H:Hp)(n:Nat):Prop:=
 match x with
 | .str y=>y.length<=sizeLine/\n=y.length
 | .byt y=>y.size<=sizeLine/\n=y.size
 | .ref p=>(∃xs,SqL K H p xs/\n=xs.length)\/∃xs,SqT K H p xs/\n=xs.length
 | _=>False
def zlg:zdn X (.builtin "len") (λxs H Q=>∃x n,xs=[x]/\ztz X.K x H n/\Q (.int n) H):=by
 intro pins s σ H xs us Q I r h;obtain⟨x,n,rfl,e,q⟩:=h;obtain⟨u,rfl,rx⟩:=zaY r;have hl:=zg3;have hs:sizeLine=16777216:=b8
 cases x with
 | str y=>
  obtain⟨t,rfl⟩:=rx;obtain⟨hy,e'⟩:y.length<=sizeLine/\n=y.length:=e;subst e';exact len_str (by lia) ⟨.int _,H,I.tok _,⟨_,rfl⟩,q⟩
 | byt y=>
  obtain⟨t,rfl⟩:=rx;obtain⟨hy,e'⟩:y.size<=sizeLine/\n=y.size:=e;subst e';exact PySem.W.len_bytes (by lia) ⟨.int _,H,I.tok _,⟨_,rfl⟩,q⟩
 | ref p=>
  cases rx;have e':(∃xs,SqL X.K H p xs/\n=xs.length)\/∃xs,SqT X.K H p xs/\n=xs.length:=e;rcases e' with ⟨xs,hx,e'⟩ | ⟨xs,hx,e'⟩;subst e';obtain⟨its,r',pl,hz⟩:=I.list hx;have hlen:=r'.length;exact Calls.call_len_list pl.isList (by simp only[aW];lia) ⟨.int xs.length,H,I.tok _,⟨_,by simp only[aW];rw[hlen]⟩,q⟩;subst e';obtain⟨its,r',pl,hz⟩:=I.tuple hx;have hlen:=r'.length;exact len_tuple pl (by simp only[aW];lia) ⟨.int xs.length,H,I.tok _,⟨_,by simp only[aW];rw[hlen]⟩,q⟩
 | _=>exact (show False from e).elim
end
structure ObjM (h:Heap)(x dx C:Addr)(mA:AI):Prop where
 obj:h.get? x=some (PySem.W.instObj C dx)
 ns:h.Ns1 dx mA
 ne:dx≠x
def zjF {h:Heap}{dx:Addr}{mA:AI}(n:h.Ns1 dx mA):∃F,h.get? dx=some F/\∀name,PySem.W.lookIn name F=some (mA name):=by
 obtain⟨o,es,Z,I,J,O,_,U⟩:=n;show⟨o,I,λname=>?_⟩;have e:=U name;unfold nsFind findBy at e;rw[<- Array.find?_toList] at e;unfold PySem.W.lookIn;rw[J];dsimp only;split;right
 ·rename_i q;rw[q] at e
  have a:es.toList.any (·.refKey)=false:=by rw[List.any_eq_false];intro y Y;obtain⟨z,t,B⟩:=O y (bT.mp Y);simp[DictEntry.refKey,B]
  grind
def ObjM.look(I:ObjM h x dx C mA):∃q,PySem.W.InstAt h x (PySem.W.instObj C dx) C (some q)/\∀name,PySem.W.lookIn name q=some (mA name):=
 let ⟨q,ho,hl⟩:=zjF I.ns
 ⟨q,⟨I.obj,rfl,rfl,ho⟩,hl⟩
section
variable {prog:Aa}{w:Ab}{A:Ae}{E:AA}{s:AZ}{K:AH}{x dx C f:Addr}{mA:AI}{name:Str}{v:Value}
def zoj(X:K.In s.heap)(I:ObjM s.heap x dx C mA)(F:PySem.W.plainGet K C name=true)(O:PySem.W.hasDictIn K C=true)(U:PySem.W.findIn K (.ref C) name=some none)(Y:mA name=some v)(B:PySem.W.handedIn v=true)(h:Q v { s with toks:=s.toks+1 }) :
  Ag prog w A (getAttr (.ref x) name q) Q E s:=by
 obtain⟨od,J,Z⟩:=I.look;exact PySem.W.get_value X J (eP F).1 (PySem.W.findObj_own O U rfl (by rw[Z,Y])) B h
def zlC(X:K.In s.heap)(I:ObjM s.heap x dx C mA)(q:PySem.W.plainGet K C name=true)(B:PySem.W.findIn K (.ref C) name=some (some (.ref f)))(F:PySem.W.isFn K (.ref f)=true)(O:mA name=none)(h:Q (.ref f,[.ref x]) s) :
  Ag prog w A (getMethod (.ref x) name pl) Q E s:=by
 obtain⟨U,J,Y⟩:=I.look;exact PySem.W.method_fn X J (eP q).1 (eP q).2 B (beq_iff_eq.mp F) (by change (PySem.W.lookIn name U).map (·.isSome)=some false;rw[Y,O];rfl) h
def zp4(X:K.In s.heap)(I:ObjM s.heap x dx C mA)(hs:PySem.W.findIn K (.ref C) "__setattr__" = some (some (.builtin "object.__setattr__")))(Z:PySem.W.plainOver K C=true)(ht:PySem.W.takerIn K C name=some none)(hh:PySem.W.hasDictIn K C=true)(hw:PySem.Within mA ns)(hsz:ns.length<=sizeLine)(h:∀h',ObjM h' x dx C (λy=>if y=name then some v else mA y)->Heap.SameBut dx s.heap h'->Q () { s with heap:=h',toks:=s.toks+2 }) :
  Ag prog w A (setAttr (.ref x) name v) Q E s:=by
 obtain⟨od,J,hl⟩:=I.look;show PySem.W.set_plain X J hs (PySem.W.osa_open (s:={ s with toks:=s.toks+1 }) (r:=none) X J Z ht λb=>?_);obtain⟨cd,hc,F⟩:=PySem.W.any_some hh;have hx:s.heap.get? x=some ⟨.ref C,some dx,.plain,#[]⟩:=I.obj;show ae (ah (ae (ae (wpAny_loadPart hx (ae (PySem.W.Looks.here (s:={ s with toks:=s.toks+1 }) (PySem.W.looks_clsIn X hc) ?_))))));rw[F];show ah (a:=some dx) (ae (ah (ae ?_)));show wpAny_nsSet1 (s:={ s with toks:=s.toks+1 }) I.ns λh' q B=>?_;obtain⟨oD,aa,ab,O,U,Y⟩:=q.count (PySem.Within.cons name v hw);show ae (wpAny_lookBehind O (by rw[U];exact pastItsLine_dict (aA Y (by right))) ?_);exact ah (h _ ⟨(B.2 _ (Ne.symm I.ne)).trans I.obj,q,I.ne⟩ B)
def zlX(X:K.In s.heap)(F:PySem.W.makesIn K C=true)(hi:PySem.W.findIn K (.ref C) "__init__" = some (some (.ref f)))(I:PySem.W.typeIn K (.ref f)=some (.type "function"))(h:codeAny (model prog w) (A.under (.builtin "type.__call__" ⟨.ref C::vs,B⟩)) (.call (.ref f) ⟨.ref (s.heap.objs.size+1)::vs,B⟩) (PySem.W.InitBack (s.heap.objs.size+1) R)
   { s with heap:=(s.heap.push PySem.W.emptyDict).push (PySem.W.instObj C s.heap.objs.size) }) :
  codeAny (model prog w) A (.call (.ref C) ⟨vs,B⟩) R s:=by
 obtain⟨J,g,d,t,O⟩:=s;exact PySem.W.make_core (PySem.W.makes_of X F) (PySem.W.looks_findIn X hi) (λq=>PySem.W.bind_fn X q I) (.inl rfl) h
end
def zbB (f:Str)(v:V):List (Str×V)->List (Str×V)
 | []=>[(f,v)]
 | (g,x)::r=>if g=f then (g,v)::r else (g,x)::zbB f v r
def zcb (f g:Str)(v:V):∀fs:List (Str×V),(zbB f v fs).lookup g=if g=f then some v else fs.lookup g
 | []=>by
  change List.lookup g [(f,v)]=_;grind
 | (k,x)::r=>by
  have q:=zcb f g v r;rw[show zbB f v ((k,x)::r)=(if k=f then (k,v)::r else (k,x)::zbB f v r) from rfl];grind
def zb8 (f:Str)(v:V):∀fs:List (Str×V),f∈(zbB f v fs).map (·.1)/\∀g,g∈fs.map (·.1)->g∈(zbB f v fs).map (·.1)
 | []=>⟨by simp[zbB],λg h=>by simp at h⟩
 | (k,x)::r=>by
  obtain⟨q,B⟩:=zb8 f v r;rw[show zbB f v ((k,x)::r)=(if k=f then (k,v)::r else (k,x)::zbB f v r) from rfl];grind
def zb9 (f:Str)(v:V):∀fs:List (Str×V),(zbB f v fs).length<=fs.length+1
 | []=>by simp[zbB]
 | (k,x)::r=>by
  have q:=zb9 f v r;rw[show zbB f v ((k,x)::r)=(if k=f then (k,v)::r else (k,x)::zbB f v r) from rfl];grind
def zfv.some_of(r:zfv (some v) o):∃u,o=some u/\yd v u:=by
 cases o with
 | none=>exact (show False from r).elim
 | some u=>exact⟨u,rfl,r⟩
def zfv.none_of(r:zfv none o):o=none:=by
 cases o with
 | none=>rfl
 | some u=>exact (show False from r).elim
def zja(r:yd v u):PySem.W.handedIn u=true:=by
 cases v with
 | non=>cases (show u=Value.none from r);rfl
 | bl b=>cases (show u=Value.bool b from r);rfl
 | int i=>obtain⟨t,e⟩:=(show ∃t,u=Value.int i t from r);cases e;rfl
 | str x=>obtain⟨t,e⟩:=(show ∃t,u=Value.str x t from r);cases e;rfl
 | byt b=>obtain⟨t,e⟩:=(show ∃t,u=Value.bytes b t from r);cases e;rfl
 | flt b=>obtain⟨t,e⟩:=(show ∃t,u=Value.float b t from r);cases e;rfl
 | ref a=>cases (show u=Value.ref a from r);rfl
 | ty n=>cases (show u=Value.type n from r);rfl
section
variable {P:Aa}{w:Ab}{H H':Hp}{h h':Heap}{a C dx:Addr}{fs fs':List (Str×V)}
def zdB (B:HOk P w H h)(e:H a=some (.ins C dx fs)):∃mA,ObjM h a dx C mA/\(∀f,zfv (fs.lookup f) (mA f))/\PySem.Within mA (fs.map (·.1))/\fs.length<=1000/\H dx=some (.own a):=by obtain⟨d,z,F,ob,mA,n,r,q⟩:=(show ya P w H h a (.ins C dx fs) from B a _ e);exact⟨mA,⟨ob,n,F⟩,r,q,z,d⟩
end
structure Cls (K:AH)(C:Addr):Prop where
 pg:PySem.W.plainGet K C Str.empty=true
 hd:PySem.W.hasDictIn K C=true
 po:PySem.W.plainOver K C=true
 sa:PySem.W.findIn K (.ref C) "__setattr__" = some (some (.builtin "object.__setattr__"))
def Cls.get {K:AH}{C:Addr}(c:Cls K C)(f:Str):PySem.W.plainGet K C f=true:=c.pg
def zaf (K:AH)(C:Addr)(f:Str):Prop:=PySem.W.findIn K (.ref C) f=some none
def zaf.taker{K:AH}{C:Addr}(n:zaf K C f):PySem.W.takerIn K C f=some none:=by unfold PySem.W.takerIn;rw[show PySem.W.findIn K (.ref C) f=some none from n];rfl
structure Meth (K:AH)(C:Addr)(m:Str)(f:Addr):Prop where
 at_:PySem.W.findIn K (.ref C) m=some (some (.ref f))
 fn:PySem.W.isFn K (.ref f)=true
 kp:PySem.W.keepIn K (.ref f)=true
section
variable {X:Cx}{pins:AB}{σ:St}{H:Hp}{s:AZ}{a C dx:Addr}{fs:List (Str×V)}{f:Str}{v:V}{A:Ae}{E:AA}
def zhI(I:Inv X pins σ H s)(e:H a=some (.ins C dx fs))(c:Cls X.K C)(n:zaf X.K C f)(l:fs.lookup f=some v)(h:∀u s',Inv X pins σ H s'->yd v u->Q u s'):wpAny (model X.prog X.w) A (getAttr (.ref a) f b) Q E s:=by
 obtain⟨mA,O,r,_,_,_⟩:=zdB I.hok e;obtain⟨u,B,q⟩:=zfv.some_of (v:=v) (o:=mA f) (by rw[<- l];exact r f);exact zoj I.kIn O (c.get f) c.hd n B (zja q) (h u _ (I.tok _) q)
def zhJ(I:Inv X pins σ H s)(e:H a=some (.ins C dx fs))(c:Cls X.K C)(k:Meth X.K C m g)(l:fs.lookup m=none)(h:Q (.ref g,[.ref a]) s):wpAny (model X.prog X.w) A (getMethod (.ref a) m pl) Q E s:=by
 obtain⟨mA,O,r,_,_,_⟩:=zdB I.hok e;have hn:mA m=none:=zfv.none_of (by rw[<- l];exact r m);exact zlC I.kIn O (c.get m) k.at_ k.fn hn h
def zh2(I:Inv X pins σ H s)(e:H a=some (.ins C dx fs))(c:Cls X.K C)(n:zaf X.K C f)(hl:fs.length<1000)(F:yd y u)(h:∀s',Inv X pins σ (upd H a (.ins C dx (zbB f y fs))) s'->Q () s'):wpAny (model X.prog X.w) A (setAttr (.ref a) f u) Q E s:=by
 obtain⟨mA,O,r,wi,_,B⟩:=zdB I.hok e;have J:(fs.map (·.1)).length<=sizeLine:=by rw[af,b8];lia
 show zp4 I.kIn O c.sa c.po n.taker c.hd wi J λh' O' U=>h _ ?_;have Y:∃o,h'.get? dx=some o:=let ⟨o,_,_,e',_⟩:=O'.ns;⟨o,e'⟩;show I.write (x:=a) (e:=dx) (by rw[e];exact True.intro) (.inr B) (λb q Z z=>(U.2 b Z).trans z) Y ?_;show⟨by rw[ze O.ne];exact B,?_,O.ne,O'.obj,_,O'.ns,λg=>?_,λg hg=>?_⟩;have:=zb9 f y fs;lia;change zfv ((zbB f y fs).lookup g) (if g=f then some u else mA g);rw[zcb];by_cases q:g=f;rw[if_pos q,if_pos q];exact F;right;by_cases q:g=f;rw[q];exact (zb8 f y fs).1;show (zb8 f y fs).2 g (wi g λz=>hg ?_);grind
def Inv.made (I:Inv X pins σ H s):Inv X pins σ (upd (upd H s.heap.objs.size (.own (s.heap.objs.size+1))) (s.heap.objs.size+1) (.ins C s.heap.objs.size []))
  { s with heap:=(s.heap.push PySem.W.emptyDict).push (PySem.W.instObj C s.heap.objs.size) }:=by
 have B:(s.heap.push PySem.W.emptyDict).get? s.heap.objs.size=some PySem.W.emptyDict:=aw s.heap rfl
 have J:((s.heap.push PySem.W.emptyDict).push (PySem.W.instObj C s.heap.objs.size)).get? (s.heap.objs.size+1)=some (PySem.W.instObj C s.heap.objs.size):=by
  have:=aw (s.heap.push PySem.W.emptyDict) (o:=PySem.W.instObj C s.heap.objs.size) rfl;right
 have O:(s.heap.push PySem.W.emptyDict).Ns s.heap.objs.size (λ_=>none):=⟨PySem.W.emptyDict,#[],_,B,rfl,(λe U=>absurd U (by simp)),λ_=>rfl⟩;have I1:=I.laid (a:=s.heap.objs.size) (o:=.own (s.heap.objs.size+1)) (h':=s.heap.push PySem.W.emptyDict) (t':=s.toks) (λb u q=>ai _ q) (ak _) ⟨_,B⟩;show I1.laid (a:=s.heap.objs.size+1) (o:=.ins C s.heap.objs.size []) (t':=s.toks) (λb u q=>ai _ q) (Nat.le_of_eq (cS _ _)) ?_;have F:s.heap.objs.size≠s.heap.objs.size+1:=aV (eE _);show⟨by rw[ze F,zg],aM _,F,J,λ_=>none,(Heap.Ns1.of_empty O).at λo q=>ai _ q,λ_=>True.intro,λy Y=>absurd rfl Y⟩
def znU(B:attributeBase e f env (eval e env)=eval e env)(h:Ag prog w A (eval e env) (λo q=>Ag prog w A (getAttr o f true) Q E q) E s):Ag prog w A (eval (.Attribute e f pos) env) Q E s:=
 Attribute_any_ h (by rw[arm_eval_Attribute,B])
end
def zqf (K:AH)(ta:TE)(f:Str):TE:=λσ H Q=>ta σ H λx H1=>∃a C dx fs v,x = .ref a/\H1 a=some (.ins C dx fs)/\Cls K C/\zaf K C f/\fs.lookup f=some v/\Q v H1
def zsT (K:AH)(ta tv:TE)(f:Str):TS:=λD σ H=>tv σ H λy H1=>ta σ H1 λx H2=>∃a C dx fs,x = .ref a/\H2 a=some (.ins C dx fs)/\Cls K C/\zaf K C f/\fs.length<1000/\
 D.nx σ (upd H2 a (.ins C dx (zbB f y fs)))
section
variable {X:Cx}{o e value:Expr}{f:Str}{pos pos' tpos:Pos}{ta tv:TE}
def zdd (B:PE X e ta)(F:attributeBase e f X.env (eval e X.env)=eval e X.env):PE X (.Attribute e f pos) (zqf X.K ta f):=by intro pins s σ H Q I h;show znU F (thn (B pins s σ H _ I h)  ?_);rintro u Y ⟨x,H1,I1,J,a,C,dx,fs,v,ex,O,c,n,l,q⟩;subst ex;obtain rfl:u=Value.ref a:=J;exact zhI I1 O c n l λZ s2 I2 U=>⟨v,H1,I2,U,q⟩
def zhj (B:PE X o ta)(F:PE X value tv)(hs:swapsWith value (some (.Attribute o f pos')) pos.line X.env=pure false):PS X (.Assign [.Attribute o f pos'] value pos) (zsT X.K ta tv f):=by intro pins s σ H D I h;show plainObj_wpAny_Assign_Attribute (thn (F pins s σ H _ I h) λu J ⟨y,H1,I1,O,q⟩=>thn (B pins J σ H1 _ I1 q) λU s2 ⟨x,H2,I2,Y,a,C,dx,fs,ex,Z,c,n,l,q2⟩=>?_) hs;subst ex;obtain rfl:U=Value.ref a:=Y;exact zh2 I2 Z c n l O λs3 I3=>⟨σ,_,I3,q2⟩
variable {pins:AB}{σ:St}{H:Hp}{s:AZ}{A:Ae}{E:AA}{Q:AA}{c:Value}{b:Bool}
inductive TyOf (K:AH) (H:Hp):V->Value->Prop where
 | non:TyOf K H .non (.type "NoneType")
 | bl (x:Bool):TyOf K H (.bl x) (.type "bool")
 | int (i:Int):TyOf K H (.int i) (.type "int")
 | str (x:Str):TyOf K H (.str x) (.type "str")
 | flt (x:UInt64):TyOf K H (.flt x) (.type "float")
 | lst {a:Addr} {xs:AT} (e:H a=some (.lst xs)):TyOf K H (.ref a) (.type "list")
 | frz {a:Addr} {o:Obj} {xs:AT} (e:H a=some (.frz o (.lst xs))):TyOf K H (.ref a) (.type "list")
 | tup {a:Addr} {xs:AT} (e:H a=some (.tup xs)):TyOf K H (.ref a) (.type "tuple")
 | dK {a:Addr} {kvs:List (Key×V)} (e:H a=some (.dK kvs)):TyOf K H (.ref a) (.type "dict")
 | dT {a:Addr} {kvs:List (List Key×V)} (e:H a=some (.dT kvs)):TyOf K H (.ref a) (.type "dict")
 | ins {a C dx:Addr} {fs:List (Str×V)} (e:H a=some (.ins C dx fs)) (cl:Cls K C) (ha:PySem.W.findIn K (.ref C) "__class__" = some (some (.builtin "object.__class__")))
   (hn:PySem.W.specialIn K (.builtin "object.__class__") "__get__" = some (some (.builtin "getset_descriptor.__get__"))) (htk:PySem.W.takesIn K (.builtin "object.__class__")=some true)
   (hm:PySem.W.mroIn K C (.type "object")=some true):TyOf K H (.ref a) (.ref C)
def zjj(I:Inv X pins σ H s)(B:yd x u)(ty:TyOf X.K H x t)(e:PySem.W.kitOne X.K t c=some b)(h:∀tk,Q (.bool b) { s with toks:=tk }) :
  wpAny (model X.prog X.w) A (call (.builtin "isinstance") [u,c]) Q E s:=by
 cases ty with
 | non=>cases (show u=Value.none from B);exact bV PySem.W.kitx_none I.kIn True.intro e (λz=>nomatch z) h
 | bl y=>cases (show u=Value.bool y from B);exact bV PySem.W.kitx_bool I.kIn True.intro e (λz=>nomatch z) h
 | int i=>obtain⟨t,q⟩:=(show ∃t,u=Value.int i t from B);cases q;exact bV PySem.W.kitx_int I.kIn True.intro e (λz=>nomatch z) h
 | str y=>obtain⟨t,q⟩:=(show ∃t,u=Value.str y t from B);cases q;exact bV PySem.W.kitx_str I.kIn True.intro e (λz=>nomatch z) h
 | flt y=>obtain⟨t,q⟩:=(show ∃t,u=Value.float y t from B);cases q;exact bV PySem.W.kitx_float I.kIn True.intro e (λz=>nomatch z) h
 | @lst a xs F=>
  cases (show u=Value.ref a from B);obtain⟨_,_,n,_,h1⟩:=(show ya X.prog X.w H s.heap a (.lst xs) from I.hok a _ F);exact bV PySem.W.kitx_list I.kIn ⟨_,h1,rfl⟩ e (λz=>nomatch z) h
 | @frz a ob xs F=>
  cases (show u=Value.ref a from B);obtain⟨_,_,_,n,_,h1⟩:=(show ya X.prog X.w H s.heap a (.frz ob (.lst xs)) from I.hok a _ F);exact bV PySem.W.kitx_list I.kIn ⟨_,h1,rfl⟩ e (λz=>nomatch z) h
 | @tup a xs F=>
  cases (show u=Value.ref a from B);obtain⟨_,_,_,p⟩:=(show ya X.prog X.w H s.heap a (.tup xs) from I.hok a _ F);obtain⟨o,h1,h2,_⟩:=p;exact bV PySem.W.kitx_tuple I.kIn ⟨o,h1,h2⟩ e (λz=>nomatch z) h
 | @dK a kvs F=>
  cases (show u=Value.ref a from B);obtain⟨_,_,vs,_,p⟩:=(show ya X.prog X.w H s.heap a (.dK kvs) from I.hok a _ F);obtain⟨o,es,Z,h1,h2,_⟩:=p;exact bV PySem.W.kitx_dict I.kIn ⟨o,h1,h2.1⟩ e (λz=>nomatch z) h
 | @dT a kvs F=>
  cases (show u=Value.ref a from B);obtain⟨_,_,xs,_,o,es,Z,h1,h2,_⟩:=(show ya X.prog X.w H s.heap a (.dT kvs) from I.hok a _ F);exact bV PySem.W.kitx_dict I.kIn ⟨o,h1,h2.1⟩ e (λz=>nomatch z) h
 | @ins a C dx fs F Y ha hn U hm=>
  cases (show u=Value.ref a from B);obtain⟨mA,O,_⟩:=zdB I.hok F;obtain⟨od,J,_⟩:=O.look;exact bV (PySem.W.kitx_own (Y.get _) Y.hd ha hn U hm) I.kIn J e (λz=>nomatch z) h
end
structure Room (k:Nat)(A:Ae):Prop where
 hd:A.handled=none
 dp:A.depth+3 * k+5<recursionLimit
 un:A.units+16 * k+200<cLine
def Room.mono {j k:Nat}{A:Ae}(r:Room k A)(h:j<=k):Room j A:=⟨r.hd,by have:=r.dp;lia,by have:=r.un;lia⟩
def Room.deeper(r:Room (k+1) A)(env:Env):Room k (A.deeper env):=
 ⟨r.hd,by have:=r.dp;change A.depth+1+3 * k+5<_;lia,by have:=r.un;change A.units+3+16 * k+200<_;lia⟩
def zhO{A:Ae}:(A.under (.builtin "type.__call__" ⟨.ref C::us,q⟩)).depth=A.depth+1:=by first | rfl | simp[Around.under,Code.weight,Code.isCreation,Code.isGuard,Code.isCaller,Code.frames,Code.isFrame,guardIds]
def zhP{A:Ae}:(A.under (.builtin "type.__call__" ⟨.ref C::us,q⟩)).units=A.units+1:=by first | rfl | simp[Around.under,Code.cUnits,Code.frames,Code.isFrame]
def Room.make(r:Room (k+1) A)(C:Addr)(us:AN)(q:List (Str×Value)):Room k (A.under (.builtin "type.__call__" ⟨.ref C::us,q⟩)):=
 ⟨r.hd,by have:=r.dp;rw[zhO];lia,by have:=r.un;rw[zhP];lia⟩
def Room.depth(r:Room k A):A.depth<recursionLimit:=by have:=r.dp;lia
def Room.units(r:Room k A):A.units+64<cLine:=by have:=r.un;lia
def zqh:TA:=λ_ H Q=>Q [] H
def zbD (ta:TE)(q:TA):TA:=λσ H Q=>ta σ H λx H1=>q σ H1 λxs H2=>Q (x::xs) H2
section
variable {X:Cx}{e:Expr}{es:AO}{te:TE}{t:TA}{pos:Pos}
def zns:PA X [] zqh:=λ_ _ _ _ H Q I h=>Calls.spliced_nil ⟨[],H,I,.nil,h⟩
def zbe (q:PE X e te)(B:PA X es t)(hs:starEach (e::es) X.env=(false,eval e X.env)::starEach es X.env:=by rfl):PA X (e::es) (zbD te t):=by intro pos pins s σ H Q I h;rw[hs];change wpAny _ _ (spliced ((false,eval e X.env)::backTo pos (starEach es X.env))) _ _ s;show Calls.spliced_cons (thn (q pins s σ H _ I h)  ?_);rintro u F ⟨x,H1,I1,J,O⟩;exact thn (B pos pins F σ H1 _ I1 O) <| by rintro us Z ⟨xs,H2,I2,U,Y⟩;exact⟨x::xs,H2,I2,.cons J U,Y⟩
end
abbrev Sp:=AT->Hp->VK->XK->Prop
abbrev CXT:=List Env->Hp->AZ->XK->AA
structure Env0 (P:Aa)(w:Ab)(K:AH)(mg:AI)(base:Heap)(A:Ae)(outer:List Env)(s:AZ)(H:Hp):Prop where
 frames:A.frames=some outer
 mod:Mod K mg base
 bs:∀b o,base.get? b=some o->s.heap.get? b=some o/\H b=none
 bsz:base.objs.size<=s.heap.objs.size
 funs:s.heap.FunFrames base outer
 frf:∀b∈frs outer,H b=none
 hok:HOk P w H s.heap
 bare:AllBare s.gens
def CE (q:List Env)(P:Aa)(w:Ab)(H:Hp)(s:AZ)(Q:VK)(u:Value)(s':AZ):Prop:=
 ∃v H',s'.os=s.os/\AllBare s'.gens/\Un (frs q) [] H H' s.heap s'.heap/\HOk P w H' s'.heap/\yd v u/\Q v H'
def CR (CX:CXT)(q:List Env)(P:Aa)(w:Ab)(H:Hp)(s:AZ)(Q:VK)(E:XK)(r:Result)(s':AZ):Prop:=
 match r with
 | .ok (.ret u)=>CE q P w H s Q u s'
 | .ok _=>False
 | .error e=>CX q H s E e s'
structure FnOk (P:Aa)(w:Ab)(K:AH)(mg:AI)(base:Heap)(CX:CXT)(k:Nat)(f:Addr)(fd:Ac)(ps:AM)(sp:Sp):Prop where
 len:∀vs H Q E,sp vs H Q E->vs.length=ps.length
 run:∀ (A:Ae) (outer:List Env) (s:AZ) (H:Hp) (args:Args) (us:AN) (vs:AT) (Q:VK) (E:XK),Room k A->Env0 P w K mg base A outer s H->BindsTo s fd args (ps.zip us)->zT vs us->sp vs H Q E->
  codeAny (model P w) A (.call (.ref f) args) (CR CX outer P w H s Q E) s
def FnOk.mono{P:Aa}{w:Ab}{K:AH}{mg:AI}{base:Heap}{CX:CXT}{f:Addr}{fd:Ac}{ps:AM}(F:FnOk P w K mg base CX j f fd ps sp)(h:j<=k) :
  FnOk P w K mg base CX k f fd ps sp:=⟨F.len,λA q s H args us vs Q E B=>F.run A q s H args us vs Q E (B.mono h)⟩
def FnOk.imp{P:Aa}{w:Ab}{K:AH}{mg:AI}{base:Heap}{CX:CXT}{f:Addr}{fd:Ac}{ps:AM}{sp I:Sp}(F:FnOk P w K mg base CX k f fd ps sp)(h:∀vs H Q E,I vs H Q E->sp vs H Q E):FnOk P w K mg base CX k f fd ps I:=
 ⟨λvs H Q E q=>F.len vs H Q E (h _ _ _ _ q),λA B s H args us vs Q E J O U Y hs=>F.run A B s H args us vs Q E J O U Y (h _ _ _ _ hs)⟩
def Env0.make{P:Aa}{w:Ab}{K:AH}{mg:AI}{base:Heap}{A:Ae}{q:List Env}{s:AZ}(e:Env0 P w K mg base A q s H)(C:Addr)(us:AN)(B:List (Str×Value)) :
  Env0 P w K mg base (A.under (.builtin "type.__call__" ⟨.ref C::us,B⟩)) q s H:=⟨by first | exact e.frames | (simpa [Around.under,Code.envs,Code.isFrame,pushEnvs] using e.frames),e.mod,e.bs,e.bsz,e.funs,e.frf,e.hok,e.bare⟩
section
variable {X:Cx}{pins:AB}{σ:St}{H:Hp}{s s':AZ}
def Inv.env0 (I:Inv X pins σ H s):Env0 X.prog X.w X.K X.mg X.base X.A X.stack s H:=
 ⟨I.ok.frames,I.ok.mod,I.bs,aA I.ok.bsz I.sz,I.stack,I.stkFree,I.hok,I.bare⟩
def Inv.after(I:Inv X pins σ H s)(h:CE X.stack X.prog X.w H s Q u s'):EP X pins σ Q u s':=by obtain⟨v,H',O,B,U,F,r,q⟩:=h;obtain⟨Y,g,d,t,J⟩:=s';obtain rfl:J=s.os:=O;exact⟨v,H',I.call (h':=Y) (g':=g) (d':=d) (t':=t) (ch:=[]) U F B (λb z=>absurd z (by simp)),r,q⟩
end
def zcP (sp:Sp)(dvs:AT)(E:XK)(t:TA):TE:=λσ H Q=>t σ H λvs H1=>sp (vs++dvs) H1 Q E
def zs8 (C:Addr)(m:Str)(sp:Sp)(dvs:AT)(E:XK)(ta:TE)(t:TA):TE:=λσ H Q=>ta σ H λx H1=>∃a dx fs,x = .ref a/\H1 a=some (.ins C dx fs)/\fs.lookup m=none/\
 t σ H1 λvs H2=>sp (x::(vs++dvs)) H2 Q E
def zs7 (C:Addr)(sp:Sp)(dvs:AT)(E:XK)(t:TA):TE:=λσ H Q=>t σ H λvs H1=>∀x dx,H1 x=none->H1 dx=none->dx≠x->
 sp (.ref x::(vs++dvs)) (upd (upd H1 dx (.own x)) x (.ins C dx [])) (λv H2=>v = .non/\Q (.ref x) H2) E
def zac (K:AH)(fd:Ac)(ps:AM)(ds:AN):Prop:=
 ∀ (s:AZ) (us:AN),K.In s.heap->(us++ds).length=ps.length->BindsTo s fd ⟨us,[]⟩ (ps.zip (us++ds))
def zac.all {K:AH}{fd:Ac}{ps:AM}(h:∀us:AN,us.length=ps.length->bindArgs fd ⟨us,[]⟩=pure (ps.zip us)):zac K fd ps []:=λs us _ q=>by rw[cY] at q ⊢;exact .of_eq (h us q)
def zcV (CX:CXT)(X:Cx)(E:XK):Prop:=∀ (pins:AB) (σ:St) (H:Hp) (s:AZ) (e:Value) (s':AZ),Inv X pins σ H s->CX X.stack H s E e s'->X.xe e s'
section
variable {X:Cx}{CX:CXT}{k:Nat}{f C:Addr}{fd:Ac}{ps:AM}{sp:Sp}{dvs:AT}{ds:AN}{E:XK}{x m:Str}{p pos apos:Pos}{e o:Expr}{es:AO}{ta:TE}{t:TA}
def znG{pins:AB}{σ:St}{H:Hp}{s:AZ}{Q:VK}{vs:AT}(F:FnOk X.prog X.w X.K X.mg X.base CX k f fd ps sp)(J:Room k X.A)(O:zac X.K fd ps ds)(U:zT dvs ds)(Y:zcV CX X E)(I:Inv X pins σ H s)(r:zT vs us)(h:sp (vs++dvs) H Q E):Af X (call (.ref f) us) (EP X pins σ Q) X.xe s:=by
 have B:zT (vs++dvs) (us++ds):=r.append U;have Z:(us++ds).length=ps.length:=by rw[<- B.length];exact F.len _ _ _ _ h
 show wpAny_call (gf (F.run X.A X.stack s H ⟨us,[]⟩ (us++ds) (vs++dvs) Q E J I.env0 (O s us I.kIn Z) B h) λr s' q=>?_)
 cases r with
 | error e=>exact Y pins σ H s e s' I q
 | ok fl=>
  cases fl with
  | ret u=>exact I.after q
  | next=>exact False.elim q
  | brk=>exact False.elim q
  | cont=>exact False.elim q
def zgb (F:FnOk X.prog X.w X.K X.mg X.base CX k f fd ps sp)(O:Room k X.A)(U:Gl X x)(Y:X.mg x=some (.ref f))(Z:PySem.W.keepIn X.K (.ref f)=true)(hb:zac X.K fd ps ds)(hd:zT dvs ds)(hx:zcV CX X E)
  (ha:PA X (e::es) t) (B:Ah x:=by ext) (he:starEach (e::es) X.env=(false,eval e X.env)::starEach es X.env:=by rfl) (J:(backTo pos (starEach es X.env)).any (·.1)=false:=by rfl) :
  PE X (.Call (.Name x p) (e::es) [] pos) (zcP sp dvs E t):=by
 intro pins s σ H Q I h;show dP (zjz I U Y ?_ B);show fj (h₀:=X.base) I.ok.mod.kin Z (thn (ha pos pins s σ H _ I h) λus s1 ⟨vs,H1,I1,r,q⟩=>⟨I1.kIn,?_⟩) he J;exact znG F O hb hd hx I1 r q
def zpg {pl:Sem Bool}(he:PE X o ta)(c:Cls X.K C)(hm:Meth X.K C m f)(F:FnOk X.prog X.w X.K X.mg X.base CX k f fd ps sp)(hr:Room k X.A)(hb:zac X.K fd ps ds)(hd:zT dvs ds)(hx:zcV CX X E)(ha:PA X (e::es) t)
  (hst:starEach (e::es) X.env=(false,eval e X.env)::starEach es X.env:=by rfl) (hpl:(backTo pos (starEach es X.env)).any (·.1)=false:=by rfl)
  (ht:eval (.Call (.Attribute o m apos) (e::es) [] pos) X.env=(do
   let ov <- eval o X.env
   standAt apos.atName
   let (f,first) <- holding [ov] (getMethod ov m pl)
   callWith pos f first (backTo pos (starEach (e::es) X.env)) (backToKw pos (keywordEach [] X.env))):=by rfl) :
  PE X (.Call (.Attribute o m apos) (e::es) [] pos) (zs8 C m sp dvs E ta t):=by
 intro pins s σ H Q I h;show PySem.W.methodCall_KW (pl:=pl) (thn (he pins s σ H _ I h) λu s1 ⟨x,H1,I1,rx,a,dx,fs,ex,ea,l,q⟩=>?_) ht;subst ex;obtain rfl:u=Value.ref a:=rx;show zhJ I1 ea c hm l ?_;show fj (first:=[.ref a]) (h₀:=X.base) I.ok.mod.kin hm.kp (thn (ha pos pins s1 σ H1 _ I1 q) λus s2 ⟨vs,H2,I2,r,q2⟩=>⟨I2.kIn,?_⟩) hst hpl;exact znG (us:=.ref a::us) (vs:=.ref a::vs) F hr hb hd hx I2 (.cons rfl r) q2
structure Mk (K:AH)(C f:Addr):Prop where
 makes:PySem.W.makesIn K C=true
 init:PySem.W.findIn K (.ref C) "__init__" = some (some (.ref f))
 fn:PySem.W.isFn K (.ref f)=true
 kp:PySem.W.keepIn K (.ref C)=true
def zmB{pins:AB}{σ:St}{H:Hp}{s:AZ}{Q:VK}{vs:AT}(M:Mk X.K C f)(F:FnOk X.prog X.w X.K X.mg X.base CX k f fd ps sp)(O:Room (k+1) X.A)(U:zac X.K fd ps ds)(Y:zT dvs ds)(Z:zcV CX X E)(I:Inv X pins σ H s)(r:zT vs us)(h:∀x dx,H x=none->H dx=none->dx≠x->sp (.ref x::(vs++dvs)) (upd (upd H dx (.own x)) x (.ins C dx [])) (λv H2=>v = .non/\Q (.ref x) H2) E) :
  Af X (call (.ref C) us) (EP X pins σ Q) X.xe s:=by
 have B:=h (s.heap.objs.size+1) s.heap.objs.size (I.hok.fresh (Nat.le_succ _)) (I.hok.fresh (ak _)) (aV (eE _));have I2:=Inv.made (C:=C) I;have J:zT (V.ref (s.heap.objs.size+1)::(vs++dvs)) (Value.ref (s.heap.objs.size+1)::(us++ds)):=.cons rfl (r.append Y);have hl:(Value.ref (s.heap.objs.size+1)::us++ds).length=ps.length:=by have e:=J.length;rw[F.len _ _ _ _ B] at e;exact e.symm
 show wpAny_call (zlX (f:=f) I.kIn M.makes M.init (beq_iff_eq.mp M.fn) (gf (F.run _ X.stack _ _ ⟨Value.ref (s.heap.objs.size+1)::us,[]⟩ (Value.ref (s.heap.objs.size+1)::(us++ds)) _ _ E (O.make C us [])
  (I2.env0.make C us []) (U _ (Value.ref (s.heap.objs.size+1)::us) I2.kIn hl) J B) λr s' q=>?_))
 cases r with
 | error e=>exact Z pins σ _ _ e s' I2 q
 | ok fl=>
  cases fl with
  | ret u=>
   obtain⟨v,H',I3,rv,ev,q3⟩:=I2.after q;subst ev;exact⟨rv,⟨V.ref (s.heap.objs.size+1),H',I3,rfl,q3⟩⟩
  | next=>exact False.elim q
  | brk=>exact False.elim q
  | cont=>exact False.elim q
def zpf (M:Mk X.K C f)(F:FnOk X.prog X.w X.K X.mg X.base CX k f fd ps sp)(O:Room (k+1) X.A)(U:Gl X x)(Y:X.mg x=some (.ref C))(Z:zac X.K fd ps ds)(hd:zT dvs ds)(hx:zcV CX X E)
  (ha:PA X (e::es) t) (B:Ah x:=by ext) (he:starEach (e::es) X.env=(false,eval e X.env)::starEach es X.env:=by rfl) (J:(backTo pos (starEach es X.env)).any (·.1)=false:=by rfl) :
  PE X (.Call (.Name x p) (e::es) [] pos) (zs7 C sp dvs E t):=by
 intro pins s σ H Q I h;show dP (zjz I U Y ?_ B);show fj (h₀:=X.base) I.ok.mod.kin M.kp (thn (ha pos pins s σ H _ I h) λus s1 ⟨vs,H1,I1,r,q⟩=>⟨I1.kIn,?_⟩) he J;exact zmB M F O Z hd hx I1 r q
variable {ks:AM}{kpos:Pos}{kws:List Keyword}{te:TE}{tk:TA}{nm:Option Str}
variable {g:AN->AN->AN}{gV:AT->AT->AT}
end
structure FnScope (N P:AM)(sc:Scope):Prop where
 kind:sc.kind = .function
 co:sc.isCoroutine=false
 gen:sc.isGenerator=false
 nd:N.Nodup
 pre:N.take P.length=P
 par:∀x∈P,sc.names.lookup x=some .local\/sc.names.lookup x=some .cell
 nofree:∀y∈sc.names,y.2≠.free
def zeB {B:Str->Option NameKind}{x:Str}:∀ {q:List (Str×Value)} {m:AI},(∀v,(x,v)∉q)->bindL B q m x=m x
 | [],_,_=>rfl
 | (n,v)::r,m,h=>by
  unfold bindL;rw[zeB λw F=>h w (ar _ F)];split
  all_goals grind
def zez {B:Str->Option NameKind}{x:Str}:∀ {q:List (Str×Value)} {m:AI},(∀v,(x,v)∉q)->bindC B q m x=m x
 | [],_,_=>rfl
 | (n,v)::r,m,h=>by
  unfold bindC;rw[zez λw F=>h w (ar _ F)];split
  all_goals grind
def zeA {q:Str->Option NameKind}{x:Str}{v:Value}:∀ {P:AM} {vs:AN} {i:Nat} {m:AI},P.Nodup->P[i]?=some x->vs[i]?=some v->q x=some .local->
  bindL q (P.zip vs) m x=some v
 | [],_,_,_,_,h,_,_=>by simp at h
 | _::_,[],_,_,_,_,h,_=>by simp at h
 | p::P,w::vs,0,m,B,h1,h2,F=>by simp at h1 h2;subst h1;subst h2;change bindL q ((p,w)::P.zip vs) m p=_;unfold bindL;rw[zeB λv I=>(cZ.mp B).1 (eQ I).1,if_pos F];simp
 | p::P,w::vs,i+1,m,B,h1,h2,F=>by change bindL q ((p,w)::P.zip vs) m x=_;unfold bindL;exact zeA (i:=i) (cZ.mp B).2 (by simpa using h1) (by simpa using h2) F
def zey {q:Str->Option NameKind}{x:Str}{v:Value}:∀ {P:AM} {vs:AN} {i:Nat} {m:AI},P.Nodup->P[i]?=some x->vs[i]?=some v->q x≠some .local->
  bindC q (P.zip vs) m x=some v
 | [],_,_,_,_,h,_,_=>by simp at h
 | _::_,[],_,_,_,_,h,_=>by simp at h
 | p::P,w::vs,0,m,B,h1,h2,F=>by simp at h1 h2;subst h1;subst h2;change bindC q ((p,w)::P.zip vs) m p=_;unfold bindC;rw[zez λv I=>(cZ.mp B).1 (eQ I).1,if_neg F];simp
 | p::P,w::vs,i+1,m,B,h1,h2,F=>by change bindC q ((p,w)::P.zip vs) m x=_;unfold bindC;exact zey (i:=i) (cZ.mp B).2 (by simpa using h1) (by simpa using h2) F
def xn (N:AM)(vs:AT):St:=vs.map some++List.replicate (N.length - vs.length) none
def zes (CX:CXT)(P:Aa)(w:Ab)(K:AH)(mg:AI)(base:Heap)(N:AM)(qual:Str)(scope:Scope)(f:Addr)(cd:Value)(A:Ae)(outer:List Env)(s:AZ)(H:Hp)(E:XK):Cx where
 prog:=P
 w:=w
 K:=K
 mg:=mg
 base:=base
 A:=A.deeper (envOfC qual scope s.heap.objs.size f cd)
 N:=N
 s₀:=s
 H₀:=H
 env:=envOfC qual scope s.heap.objs.size f cd
 outer:=outer
 stack:=envOfC qual scope s.heap.objs.size f cd::outer
 ex:=[]
 calm:=true
 fn:=λ_=>true
 pn:=[]
 xe:=λe s'=>wpAny (model P w) (A.deeper (envOfC qual scope s.heap.objs.size f cd)) (leaving (envOfC qual scope s.heap.objs.size f cd) e) (λ_ s''=>CX outer H s E e s'') (λe' s''=>CX outer H s E e' s'') s'
def zgC{B:Scope}(h:B.names.lookup x=some .cell):∃c,(cellsFrom n B.names []).lookup x=some c:=by have q:=PySem.W.cellsFrom_some B.names n [] (.inl h);exact Option.isSome_iff_exists.mp q
def zjf{CX:CXT}{P:Aa}{w:Ab}{K:AH}{mg:AI}{base:Heap}{N ps:AM}{F:Str}{scope:Scope}{f:Addr}{Z:Value}{A:Ae}{B:List Env}{s s1:AZ}{H:Hp}{E:XK}{vs:AT}(S:FnScope N ps scope)(hd:A.handled=none)(I:Env0 P w K mg base A B s H)(hl:vs.length=ps.length)(r:zT vs us)(x:InCallC s s.heap.objs.size (bindL (envOfC F scope s.heap.objs.size f Z).kindOf (ps.zip us) λ_=>none) (cellsFrom (s.heap.objs.size+1) scope.names []) (bindC (envOfC F scope s.heap.objs.size f Z).kindOf (ps.zip us) λ_=>none) s1) :
  Inv (zes CX P w K mg base N F scope f Z A B s H E) [] (xn N vs) H s1:=by
 have aa:ps.length<=N.length:=by have:=congrArg List.length S.pre;rw[bm] at this;lia
 obtain⟨h1,tk,rfl,hk⟩:=x.done;have J:∀b:Addr,b∉(zes CX P w K mg base N F scope f Z A B s H E).ex:=λb z=>absurd (show b∈([]:AY) from z) (by simp)
 show⟨⟨I.mod,S.kind,rfl,rfl,ak _,λy z c h1 h2=>?_,λy O=>?_,λy c _ h=>?_,λ_=>hd,Around.frames_deeper I.frames,.inr ⟨rfl,rfl⟩,λb z=>absurd z (J b),I.bs,I.bsz,λb _ _=>J b,λb z=>absurd z (J b),I.funs,I.frf⟩,
  rfl,I.bare,Un.kept hk,⟨_,x.toInCall.ns,λi y v h1 h2 h3=>?_⟩,λy c h=>⟨_,x.cell y c h⟩,I.hok.fresh (ak _),λy c h=>?_,λp U=>absurd (show p∈([]:AB) from U) (by simp),I.hok.kept hk,?_⟩
 exact name_of_addr x.apart (db h1) (db h2);have O:scope.names.lookup y=some .cell\/scope.names.lookup y=some .free:=O;rcases O with O | O;exact zgC O;exact absurd rfl (S.nofree _ (db O));exact cH (x.above y c (db h))
 have hi:i<vs.length:=by
  unfold xn at h2;by_cases hi:i<vs.length;exact hi;rw[bp (by simpa using hi)] at h2;rw[List.getElem?_replicate] at h2;right
 have ha:vs[i]?=some v:=by
  unfold xn at h2;rw[bD (by simpa using hi),aN] at h2;right
 obtain⟨u,hu,rv⟩:=r.get ha;have U:ps[i]?=some y:=by rw[<- S.pre,bZ (by lia)];exact h1
 have Y:ps.Nodup:=by rw[<- S.pre];exact S.nd.sublist (cj _ _)
 show⟨u,rv,?_⟩;rcases S.par y (aJ U) with k | k;exact .inl ⟨k,zeA Y U hu k⟩;obtain⟨c,e⟩:=zgC (n:=s.heap.objs.size+1) k;show .inr ⟨.inl k,c,e,?_⟩;have q:=x.cell y c e;rw[zey Y U hu (by change scope.names.lookup y≠_;rw[k];decide)] at q;exact q;exact I.hok.fresh (cH (x.above y c (db h)));unfold xn;change _=N.length;grind
def zrg{CX:CXT}{P:Aa}{w:Ab}{K:AH}{mg:AI}{base:Heap}{f:Addr}{name F:Str}{U:Arguments}{body:List Stmt}{scope:Scope}{dV kV ab pm O ct oc:Value}{an od:Option Addr}{N ps:AM}{sp:Sp}(lk:K.lookup f=some ⟨oc,od,.func (PySem.W.fnOf name F U body scope dV kV ab pm an O ct),ag⟩)(al:PySem.W.codeIn K O F=true)(S:FnScope N ps scope)(ac:∀vs H Q E,sp vs H Q E->vs.length=ps.length)(Z:∀ (A:Ae) (B:List Env) (s:AZ) (H:Hp) (vs:AT) (Q:VK) (E:XK),Room k (A.deeper (envOfC F scope s.heap.objs.size f O))->sp vs H Q E->
   ∃t,PSs (zes CX P w K mg base N F scope f O A B s H E) body t/\t { nx:=λ_ H'=>Q .non H',rt:=Q } (xn N vs) H) :
  FnOk P w K mg base CX (k+1) f (PySem.W.fnOf name F U body scope dV kV ab pm an O ct) ps sp:=by
 show⟨ac,λA B s H args us vs Q E hr e0 hb r ad=>?_⟩;have hl:=ac _ _ _ _ ad;have KX:K.In s.heap:=e0.mod.kin.keeps λb o e=>(e0.bs b o e).1;have lim:s.heap.NoLimit:=e0.mod.nolimit.keeps λb o e=>(e0.bs b o e).1
 have aa:∀y∈ps.zip us,scope.names.lookup y.1=some .local\/(scope.names.lookup y.1=some .cell/\((cellsFrom (s.heap.objs.size+1) scope.names []).lookup y.1).isSome=true):=by
  rintro⟨n,v⟩ hy;rcases S.par n (eQ hy).1 with q | q;exact .inl q;exact .inr ⟨q,PySem.W.cellsFrom_some _ _ _ (.inl q)⟩
 show codeAny_call_function hr.depth (KX _ _ lk) rfl S.co S.gen rfl (PySem.W.codeRec_of KX al) (hb _ _ _ _ ?_);show wpAny_newFunctionEnv_cells S.kind aa λenv he s1 x=>?_;subst he;show⟨lim.keeps x.toInCall.keep,codeAny_func ?_⟩;obtain⟨t,ht,hq⟩:=Z A B s H vs Q E (hr.deeper _) ad;have I:Inv (zes CX P w K mg base N F scope f O A B s H E) [] (xn N vs) H s1:=zjf S hr.hd e0 hl r x;show bH (ht [] s1 (xn N vs) H _ I hq) (λfl s' hs=>?_) λe s' hs=>hs
 have fin:∀ {Y:St} {H':Hp} {v:V} {u:Value},Inv (zes CX P w K mg base N F scope f O A B s H E) [] Y H' s'->yd v u->Q v H'->CE B P w H s Q u s':=
  λ{Y H' v u} J rv q=>⟨v,H',J.os,J.bare,J.base,J.hok,rv,q⟩
 cases fl with
 | ret u=>
  obtain⟨v,Y,H',J,rv,q⟩:=hs;exact fin J rv q
 | next=>
  obtain⟨Y,H',J,q⟩:=hs;exact fin (v:=V.non) (u:=Value.none) J rfl q
 | brk=>
  obtain⟨_,_,_,q⟩:=hs;exact False.elim q
 | cont=>
  obtain⟨_,_,_,q⟩:=hs;exact False.elim q
section
variable {X:Cx}{x:Str}{p pos:Pos}{e:Expr}{es:AO}{t:TA}{id T:String}{r:AT->Hp->VK->Prop}
def tCB (r:AT->Hp->VK->Prop)(t:TA):TE:=λσ H Q=>t σ H λvs H1=>r vs H1 Q
def zme (F:zdn X (.builtin id) r)(J:Gl X x)(O:X.mg x=none)(U:bootBuiltins x=some (.builtin id))(Y:PA X (e::es) t)(hn:x ≠ "__name__" := by ext)(q:Ah x:=by ext)
  (Z:starEach (e::es) X.env=(false,eval e X.env)::starEach es X.env:=by rfl) (B:(backTo pos (starEach es X.env)).any (·.1)=false:=by rfl):PE X (.Call (.Name x p) (e::es) [] pos) (tCB r t):=by
 intro pins s σ H Q I h;show dP (zeZ I J O U ?_ hn q);exact PyProof.Rows.callWith_builtin1 (thn (Y pos pins s σ H _ I h) <| by rintro us s1 ⟨vs,H1,I1,r1,q1⟩;exact F pins s1 σ H1 vs us Q I1 r1 q1) Z B
def zj6 (F:zdn X (.type T) r)(J:Gl X x)(O:X.mg x=none)(U:bootBuiltins x=some (.type T))(Y:PA X (e::es) t)(hn:x ≠ "__name__" := by ext)(q:Ah x:=by ext)
  (Z:starEach (e::es) X.env=(false,eval e X.env)::starEach es X.env:=by rfl) (B:(backTo pos (starEach es X.env)).any (·.1)=false:=by rfl):PE X (.Call (.Name x p) (e::es) [] pos) (tCB r t):=by
 intro pins s σ H Q I h;show dP (zeZ I J O U ?_ hn q);exact di (thn (Y pos pins s σ H _ I h) <| by rintro us s1 ⟨vs,H1,I1,r1,q1⟩;exact F pins s1 σ H1 vs us Q I1 r1 q1) Z B
end
section
variable {κ:Type}[DecidableEq κ]
def xE (kvs:List (κ×V))(k:κ):Option V:=(kvs.find? λkv=>decide (kv.1=k)).map (·.2)
def uU (kvs:List (κ×V))(k:κ)(v:V):List (κ×V):=
 if (kvs.any λkv=>decide (kv.1=k))=true then kvs.map (λkv=>if kv.1=k then (kv.1,v) else kv) else kvs++[(k,v)]
def z6{p:κ×V}(e:p.1=k):xE (p::r) k=some p.2:=by simp[xE,cq,e]
def z5{p:κ×V}{r:List (κ×V)}(e:¬ p.1=k):xE (p::r) k=xE r k:=by simp[xE,cq,e]
def zaX (k:κ):∀kvs:List (κ×V),(kvs.any λkv=>decide (kv.1=k))=(xE kvs k).isSome
 | []=>rfl
 | p::r=>by
  rw[cR];by_cases e:p.1=k;simp only[z6 e,bi e,Bool.true_or,Option.isSome_some];rw[z5 e,a8 e,Bool.false_or];exact zaX k r
def zhw (k j:κ)(y:V):∀kvs:List (κ×V),xE (kvs.map λkv=>if kv.1=k then (kv.1,y) else kv) j=(xE kvs j).map λx=>if j=k then y else x
 | []=>rfl
 | p::r=>by
  have q:=zhw k j y r;rw[aB];by_cases h:p.1=k;rw[if_pos h];by_cases e:p.1=j;rw[z6 (p:=(p.1,y)) e,z6 e,Option.map_some,if_pos (e.symm.trans h)];rw[z5 (p:=(p.1,y)) e,z5 e,q];rw[if_neg h];by_cases e:p.1=j;rw[z6 (p:=p) e,z6 e,Option.map_some,if_neg (λz=>h (e.trans z))];rw[z5 (p:=p) e,z5 e,q]
def zfr (k j:κ)(y:V):∀kvs:List (κ×V),xE kvs k=none->xE (kvs++[(k,y)]) j=if j=k then some y else xE kvs j
 | [],_=>by
  by_cases e:k=j;rw[if_pos e.symm];exact z6 (p:=(k,y)) e;rw[if_neg (λz=>e z.symm)];exact z5 (p:=(k,y)) e
 | p::r,hn=>by
  rw[eF];have q:¬ p.1=k:=λz=>by rw[z6 z] at hn;cases hn
  rw[z5 q] at hn;have B:=zfr k j y r hn;by_cases e:p.1=j;rw[z6 e,z6 e,if_neg (λz=>q (e.trans z))];rw[z5 e,z5 e,B]
def zmX (kvs:List (κ×V))(k j:κ)(y:V):xE (uU kvs k y) j=if j=k then some y else xE kvs j:=by
 unfold uU;by_cases a:(kvs.any λkv=>decide (kv.1=k))=true;rw[if_pos a,zhw];rw[zaX] at a;by_cases e:j=k;obtain⟨x,q⟩:=Option.isSome_iff_exists.mp a;grind;right;rw[if_neg a];show zfr k j y kvs ?_;rw[zaX] at a;right
def xc (kvs:List (κ×V))(k:κ)(v:V):(uU kvs k v).length<=kvs.length+1:=by
 unfold uU;split
 all_goals right
def zml {kvs:List (κ×V)}{k:κ}(v:V)(h:xE kvs k=none):uU kvs k v=kvs++[(k,v)]:=by
 unfold uU;rw[zaX,h];right
def zfv.isSome_eq(r:zfv o u):o.isSome=u.isSome:=by
 cases o with
 | none=>cases u with
  | none=>rfl
  | some _=>exact (show False from r).elim
 | some _=>cases u with
  | none=>exact (show False from r).elim
  | some _=>rfl
def KV.val(r:KV kvs vs)(k:κ):zfv (xE kvs k) (valueAt vs k):=by
 unfold KV at r
 induction r with
 | nil=>exact True.intro
 | @cons p q ps B h t I=>
  obtain⟨h1,h2⟩:=h;by_cases e:p.1=k;have F:q.1=k:=h1.symm.trans e;have b:valueAt (q::B) k=some q.2:=by simp[valueAt,cq,F]
  rw[z6 e,b];exact h2;have F:¬ q.1=k:=λz=>e (h1.trans z);have b:valueAt (q::B) k=valueAt B k:=by simp[valueAt,cq,F]
  rw[z5 e,b];exact I
def KV.any(r:KV kvs vs)(k:κ):(kvs.any λkv=>decide (kv.1=k))=vs.any λkv=>decide (kv.1=k):=by
 unfold KV at r
 induction r with
 | nil=>rfl
 | cons h t q=>rw[cR,cR,q,h.1]
def KV.repl {kvs:List (κ×V)}{vs:List (κ×Value)}(r:KV kvs vs)(k:κ){y:V}{u:Value}(F:yd y u) :
  KV (kvs.map λkv=>if kv.1=k then (kv.1,y) else kv) (vs.map λkv=>if kv.1=k then (kv.1,u) else kv):=by
 unfold KV at r ⊢
 induction r with
 | nil=>exact .nil
 | @cons p q ps I h t B=>
  rw[aB,aB];show .cons ?_ B;grind
def KV.put(r:KV kvs vs)(k:κ)(q:yd y u):KV (uU kvs k y) (stored vs k u):=by
 unfold uU stored;rw[r.any k];by_cases e:(vs.any λkv=>decide (kv.1=k))=true;rw[if_pos e,if_pos e];exact r.repl k q;rw[if_neg e,if_neg e];exact Paired.snoc r ⟨rfl,q⟩
def KV.length {kvs:List (κ×V)}{vs:List (κ×Value)}(r:KV kvs vs):kvs.length=vs.length:=fT r
end
def zhM(r:yd (kV k) u):(zS P w).is k u=true:=by
 cases k with
 | inl i=>obtain⟨t,e⟩:=(show ∃t,u=Value.int i t from r);subst e;exact zf4 P w i t
 | inr x=>obtain⟨t,e⟩:=(show ∃t,u=Value.str x t from r);subst e;exact zf5 P w x t
def zeR:∀ {ks:List Key} {us:AN},zT (ks.map kV) us->ItemsAre (zS P w) ks us
 | [],_,r=>by rw[et] at r;cases r;exact .nil
 | k::ks,_,r=>by
  rw[aB] at r
  cases r with
  | cons h t=>exact .cons (zhM h) (zeR t)
abbrev KT (H:Hp):List (List Key×V)->List (List Key×Addr×Value)->Prop:=Paired λp q=>p.1=q.1/\H q.2.1=some (.tup (p.1.map kV))/\yd p.2 q.2.2
def KT.val(r:KT H kvs xs)(k:List Key):zfv (xE kvs k) ((atKey xs k).map (·.2)):=by
 induction r with
 | nil=>exact True.intro
 | @cons p q ps B h t I=>
  obtain⟨h1,_,h2⟩:=h;by_cases e:p.1=k;have F:q.1=k:=h1.symm.trans e;have b:atKey (q::B) k=some q.2:=by simp[atKey,cq,F]
  rw[z6 e,b];exact h2;have F:¬ q.1=k:=λz=>e (h1.trans z);have b:atKey (q::B) k=atKey B k:=by simp[atKey,cq,F]
  rw[z5 e,b];exact I
def KT.repl(r:KT H kvs xs)(k:List Key)(F:yd y u) :
  KT H (kvs.map λkv=>if kv.1=k then (kv.1,y) else kv) (xs.map (putAt k u)):=by
 induction r with
 | nil=>exact .nil
 | @cons p q ps I h t B=>
  rw[aB,aB];show .cons ?_ B;obtain⟨h1,h2,J⟩:=h;unfold putAt;by_cases e:p.1=k
  all_goals right
def KT.put(r:KT H kvs xs)(k:List Key)(F:H b=some (.tup (k.map kV)))(B:yd y u) :
  KT H (uU kvs k y) (storedH xs k b u):=by
 have e:(kvs.any λkv=>decide (kv.1=k))=(atKey xs k).isSome:=by rw[zaX,(r.val k).isSome_eq,fK]
 unfold uU storedH;rw[e];by_cases q:(atKey xs k).isSome=true;rw[if_pos q,if_pos q];exact r.repl k B;rw[if_neg q,if_neg q];exact Paired.snoc r ⟨rfl,F,B⟩
def KT.keeps(r:KT H kvs xs)(q:∀b ys,H b=some (.tup ys)->H' b=some (.tup ys)):KT H' kvs xs:=
 Paired.mapP r λ_ _ z=>⟨z.1,q _ _ z.2.1,z.2.2⟩
section
variable {P:Aa}{w:Ab}{H:Hp}{h:Heap}{a:Addr}
def zpQ(q:HOk P w H h)(e:Rd H a u):ya P w H h a u:=e.ok q
def zls(q:HOk P w H h)(e:Rd H a (.dK kvs)):kvs.length<=sizeLine/\(a==sysModules)=false/\∃vs,KV kvs vs/\h.DictOf (zS P w) a vs:=
 show ya P w H h a (.dK kvs) from zpQ q e
def zn5(q:HOk P w H h)(e:H a=some (.dK kvs)):kvs.length<=sizeLine/\(a==sysModules)=false/\∃vs,KV kvs vs/\h.DictOf (zS P w) a vs:=zls q (.inl e)
def zeW(B:HOk P w H h)(e:H a=some (.tup (ks.map kV))):(tupleKind (zS P w)).is h ks a:=by obtain⟨_,q,r,o,h1,h2,⟨n,F⟩,_⟩:=(show ya P w H h a (.tup (ks.map kV)) from B a _ e);exact⟨o,q.toArray,n,h1,h2,F,by simpa using zeR r⟩
def zlu(F:HOk P w H h)(e:Rd H a (.dT kvs)):kvs.length<=sizeLine/\(a==sysModules)=false/\
  ∃xs,KT H kvs xs/\h.DictOfH (tupleKind (zS P w)) a xs:=by
 obtain⟨z,y,xs,r,o,es,I,h1,h2,J,O,U⟩:=(show ya P w H h a (.dT kvs) from zpQ F e);show⟨z,y,xs,r,o,es,I,h1,h2,J,O,λx B=>?_,U⟩
 have all:∀ {l:List (List Key×V)} {m:List (List Key×Addr×Value)},KT H l m->∀x∈m,(tupleKind (zS P w)).is h x.1 x.2.1:=by
  intro l m q
  induction q with
  | nil=>intro x B;exact nomatch B
  | @cons p q ps Z hq t Y=>
   intro x B;rcases aG.mp B with e | B;subst e;exact zeW F (by right);exact Y x B
 exact all r x B
def zq7(q:HOk P w H h)(e:H a=some (.dT kvs)):kvs.length<=sizeLine/\(a==sysModules)=false/\
  ∃xs,KT H kvs xs/\h.DictOfH (tupleKind (zS P w)) a xs:=zlu q (.inl e)
end
def zbu (H:Hp)(a:Addr)(y:V)(r:Option V):Prop:=
 (∃kvs k,Rd H a (.dK kvs)/\y=kV k/\r=xE kvs k)\/∃kvs k b,Rd H a (.dT kvs)/\y = .ref b/\H b=some (.tup (k.map kV))/\r=xE kvs k
def zeq (H:Hp)(a:Addr)(y v:V)(H':Hp):Prop:=
 (∃kvs k,H a=some (.dK kvs)/\y=kV k/\kvs.length<sizeLine/\H'=upd H a (.dK (uU kvs k v)))\/
 ∃kvs k b,H a=some (.dT kvs)/\y = .ref b/\H b=some (.tup (k.map kV))/\kvs.length<sizeLine/\H'=upd H a (.dT (uU kvs k v))
def zbu.k {H:Hp}{a:Addr}{kvs:List (Key×V)}{k:Key}(e:H a=some (.dK kvs)):zbu H a (kV k) (xE kvs k):=.inl ⟨kvs,k,.inl e,rfl,rfl⟩
def zbu.t {H:Hp}{a b:Addr}{kvs:List (List Key×V)}{k:List Key}(e:H a=some (.dT kvs))(q:H b=some (.tup (k.map kV))):zbu H a (.ref b) (xE kvs k):=.inr ⟨kvs,k,b,.inl e,rfl,q,rfl⟩
def zeq.k {H:Hp}{a:Addr}{kvs:List (Key×V)}{k:Key}{v:V}(e:H a=some (.dK kvs))(q:kvs.length<sizeLine):zeq H a (kV k) v (upd H a (.dK (uU kvs k v))):=.inl ⟨kvs,k,e,rfl,q,rfl⟩
def zeq.t {H:Hp}{a b:Addr}{kvs:List (List Key×V)}{k:List Key}{v:V}(e:H a=some (.dT kvs))(q:H b=some (.tup (k.map kV)))(B:kvs.length<sizeLine) :
  zeq H a (.ref b) v (upd H a (.dT (uU kvs k v))):=.inr ⟨kvs,k,b,e,rfl,q,B,rfl⟩
section
variable {X:Cx}{pins:AB}{σ:St}{H:Hp}{s:AZ}{a:Addr}{y v:V}{u r:Value}{o:Option V}{A:Ae}{E:AA}
def Inv.big (I:Inv X pins σ H s):sysModules<s.heap.objs.size:=by have h:mainGlobals<s.heap.objs.size:=(I.mod.glob.keeps I.bk).lt;exact Nat.lt_trans (by ext) h
def ziL(Y:A.units+1<cLine)(I:Inv X pins σ H s)(g:zbu H a y (some v))(U:yd y u)(h:∀w' s',Inv X pins σ H s'->yd v w'->Q w' s') :
  wpAny (model X.prog X.w) A (getItem (.ref a) u) Q E s:=by
 rcases g with ⟨kvs,k,e,ey,l⟩ | ⟨kvs,k,b,e,ey,eb,l⟩;subst ey;obtain⟨z,Z,vs,q,F⟩:=zls I.hok e;obtain⟨w',J,B⟩:=zfv.some_of (v:=v) (o:=valueAt vs k) (by rw[l];exact q.val k);exact wpAny_getItem_of (zhM U) F.mapOf J (h w' _ (I.tok _) B);subst ey;cases (show u=Value.ref b from U);obtain⟨z,Z,xs,q,F⟩:=zlu I.hok e;obtain⟨w',J,B⟩:=zfv.some_of (v:=v) (o:=(atKey xs k).map (·.2)) (by rw[l];exact q.val k);obtain⟨p,hp,O⟩:=aL.mp J;show wpAny_getItem_heap (fm Y) (zeW I.hok eb) F hp ?_;rw[O];exact h w' _ (I.tok _) B
def zn4(U:A.units+1<cLine)(I:Inv X pins σ H s)(g:zbu H a y o)(O:yd y u)(h:∀s',Inv X pins σ H s'->Q (.bool (!o.isSome)) s') :
  wpAny (model X.prog X.w) A (compareOp .NotIn u (.ref a)) Q E s:=by
 rcases g with ⟨kvs,k,e,ey,l⟩ | ⟨kvs,k,b,e,ey,eb,l⟩;subst ey;obtain⟨z,F,vs,B,J⟩:=zls I.hok e;show wpAny_notIn_of (zhM O) F J.mapOf ?_;rw[<- (B.val k).isSome_eq,<- l];exact h _ (I.tok _);subst ey;cases (show u=Value.ref b from O);obtain⟨z,F,xs,B,J⟩:=zlu I.hok e;show wpAny_notIn_heap (fm U) (zeW I.hok eb) F J ?_;have q:=(B.val k).isSome_eq;rw[fK] at q;rw[<- q,<- l];exact h _ (I.tok _)
def zbX(I:Inv X pins σ H s)(F:Mut (H a))(hs:Heap.SameBut a s.heap h')(J:∃q,h'.get? a=some q)(B:ya X.prog X.w (upd H a ob) h' a ob) :
  Inv X pins σ (upd H a ob) { s with heap:=h',toks:=t' }:=
 I.write (x:=a) (e:=a) F (.inl rfl) (λb q O z=>(hs.2 b O).trans z) J B
def ziR(z:kvs.length<=sizeLine)(B:(a==sysModules)=false)(q:KV kvs vs)(F:h'.DictOf (zS P w) a vs) :
  ya P w H' h' a (.dK kvs):=⟨z,B,vs,q,F⟩
def ziM(hu:A.units+1<cLine)(I:Inv X pins σ H s)(g:zeq H a y v H')(ry:yd y u)(rv:yd v r)(h:∀s',Inv X pins σ H' s'->Q () s') :
  wpAny (model X.prog X.w) A (setItem (.ref a) u r) Q E s:=by
 rcases g with ⟨kvs,k,e,ey,l,eH⟩ | ⟨kvs,k,b,e,ey,eb,l,eH⟩;subst ey eH;obtain⟨z,O,vs,B,U⟩:=zn5 I.hok e;have Y:vs.length<=sizeLine:=by rw[<- B.length];exact z
 have Z:(uU kvs k v).length<=sizeLine:=by have:=xc kvs k v;lia
 show wpAny_setItem_pairs (hsz:=Y) (zhM ry) U λh' F hs=>h _ ?_;have he:∃q,h'.get? a=some q:=let ⟨q,_,_,J,_⟩:=F;⟨q,J⟩;exact zbX I (by rw[e];exact True.intro) hs he (ziR Z O (B.put k rv) F);subst ey eH;cases (show u=Value.ref b from ry);obtain⟨z,O,xs,B,U⟩:=zq7 I.hok e;have Y:xs.length<=sizeLine:=by rw[<- fT B];exact z
 have Z:(uU kvs k v).length<=sizeLine:=by have:=xc kvs k v;lia
 show wpAny_setItem_heap (hsz:=Y) (fm hu) (zeW I.hok eb) U λh' F hs=>h _ ?_;obtain⟨q,es,ep,J,h2,h3,h4,_,h5⟩:=F;show zbX I (by rw[e];exact True.intro) hs ⟨q,J⟩ ⟨Z,O,_,(B.put k eb rv).keeps λc ys ec=>?_,q,es,ep,J,h2,h3,h4,h5⟩;rw[ze (by grind)];exact ec
variable {kvs:List (Key×V)}{k:Key}
end
def ztA (i:Expr):Prop:=∀q B,subscripted i false q B=operate [q,B] (getItem q B)
def zqc {prog:Aa}{w:Ab}{A:Ae}{E:AA}{s:AZ}{env:Env}{value q:Expr}{pos:Pos}{T id:String}{Q:AA}
  (Z:typeLookup (.type T) "__getitem__" = pure (some (.builtin id))) (hs:ztA q)
  (h:Ag prog w A (eval value env) (λo I=>Ag prog w A (eval q env) (λi B=>B.TypeIs o T/\Ag prog w A (getItem o i) Q E B) E I) E s) :
  Ag prog w A (eval (.Subscript value q pos) env) Q E s:=by
 show Subscript_ (bH h (λo I O=>bH O (λi B F=>?_) λ_ _ x=>x) λ_ _ x=>x);obtain⟨Y,F⟩:=F;unfold subscriptTail;show ae ?_;rw[getitemInPython_of_ne Y.not_modules];show ae (eR Y Z ?_);have fin:Ag prog w A (subscripted q false o i) (λr J=>Ag prog w A (letTemporaryGo value o r >>= λ_=>pure r) Q E J) E B:=by rw[hs o i];exact wpAny_operating (bH F (λr J U=>ae (wpAny_letTemporaryGo (ah U))) λ_ _ x=>x)
 first
  | exact ah (ae fin)
  | exact ae (by grind)
  | exact ae fin
def zfJ{X:Cx}{pins:AB}{σ:St}{H:Hp}{s:AZ}{a:Addr}{y:V}(I:Inv X pins σ H s)(g:zbu H a y o):s.TypeIs (.ref a) "dict" := by
 rcases g with ⟨kvs,k,e,_,_⟩ | ⟨kvs,k,b,e,_,_,_⟩;obtain⟨_,_,vs,_,q⟩:=zls I.hok e;exact q.typeIs;obtain⟨_,_,xs,_,q⟩:=zlu I.hok e;exact q.typeIs
def zqd (td ty:TE):TE:=λσ H Q=>td σ H λx H1=>ty σ H1 λy H2=>∃a v,x = .ref a/\zbu H2 a y (some v)/\Q v H2
def zgp (ty td:TE):TE:=λσ H Q=>ty σ H λy H1=>td σ H1 λx H2=>∃a o,x = .ref a/\zbu H2 a y o/\Q (.bl (!o.isSome)) H2
def zp2 (td ty tv:TE):TS:=λD σ H=>tv σ H λv H1=>td σ H1 λx H2=>ty σ H2 λy H3=>∃a H4,x = .ref a/\zeq H3 a y v H4/\D.nx σ H4
section
variable {X:Cx}{o i e value:Expr}{pos pos' tpos:Pos}{td ty tv:TE}
def zj7 (B:X.A.units+1<cLine)(J:PE X o td)(hi:PE X i ty)(hs:ztA i):PE X (.Subscript o i pos) (zqd td ty):=by intro pins s σ H Q I h;show zqc PySem.F.slot_dict_getitem.lookup hs (thn (J pins s σ H _ I h) λu O ⟨x,H1,I1,U,Y⟩=>thn (hi pins O σ H1 _ I1 Y)  ?_);rintro iv s2 ⟨y,H2,I2,Z,a,v,ex,g,q2⟩;subst ex;obtain rfl:u=Value.ref a:=U;exact⟨zfJ I2 g,ziL B I2 g Z λw' s3 I3 q=>⟨v,H2,I3,q,q2⟩⟩
def ze8 (q:X.A.units+1<cLine)(hi:PE X i ty)(B:PE X o td):PC X .NotIn i o (zgp ty td):=by intro pins s σ H Q I h;show thn (hi pins s σ H _ I h) λiv F ⟨y,H1,I1,J,O⟩=>thn (B pins F σ H1 _ I1 O)  ?_;rintro u s2 ⟨x,H2,I2,U,a,Y,ex,g,Z⟩;subst ex;obtain rfl:u=Value.ref a:=U;exact zn4 q I2 g J λs3 I3=>⟨.bl (!Y.isSome),H2,I3,rfl,Z⟩
def zke (q:X.A.units+1<cLine)(B:PE X o td)(hi:PE X i ty)(F:PE X value tv)(hs:swapsWith value (some (.Subscript o i pos')) pos.line X.env=pure false) :
  PS X (.Assign [.Subscript o i pos'] value pos) (zp2 td ty tv):=by
 intro pins s σ H D I h;show wpAny_Assign_Subscript (thn (F pins s σ H _ I h) λr J ⟨v,H1,I1,O,U⟩=>thn (B pins J σ H1 _ I1 U) λu Y ⟨x,H2,I2,Z,q2⟩=>thn (hi pins Y σ H2 _ I2 q2) λiv s3 ⟨y,H3,I3,ry,a,H4,ex,g,q3⟩=>?_) hs;subst ex;obtain rfl:u=Value.ref a:=Z;exact ziM q I3 g ry O λs4 I4=>⟨σ,H4,I4,q3⟩
end
def zlr(h:Heap)(q:sysModules<h.objs.size):ya P w H (h.push { cls:=.type "dict",data:=.dict #[] }) h.objs.size (.dK []):=
 ⟨aM _,beq_eq_false_iff_ne.mpr (Ne.symm (aV q)),[],.nil,Heap.DictOf.new h⟩
def zgK(h:Heap)(q:sysModules<h.objs.size):ya P w H (h.push { cls:=.type "dict",data:=.dict #[] }) h.objs.size (.dT []):=
 ⟨aM _,beq_eq_false_iff_ne.mpr (Ne.symm (aV q)),[],.nil,_,#[],0,aw _ rfl,⟨rfl,rfl,rfl⟩,rfl,rfl,List.nodup_nil⟩
def znN:TE:=λ_ H Q=>∀p,H p=none->Q (.ref p) (upd H p (.dT []))
section
variable {X:Cx}{pos:Pos}
def zhe:PE X (.Dict [] [] pos) znN:=λpins s σ H Q I h=>
 wpAny_Dict_empty ⟨.ref s.heap.objs.size,_,I.laid (a:=s.heap.objs.size) (o:=.dT []) (t':=s.toks) (λ_ _ q=>ai _ q) (ak _) (zgK s.heap I.big),rfl,h _ (I.hok.fresh (ak _))⟩
end
def zhu:List (TE×TE)->St->Hp->(List (V×V)->Hp->Prop)->Prop
 | [],_,H,Q=>Q [] H
 | (tk,tv)::r,σ,H,Q=>tk σ H λx H1=>tv σ H1 λy H2=>zhu r σ H2 λps H3=>Q ((x,y)::ps) H3
abbrev VV:List (V×V)->List (Value×Value)->Prop:=Paired λp q=>yd p.1 q.1/\yd p.2 q.2
def PPs (X:Cx)(pos:Pos)(B:List (Option Expr))(q:AO)(F:List (TE×TE)):Prop:=
 ∀ (pins:AB) (s:AZ) (σ:St) (H:Hp) (Q:List (V×V)->Hp->Prop),Inv X pins σ H s->zhu F σ H Q->
  Af X (evalPairs (pairTrees B q X.env pos)) (λvs s'=>∃ps H',Inv X pins σ H' s'/\VV ps vs/\Q ps H') X.xe s
def zkb:PPs X pos [] [] []:=λpins s σ H Q I h=>pairTrees_nil_walk ⟨[],H,I,.nil,h⟩
def zhh(F:PE X k tk)(J:PE X v tv)(O:PPs X pos ks vs q) :
  PPs X pos (some k::ks) (v::vs) ((tk,tv)::q):=λpins s σ H Q I h=>
 pairTrees_cons_walk (thn (F pins s σ H _ I h) λu U ⟨x,H1,I1,Y,Z⟩=>thn (J pins U σ H1 _ I1 Z) λw2 s2 ⟨y,H2,I2,ry,q2⟩=>
  thn (O pins s2 σ H2 _ I2 q2) <| by rintro ws s3 ⟨ps,H3,I3,B,q3⟩;exact⟨(x,y)::ps,H3,I3,.cons ⟨Y,ry⟩ B,q3⟩)
def zce (kvs more:List (Key×V)):List (Key×V):=more.foldl (λacc kv=>uU acc kv.1 kv.2) kvs
def KV.merge:∀ {more:List (Key×V)} {B:List (Key×Value)} {kvs:List (Key×V)} {vs:List (Key×Value)},KV more B->KV kvs vs->KV (zce kvs more) (merged vs B):=by
 intro more B kvs vs r;unfold KV at r
 induction r generalizing kvs vs with
 | nil=>intro q;exact q
 | @cons p q ps J h t F=>
  intro I
  have e:KV (uU kvs p.1 p.2) (stored vs q.1 q.2):=by
   have:=I.put p.1 h.2;right
  exact F e
def zaD:∀ (more kvs:List (Key×V)),(zce kvs more).length<=kvs.length+more.length
 | [],kvs=>by change kvs.length<=kvs.length+0;lia
 | p::r,kvs=>by
  have h1:=zaD r (uU kvs p.1 p.2);have h2:=xc kvs p.1 p.2;change (zce (uU kvs p.1 p.2) r).length<=_;grind
def zcY:∀ {kvs:List (Key×V)} {F:List (Value×Value)},VV (kvs.map λkv=>(kV kv.1,kv.2)) F->∃B,Carries (zS P w) F B/\KV kvs B
 | [],_,r=>by rw[et] at r;cases r;exact⟨[],True.intro,.nil⟩
 | p::kvs,_,r=>by
  rw[aB] at r
  cases r with
  | @cons a b as J h t=>
   obtain⟨B,c,q⟩:=zcY (P:=P) (w:=w) t;obtain⟨O,I⟩:=b;exact⟨(p.1,I)::B,⟨zhM h.1,rfl,c⟩,.cons ⟨rfl,h.2⟩ q⟩
def zs0 (q:List (TE×TE)):TE:=λσ H Q=>∀p,H p=none->zhu q σ (upd H p (.dK [])) λps H2=>H2 p=some (.dK [])/\∃kvs:List (Key×V),ps=kvs.map (λkv=>(kV kv.1,kv.2))/\kvs.length<=15/\Q (.ref p) (upd H2 p (.dK (zce [] kvs)))
def zpb(h:PPs X pos B F J)(O:B.all (·.isSome)=true)(hl:B.length=F.length)(h0:B≠[])(Y:B.length<=15):PE X (.Dict B F pos) (zs0 J):=by
 intro pins s σ H Q I q;have hn:=I.hok.fresh (ak s.heap.objs.size);have I1:=I.laid (a:=s.heap.objs.size) (o:=.dK []) (h':=s.heap.push { cls:=.type "dict",data:=.dict #[] }) (t':=s.toks) (λ_ _ q=>ai _ q) (ak _) (zlr s.heap I.big);show wpAny_Dict_walk (knd:=zS X.prog X.w) O hl h0 Y (thn (h pins _ σ _ _ I1 (q _ hn))  ?_);rintro ws s2 ⟨ps,H2,I2,Z,e,kvs,ep,lk,q2⟩;subst ep;obtain⟨rs,c,rk⟩:=zcY (P:=X.prog) (w:=X.w) Z;obtain⟨z,hd,aa,r0,dd⟩:=zn5 I2.hok e;cases r0;show⟨rs,c,dd,λh' U hs=>⟨.ref s.heap.objs.size,_,?_,rfl,q2⟩⟩;have hz:(zce [] kvs).length<=sizeLine:=by have h1:=zaD kvs [];rw[List.length_nil] at h1;rw[b8];lia
 have he:∃q,h'.get? s.heap.objs.size=some q:=let ⟨q,_,_,hq,_⟩:=U;⟨q,hq⟩;exact zbX I2 (by rw[e];exact True.intro) hs he (ziR hz hd (rk.merge .nil) U)
section
variable {X:Cx}{pins:AB}{σ:St}{H:Hp}{s:AZ}{a:Addr}{y d:V}{u r:Value}{o:Option V}{A:Ae}{E:AA}
variable {o e f:Expr}{apos cpos:Pos}{td ty tx:TE}
variable {kvs:List (Key×V)}
end
end L2
namespace HT
open PyProof.Rows
def lexLt:AG->AG->Bool
 | [],[]=>false
 | [],_::_=>true
 | _::_,[]=>false
 | x::xs,y::ys=>if x=y then lexLt xs ys else decide (x<y)
section
open PySem.SeqAt
open PySem.AutoSeq1 (wpAny_loadPart')
open PySem.MeetsSeq PySem.MeetsSeq2 PySem.MeetsSeq3
variable {prog:Aa}{w:Ab}{A:Ae}{E:AA}{s:AZ}
def cat_tup(ht:IsTup s.heap t vs.toArray)(hb:IsTup s.heap b q.toArray)(hv:vs≠[])(h1:q=[]->Q (.ref t) s)(h2:q≠[]->Q (.ref s.heap.objs.size) { s with heap:=s.heap.push { cls:=.type "tuple",data:=.seq (vs++q).toArray } })(hsz:vs.length+q.length<=sizeLine):Ag prog w A (binaryOp .Add (.ref t) (.ref b)) Q E s:=by
 obtain⟨⟨cls,dd,data,sl⟩,Y,hc,n,hd⟩:=id ht;obtain⟨⟨ab,I,aa,J⟩,B,O,n2,U⟩:=id hb;simp only at hc hd O U;subst hc hd O U;have e:vs.toArray++q.toArray=(vs++q).toArray:=by simp
 by_cases Z:q=[]
 ·exact concat_meets ⟨_,Y,rfl⟩ ⟨_,B,rfl⟩ noFill_tuple_add seq_tuple_add PySem.F.slot_tuple_add PySem.F.entry_tuple_add (PySem.F.args_tuple_add_2 _ _)
   (tuple_addW1 t b vs.toArray q.toArray n n2 dd I sl J (by simpa using hv) (by simp[Z])) ⟨Y,B,h1 Z⟩
 ·show concat_meets ⟨_,Y,rfl⟩ ⟨_,B,rfl⟩ noFill_tuple_add seq_tuple_add PySem.F.slot_tuple_add PySem.F.entry_tuple_add (PySem.F.args_tuple_add_2 _ _)
   (tuple_addW2 t b vs.toArray q.toArray n n2 dd I sl J (by simpa using hv) (by simpa using Z) (by right)) ⟨Y,B,?_⟩
  rw[e];exact h2 Z
def sIx (n d:Nat):AQ->Nat
 | none=>d
 | some v=>if v<0 then (v+(n:Int)).toNat else min v.toNat n
def sIx_none (n d:Nat):sIx n d none=d:=rfl
def sIx_nat (n d k:Nat):sIx n d (some (k:Int))=min k n:=by change (if (k:Int)<0 then ((k:Int)+(n:Int)).toNat else min (k:Int).toNat n)=min k n;rw[if_neg (by lia),Int.toNat_natCast]
def zsU (n d:Nat)(B:d<=n)(o:AQ):sIx n d o<=n:=by
 cases o with
 | none=>exact B
 | some v=>
  change (if v<0 then (v+(n:Int)).toNat else min v.toNat n)<=n;by_cases q:v<0;rw[if_pos q];lia;rw[if_neg q];exact Nat.min_le_right _ _
def zix (v:Int)(n d:Nat):(if v<0 then max (v+(n:Int)) 0 else min v (n:Int))=((sIx n d (some v):Nat):Int):=by
 change (if v<0 then max (v+(n:Int)) 0 else min v (n:Int))=(((if v<0 then (v+(n:Int)).toNat else min v.toNat n):Nat):Int);grind
def zhA (lo hi:AQ)(n:Nat):Builtin.Slice.sliceAdjust lo hi 1 (n:Int)=(((sIx n 0 lo:Nat):Int),((sIx n n hi:Nat):Int)):=by
 have h1:¬ ((1:Int)<0):=by lia
 unfold Builtin.Slice.sliceAdjust;simp only[h1,if_false];show Prod.ext ?_ ?_
 cases lo with
 | none=>rfl
 | some v=>exact zix v n 0
 cases hi with
 | none=>rfl
 | some v=>exact zix v n n
def zhX (i j:Nat):Builtin.Slice.slicePlaces (i:Int) (j:Int) 1=j - i:=by
 unfold Builtin.Slice.slicePlaces;have h1:(1:Int) > 0:=by lia
 simp only[h1,if_true,Int.ediv_one];split <;> lia
def zdj{o:AQ}{Q:AQ->AZ->Prop}(p:IsPart v o)(h:Q o s):Ag prog w A (Builtin.Slice.slicePartIndex v) Q E s:=by
 cases p with
 | none=>exact slicePart_none h
 | int i t=>exact slicePart_int h
def uy{lo hi:AQ}{Q:Int×Int×Nat->AZ->Prop}(hs:s.heap.IsSliceOf J F I .none)(pl:IsPart F lo)(O:IsPart I hi)(h:Q (((sIx n 0 lo:Nat):Int),1,sIx n n hi - sIx n 0 lo) s):Ag prog w A (Builtin.Slice.sliceApplied (.ref J) (pure (n:Int))) Q E s:=by
 obtain⟨Y,q,U,B⟩:=id hs;unfold Builtin.Slice.sliceApplied Builtin.Slice.sliceFields;show wpAny_bind (wpAny_bind (wpAny_field q B (x:=F) rfl (wpAny_bind (wpAny_field q B (x:=I) rfl (wpAny_bind (wpAny_field q B (x:=.none) rfl (wpAny_pure ?_)))))));show wpAny_bind (slicePart_none ?_);change wpAny _ _ (if ((1:Int)==0)=true then _ else _) _ _ s;rw[if_neg (by ext)];show wpAny_bind (zdj pl (wpAny_bind (zdj O (wpAny_bind (wpAny_pure ?_)))));change wpAny _ _ (match Builtin.Slice.sliceAdjust lo hi 1 (n:Int) with | (lo,hi)=>pure (lo,(1:Int),Builtin.Slice.slicePlaces lo hi 1)) _ _ s;rw[zhA lo hi n];change wpAny _ _ (pure (((sIx n 0 lo:Nat):Int),(1:Int),Builtin.Slice.slicePlaces ((sIx n 0 lo:Nat):Int) ((sIx n n hi:Nat):Int) 1)) _ _ s;rw[zhX];exact wpAny_pure h
def zmi (xs:AK)(i k:Nat):((List.range k).filterMap λ(m:Nat)=>xs[((i:Int)+(m:Int) * 1).toNat]?).toArray=((xs.toList.drop i).take k).toArray:=by
 have e:(λ(m:Nat)=>xs[((i:Int)+(m:Int) * 1).toNat]?)=λm=>xs[i+m]?:=by
  funext m;have:((i:Int)+(m:Int) * 1).toNat=i+m:=by lia
  rw[this]
 rw[e];have:=pick_run xs i k;rw[List.filterMap_map] at this;have q:((λx=>xs[x]?) ∘ λx=>i+x)=λm=>xs[i+m]?:=rfl;right
def getItem_tuple_cut{lo hi:AQ}(B:IsTup s.heap t items)(hs:s.heap.IsSliceOf F Y Z .none)(pl:IsPart Y lo)(pu:IsPart Z hi)(hw:¬ (sIx items.size 0 lo=0/\sIx items.size items.size hi=items.size))(h:Q (.ref s.heap.objs.size) { s with heap:=s.heap.push { cls:=.type "tuple",data:=.seq ((items.toList.drop (sIx items.size 0 lo)).take (sIx items.size items.size hi - sIx items.size 0 lo)).toArray } })(hsz:items.size<=sizeLine):Ag prog w A (getItem (.ref t) (.ref F)) Q E s:=by
 have q:sizeOk (.seq ((items.toList.drop (sIx items.size 0 lo)).take (sIx items.size items.size hi - sIx items.size 0 lo)).toArray):=by change ((items.toList.drop (sIx items.size 0 lo)).take (sIx items.size items.size hi - sIx items.size 0 lo)).toArray.size<=sizeLine;rw[List.size_toArray,List.length_take,List.length_drop,Array.length_toList];lia
 have hj:sIx items.size items.size hi<=items.size:=zsU _ _ (Nat.le_refl _) hi;obtain⟨os,I,J,aa⟩:=id hs;have O:s.TypeIs (.ref F) "slice" := ⟨os,I,J⟩;unfold getItem;try with_reducible show wpAny_holding ?_
 first | show wpAny_bind (wpAny_pure ?_) | skip
 show wpAny_bind (wpAny_sequenceKey B.typeIs (by ext) ?_)
 show wpAny_bind (wpAny_callSpecial?_slot (name:=Str.ofString "__getitem__") B.typeIs PyProof.Rows.slot_tuple_getitem
  (wpAny_call_entry PyProof.Rows.slot_tuple_getitem B.typeIs entry_tuple_getitem ?_ (args_tuple_getitem _ _)))
 change wpAny _ _ (Builtin.Tuple.tupleItemsOf (.ref t) >>= _) _ _ s;show wpAny_bind (tupleItemsOf_ B ?_);show wpAny_bind (wpAny_typeOf O ?_);rw[if_pos (by ext)];show wpAny_bind (uy hs pl pu ?_);have U:¬ ((((sIx items.size 0 lo:Nat):Int)==0&&(1:Int)==1&&(sIx items.size items.size hi - sIx items.size 0 lo)==items.size)=true):=by grind
 change wpAny _ _ (if (((sIx items.size 0 lo:Nat):Int)==0&&(1:Int)==1&&(sIx items.size items.size hi - sIx items.size 0 lo)==items.size)=true then _ else _) _ _ s;rw[if_neg U,zmi]
 first
  | exact wpAny_bind (m:=Builtin.Tuple.tupleExact _) (wpAny_newObj_type (wpAny_pure ⟨_,rfl,wpAny_pure h⟩) q)
  | exact wpAny_bind (by grind) (by grind)
  | exact wpAny_bind (by grind)
  | exact wpAny_bind (by grind)
end
end HT
namespace L2
open PyProof.Rows
abbrev TO:=St->Hp->(AQ->Hp->Prop)->Prop
def PO (X:Cx)(e:Option Expr)(t:TO):Prop:=
 ∀ (pins:AB) (s:AZ) (σ:St) (H:Hp) (Q:AQ->Hp->Prop),Inv X pins σ H s->t σ H Q->
  Af X (evalPart e X.env) (λu s'=>∃o H',Inv X pins σ H' s'/\IsPart u o/\Q o H') X.xe s
def zkL:TO:=λ_ H Q=>Q none H
def zs9 (t:TE):TO:=λσ H Q=>t σ H λx H1=>∃i,x = .int i/\Q (some i) H1
section
variable {X:Cx}{e:Expr}{te:TE}{lo hi:Option Expr}{tl th:TO}{pos p2:Pos}
def zpq:PO X none zkL:=by intro pins s σ H Q I h;rw[evalPart_none];exact ah ⟨none,H,I,.none,h⟩
def zpr (h:PE X e te):PO X (some e) (zs9 te):=by intro pins s σ H Q I B;rw[evalPart_some];show thn (h pins s σ H _ I B)  ?_;rintro u O ⟨x,H1,I1,F,J⟩;obtain⟨i,rfl,q⟩:=J;obtain⟨t,rfl⟩:=F;exact⟨some i,H1,I1,.int i t,q⟩
def SlR (X:Cx)(r:V->AQ->AQ->Hp->VK->Prop):Prop:=
 ∀ (pins:AB) (s:AZ) (σ:St) (H:Hp) (x:V) (v q B:Value) (lo hi:AQ) (F:Addr) (Q:VK),Inv X pins σ H s->yd x v->s.heap.IsSliceOf F q B .none->IsPart q lo->IsPart B hi->r x lo hi H Q->
  ∃T id,typeLookup (.type T) "__getitem__" = pure (some (.builtin id))/\s.TypeIs v T/\Af X (getItem v (.ref F)) (EP X pins σ Q) X.xe s
def tSl (r:V->AQ->AQ->Hp->VK->Prop)(te:TE)(tl th:TO):TE:=λσ H Q=>te σ H λx H1=>tl σ H1 λl H2=>th σ H2 λu H3=>r x l u H3 Q
def zmg {r:V->AQ->AQ->Hp->VK->Prop}(O:SlR X r)(U:PE X e te)(Y:PO X lo tl)(Z:PO X hi th):PE X (.Subscript e (.Slice lo hi none p2) pos) (tSl r te tl th):=by intro pins s σ H Q I h;show Subscript_ (thn (U pins s σ H _ I h)  ?_);rintro v s1 ⟨x,H1,I1,r1,q1⟩;show wpAny_Slice (thn (Y pins s1 σ H1 _ I1 q1) λF s2 ⟨l,H2,I2,pl,q2⟩=>thn (Z pins s2 σ H2 _ I2 q2)  ?_);rintro J B ⟨u,H3,I3,pu,q3⟩;rw[evalPart_none];show ah ?_;have I4:Inv X pins σ H3 { B with heap:=B.heap.push { cls:=.type "slice",data:=.fields #[F,J,.none] } }:=I3.kept (t':=B.toks) λb ob q=>ai _ q;obtain⟨T,id,hT,ht,hg⟩:=O pins { B with heap:=B.heap.push { cls:=.type "slice",data:=.fields #[F,J,.none] } } σ H3 x v F J l u B.heap.objs.size Q I4 r1 (Heap.IsSliceOf.new ..) pl pu q3;change Af X (subscriptTail e (.Slice lo hi none p2) v (.ref B.heap.objs.size)) (EP X pins σ Q) X.xe { B with heap:=B.heap.push { cls:=.type "slice",data:=.fields #[F,J,.none] } };exact tail_any (ops:=[.ref B.heap.objs.size,v]) ht hT hg (by with_unfolding_all rfl)
def zc0 (xs:AT)(lo hi:AQ):AT:=(xs.drop (HT.sIx xs.length 0 lo)).take (HT.sIx xs.length xs.length hi - HT.sIx xs.length 0 lo)
def zap (xs:AT)(lo hi:AQ):(zc0 xs lo hi).length<=xs.length:=by unfold zc0;rw[bm,eG];lia
def rSlT (K:AH):V->AQ->AQ->Hp->VK->Prop:=λx lo hi H Q=>∃a xs,x = .ref a/\SqT K H a xs/\
 ¬ (HT.sIx xs.length 0 lo=0/\HT.sIx xs.length xs.length hi=xs.length)/\∀p,H p=none->Q (.ref p) (upd H p (.tup (zc0 xs lo hi)))
def zsW:SlR X (rSlT X.K):=by
 intro pins s σ H x v vl vu lo hi sl Q I U hs pl Y h;obtain⟨a,xs,rfl,Z,hw,q⟩:=h;cases U;obtain⟨F,r,J,O⟩:=I.tuple Z;have B:F.toArray.size=xs.length:=by rw[aW];exact r.length.symm
 show⟨"tuple",_,PyProof.Rows.slot_tuple_getitem.lookup,J.typeIs,?_⟩;show HT.getItem_tuple_cut J hs pl Y (by rw[B];exact hw) ?_ (by rw[B];exact O);rw[B];show⟨.ref s.heap.objs.size,_,I.laid (t':=s.toks) (o:=.tup (zc0 xs lo hi)) (λb ob q=>ai _ q) (ak _) ?_,rfl,q _ (I.hok.fresh (ak _))⟩;exact⟨aA (zap xs lo hi) O,_,(r.drop (HT.sIx xs.length 0 lo)).take (HT.sIx xs.length xs.length hi - HT.sIx xs.length 0 lo),zae.new _ _⟩
def zvp (K:AH):R2:=λx y H Q=>∃a b xs ys,x = .ref a/\y = .ref b/\SqT K H a xs/\SqT K H b ys/\xs≠[]/\xs.length+ys.length<=sizeLine/\
 (ys=[]->Q (.ref a) H)/\(ys≠[]->∀p,H p=none->Q (.ref p) (upd H p (.tup (xs++ys))))
def zT.nil_iff(r:zT xs us):us=[]↔xs=[]:=by
 cases r with
 | nil=>simp
 | cons _ _=>simp
def zo5:OpR X (binaryOp .Add) (zvp X.K):=by intro pins s σ H x y v u Q I O U h;obtain⟨a,b,xs,ys,rfl,rfl,Y,Z,hx,hz,q1,q2⟩:=h;cases O;cases U;obtain⟨aa,F,p1,_⟩:=I.tuple Y;obtain⟨J,B,p2,_⟩:=I.tuple Z;show HT.cat_tup p1 p2 (λz=>hx (F.nil_iff.mp z)) (λz=>⟨.ref a,H,I,rfl,q1 (B.nil_iff.mp z)⟩) (λz=>?_) (by rw[<- F.length,<- B.length];exact hz);show⟨.ref s.heap.objs.size,_,I.laid (t':=s.toks) (o:=.tup (xs++ys)) (λb ob q=>ai _ q) (ak _) ?_,rfl,q2 (λw=>z (B.nil_iff.mpr w)) _ (I.hok.fresh (ak _))⟩;exact⟨by right,_,F.append B,zae.new _ _⟩
end
def ixN (n:Nat)(i:Int):Option Nat:=if 0<=i then (if i<n then some i.toNat else none) else if -(n:Int)<=i then some (i+n).toNat else none
def atI {α:Type}(xs:List α)(i:Int):Option α:=(ixN xs.length i).bind λj=>xs[j]?
def zjm {n:Nat}{i:Int}{j:Nat}(h:ixN n i=some j):seqIndex? i n=some j/\j<n/\-(n:Int)<=i/\i<n:=by
 unfold ixN at h;by_cases q:0<=i;rw[if_pos q] at h;by_cases h1:i<n;rw[if_pos h1] at h;have e:i.toNat=j:=cL h;exact⟨by rw[seqIndex_of q h1,e],by lia,by lia,h1⟩;right;rw[if_neg q] at h;by_cases h1:-(n:Int)<=i;rw[if_pos h1] at h;have e:(i+n).toNat=j:=cL h;exact⟨by rw[seqIndex_neg (by lia) h1,e],by lia,h1,by lia⟩;right
def ziq {α:Type}{xs:List α}{i:Int}{v:α}(h:atI xs i=some v):∃j,seqIndex? i xs.length=some j/\xs[j]?=some v/\j<xs.length/\-(xs.length:Int)<=i/\i<xs.length:=by
 unfold atI at h
 cases e:ixN xs.length i with
 | none=>rw[e] at h;cases h
 | some j=>
  rw[e] at h;obtain⟨h1,h2,q,B⟩:=zjm e;exact⟨j,h1,h,h2,q,B⟩
def zir {α:Type}{xs:List α}{j:Nat}{v:α}(h:xs[j]?=some v):atI xs (j:Int)=some v:=by
 have q:j<xs.length:=(aj.mp h).1
 have e:ixN xs.length (j:Int)=some j:=by
  unfold ixN;right
 unfold atI;rw[e];exact h
def zfy (b:Expr):Prop:=∀o i,subscripted b false o i=operate [o,i] (getItem o i)
def IxR (X:Cx)(r:R2):Prop:=
 ∀ (value q:Expr) (pins:AB) (s:AZ) (σ:St) (H:Hp) (x y:V) (v u:Value) (Q:VK),Inv X pins σ H s->yd x v->yd y u->r x y H Q->
  subscripted q false v u=operate [v,u] (getItem v u)->Af X (subscriptTail value q v u) (EP X pins σ Q) X.xe s
def MtR (X:Cx)(id:String)(r:V->AT->Hp->VK->Prop):Prop:=
 ∀ (pins:AB) (s:AZ) (σ:St) (H:Hp) (x:V) (xs:AT) (v:Value) (us:AN) (Q:VK),Inv X pins σ H s->yd x v->zT xs us->r x xs H Q->
  Af X (call (.builtin id) (v::us)) (EP X pins σ Q) X.xe s
section
variable {X:Cx}{a b:Expr}{ta tb:TE}{pos:Pos}
def zvh(B:IxR X r)(F:PE X a ta)(J:PE X b tb)(hs:zfy b):PE X (.Subscript a b pos) (tOp r ta tb):=by intro pins s σ H Q I h;exact Subscript_ (zt6 F J I h λv u O x y H2 I2 U Y q=>B a b pins O σ H2 x y v u Q I2 U Y q (hs _ _))
def ztS (K:AH):R2:=λx y H Q=>∃p xs i v,x = .ref p/\y = .int i/\SqL K H p xs/\atI xs i=some v/\Q v H
def zqF (K:AH):R2:=λx y H Q=>∃p xs i v,x = .ref p/\y = .int i/\SqT K H p xs/\atI xs i=some v/\Q v H
def zov:IxR X (ztS X.K):=by
 intro value B pins s σ H x y v u Q I Z ry h hs;obtain⟨p,xs,i,z,rfl,rfl,hq,he,q⟩:=h;cases Z;obtain⟨t,rfl⟩:=ry;obtain⟨F,r,pl,hz⟩:=I.list hq;obtain⟨j,h1,h2,h3,h4,h5⟩:=ziq he;obtain⟨w,U,J⟩:=r.get h2;have hl:=r.length;have hn:=zg3;have fin:EP X pins σ Q w s:=⟨z,H,I,J,q⟩;by_cases Y:0<=i
 have O:i.toNat=j:=by
  rw[seqIndex_of Y h5] at h1;right
 exact item_listR pl.isList Y (by lia) (by rw[O];simpa using U) fin hs
 have O:(i+(F.toArray.size:Int)).toNat=j:=by
  rw[seqIndex_neg (by lia) h4] at h1;right
 exact subscriptTail_builtinR (x:=w) pl.isList.typeIs slot_list_getitem.lookup
  (wpAny_getItem_list_neg (Q:=λr s'=>r=w/\EP X pins σ Q r s') pl.isList (by lia) (by right) (by lia) (by rw[O];simpa using U) ⟨rfl,fin⟩) hs
def zrp:IxR X (zqF X.K):=by
 intro value B pins s σ H x y v u Q I J O h hs;obtain⟨p,xs,i,z,rfl,rfl,U,Y,q⟩:=h;cases J;obtain⟨t,rfl⟩:=O;obtain⟨Z,r,pl,hz⟩:=I.tuple U;obtain⟨j,h1,h2,h3,h4,h5⟩:=ziq Y;obtain⟨w,ew,F⟩:=r.get h2;have hl:=r.length;have hn:=zg3;have fin:EP X pins σ Q w s:=⟨z,H,I,F,q⟩
 exact subscriptTail_builtinR (x:=w) pl.typeIs slot_tuple_getitem.lookup
  (getItem_tuple (j:=j) (Q:=λr s'=>r=w/\EP X pins σ Q r s') pl (by lia) (by lia) (by right) (by simpa using ew) ⟨rfl,fin⟩) hs
def zhQ (q:AN)(n j:Nat)(u:Value):Obj.mapSeq (·.setIfInBounds j u) { cls:=.type "list",data:=.seq q.toArray n }={ cls:=.type "list",data:=.seq (q.set j u).toArray n }:=by simp[Obj.mapSeq]
def Inv.lst {pins:AB}{σ:St}{H:Hp}{s:AZ}{p:Addr}{xs:AT}(I:Inv X pins σ H s)(h:H p=some (.lst xs)) :
  ∃ (q:AN) (n:Nat),zT xs q/\s.heap.get? p=some { cls:=.type "list",data:=.seq q.toArray n }/\xs.length<=sizeLine:=by
 obtain⟨z,q,n,r,e⟩:=I.hok p _ h;exact⟨q,n,r,e,z⟩
def Inv.lstUpd{pins:AB}{σ:St}{H:Hp}{s:AZ}{p:Addr}{xs ys:AT}{B its':AN}{f:Obj->Obj}(I:Inv X pins σ H s)(h:H p=some (.lst xs))(O:s.heap.get? p=some { cls:=.type "list",data:=.seq B.toArray n })(J:f { cls:=.type "list",data:=.seq B.toArray n }={ cls:=.type "list",data:=.seq its'.toArray F })(r:zT ys its')(U:ys.length<=sizeLine)(t:Nat) :
  Inv X pins σ (upd H p (.lst ys)) { s with heap:=s.heap.update p f,toks:=t }:=by
 have e:(s.heap.update p f).get? p=some { cls:=.type "list",data:=.seq its'.toArray F }:=by rw[bC f O (by rw[J] <;> rfl),J]
 show I.write (x:=p) (e:=p) (by rw[h];trivial) (.inl rfl) (λb u Y q=>(bK _ _ (Ne.symm Y)).trans q) ⟨_,e⟩ ?_;exact⟨U,its',F,r,e⟩
def zvs:V->V->V->Hp->(Hp->Prop)->Prop:=λo i v H Q=>∃p xs k j,o = .ref p/\i = .int k/\H p=some (.lst xs)/\ixN xs.length k=some j/\Q (upd H p (.lst (xs.set j v)))
def zmG:PSet X zvs:=by
 intro pins s σ H o i v ov iv u Q I Y Z rv h;obtain⟨p,xs,k,j,rfl,rfl,O,hj,q⟩:=h;cases Y;obtain⟨t,rfl⟩:=Z;obtain⟨B,n,r,F,hz⟩:=I.lst O;obtain⟨h1,h2,h3,h4⟩:=zjm hj;have hl:=r.length;have hn:=zg3
 have I':Inv X pins σ (upd H p (.lst (xs.set j v))) { s with heap:=s.heap.update p (Obj.mapSeq (·.setIfInBounds j u)) }:=
  I.lstUpd O F (zhQ B n j u) (r.set rv j) (by right) s.toks
 by_cases U:0<=k
 have J:k.toNat=j:=by
  rw[seqIndex_of U h4] at h1;right
 exact PySem.W.ki_setAt F U (by lia) (by right) (by rw[J];exact⟨_,I',q⟩)
 have J:(k+(B.toArray.size:Int)).toNat=j:=by
  rw[seqIndex_neg (by lia) h3] at h1;right
 exact PySem.W.ki_setBack F (by lia) (by right) (by lia) (by rw[J];exact⟨_,I',q⟩)
def zfk (lo hi:AQ)(n:Nat):(sliceBounds lo hi none n).1=((HT.sIx n 0 lo:Nat):Int)/\(sliceBounds lo hi none n).2.1=((HT.sIx n n hi:Nat):Int)/\(sliceBounds lo hi none n).2.2=1:=by
 show⟨?_,?_,rfl⟩
 ·cases lo with
  | none=>simp[sliceBounds,HT.sIx]
  | some i=>
   simp only[sliceBounds,HT.sIx,Option.getD_none,show (1:Int) > 0 by ext,if_true];by_cases h:i<0
   ·simp only[h,if_true] <;> lia
   ·simp only[h,if_false] <;> lia
 ·cases hi with
  | none=>simp[sliceBounds,HT.sIx]
  | some i=>
   simp only[sliceBounds,HT.sIx,Option.getD_none,show (1:Int) > 0 by ext,if_true];by_cases h:i<0
   ·simp only[h,if_true] <;> lia
   ·simp only[h,if_false] <;> lia
def zed (q:AN)(lo hi:AQ):slicePick q.toArray lo hi none=((q.drop (HT.sIx q.length 0 lo)).take (HT.sIx q.length q.length hi - HT.sIx q.length 0 lo)).toArray:=by obtain⟨h1,h2,B⟩:=zfk lo hi q.toArray.size;unfold slicePick;rw[h1,h2,B];simp only[sliceRange_one,pick_run,aW] <;> rfl
def rSlL (K:AH):V->AQ->AQ->Hp->VK->Prop:=λx lo hi H Q=>∃a xs,x = .ref a/\SqL K H a xs/\∀p,H p=none->Q (.ref p) (upd H p (.lst (zc0 xs lo hi)))
def zp7:SlR X (rSlL X.K):=by intro pins s σ H x v vl vu lo hi sl Q I J hs pl O h;obtain⟨a,xs,rfl,U,q⟩:=h;cases J;obtain⟨Y,r,F,Z⟩:=I.list U;have B:=r.length;show⟨"list",_,slot_list_getitem.lookup,F.isList.typeIs,?_⟩;show wpAny_getItem_list_slice F.isList hs pl O .none (by simp) ?_ (by grind);rw[zed,<- B];show⟨.ref s.heap.objs.size,_,I.laid (t':=s.toks) (o:=.lst (zc0 xs lo hi)) (λb ob q=>ai _ q) (ak _) ?_,rfl,q _ (I.hok.fresh (ak _))⟩;exact⟨aA (zap xs lo hi) Z,_,0,(r.drop (HT.sIx xs.length 0 lo)).take (HT.sIx xs.length xs.length hi - HT.sIx xs.length 0 lo),aw _ rfl⟩
def zcF:V->Bool
 | .non=>true
 | .bl _=>true
 | .int _=>true
 | .str _=>true
 | _=>false
def eqV:V->V->Bool
 | .non,.non=>true
 | .bl a,.bl b=>a==b
 | .bl a,.int b=>(if a then 1 else 0)==b
 | .int a,.bl b=>a==(if b then 1 else 0)
 | .int a,.int b=>a==b
 | .str a,.str b=>a==b
 | _,_=>false
def zq9(B:yd y u)(q:yd x v)(I:zcF y=true)(F:zcF x=true):SeqAt.EqAt A s u v (eqV y x):=by
 cases y with
 | non=>
  cases B
  cases x with
  | non=>cases q;exact SeqAt.EqAt.same _
  | bl b=>cases q;exact SeqAt.EqAt.none_bool b
  | int b=>obtain⟨t,rfl⟩:=q;exact SeqAt.EqAt.none_int b t
  | str b=>obtain⟨t,rfl⟩:=q;exact SeqAt.EqAt.none_str b t
  | _=>exact absurd (show false=true from F) ay
 | bl a=>
  cases B
  cases x with
  | non=>cases q;exact SeqAt.EqAt.bool_none a
  | bl b=>cases q;exact SeqAt.EqAt.bool_bool a b
  | int b=>obtain⟨t,rfl⟩:=q;exact SeqAt.EqAt.bool_int a b t
  | str b=>obtain⟨t,rfl⟩:=q;exact SeqAt.EqAt.bool_str a b t
  | _=>exact absurd (show false=true from F) ay
 | int a=>
  obtain⟨t',rfl⟩:=B
  cases x with
  | non=>cases q;exact SeqAt.EqAt.int_none a t'
  | bl b=>cases q;exact SeqAt.EqAt.int_bool a t' b
  | int b=>obtain⟨t,rfl⟩:=q;exact SeqAt.EqAt.int_int a t' b t
  | str b=>obtain⟨t,rfl⟩:=q;exact SeqAt.EqAt.int_str a t' b t
  | _=>exact absurd (show false=true from F) ay
 | str a=>
  obtain⟨t',rfl⟩:=B
  cases x with
  | non=>cases q;exact SeqAt.EqAt.str_none a t'
  | bl b=>cases q;exact SeqAt.EqAt.str_bool a t' b
  | int b=>obtain⟨t,rfl⟩:=q;exact SeqAt.EqAt.str_int a t' b t
  | str b=>obtain⟨t,rfl⟩:=q;exact SeqAt.EqAt.str_str a t' b t
  | _=>exact absurd (show false=true from F) ay
 | _=>exact absurd (show false=true from I) ay
def eqU (x:V)(u:Value):Bool:=match u with
 | .none=>eqV .non x
 | .bool b=>eqV (.bl b) x
 | .int i _=>eqV (.int i) x
 | .str z _=>eqV (.str z) x
 | _=>false
def znb(r:yd y u)(f:zcF y=true):eqU x u=eqV y x:=by
 cases y with
 | non=>cases r;rfl
 | bl b=>cases r;rfl
 | int i=>obtain⟨t,rfl⟩:=r;rfl
 | str z=>obtain⟨t,rfl⟩:=r;rfl
 | _=>exact absurd (show false=true from f) ay
def zfA:∀ {xs:AT} {us:AN},zT xs us->xs.all zcF=true->us.any (eqU x)=xs.any λy=>eqV y x
 | _,_,.nil,_=>rfl
 | y::xs,u::us,.cons r t,f=>by rw[dl,bI] at f;rw[cR,cR,znb r f.1,zfA t f.2]
def zdO {A:Ae}{s:AZ}{x:V}{v:Value}(B:yd x v)(F:zcF x=true):∀ {xs:AT} {us:AN},zT xs us->xs.all zcF=true->∀u∈us,SeqAt.EqAt A s u v (eqU x u)
 | _,_,.nil,_=>by grind
 | y::xs,u::us,.cons r t,f=>λI q=>by
  rw[dl,bI] at f;rcases aG.mp q with rfl | q;rw[znb r f.1];exact zq9 r B f.1 F;exact zdO B F t f.2 I q
def inV (x:V)(xs:AT):Bool:=xs.any λy=>eqV y x
def rIn (K:AH)(q:Bool):R2:=λx y H Q=>∃p xs,y = .ref p/\(SqL K H p xs\/SqT K H p xs)/\zcF x=true/\xs.all zcF=true/\Q (.bl (if q then !inV x xs else inV x xs)) H
def ze6:OpR X (compareOp .NotIn) (rIn X.K true):=by
 intro pins s σ H x y v u Q I O Y h;obtain⟨p,xs,rfl,F,U,fs,q⟩:=h;cases Y;rcases F with F | F;obtain⟨B,r,pl,Z⟩:=I.list F;show SeqAt.notIn_listAt (eqU x) pl.isList (λw J=>zdO O U r fs w (by simpa using J)) ⟨.bl _,H,I,rfl,?_⟩;rw[show B.toArray.any (eqU x)=B.any (eqU x) by simp,zfA r fs];exact q;obtain⟨B,r,pl,Z⟩:=I.tuple F;show SeqAt.notIn_tupleAt (eqU x) pl (λw J=>zdO O U r fs w (by simpa using J)) ⟨.bl _,H,I,rfl,?_⟩;rw[show B.toArray.any (eqU x)=B.any (eqU x) by simp,zfA r fs];exact q
def zeC:zdn X (.type "list") (λxs H Q=>∃p ys,xs=[.ref p]/\(SqL X.K H p ys\/SqT X.K H p ys)/\∀l,H l=none->Q (.ref l) (upd H l (.lst ys))):=by
 intro pins s σ H xs us Q I r h;obtain⟨p,ys,rfl,O,q⟩:=h;obtain⟨u,rfl,rx⟩:=zaY r;cases rx
 have fin:∀ (B:AN),zT ys B->ys.length<=sizeLine->∀ (h':Heap) (F:Nat),(∀b o',s.heap.get? b=some o'->h'.get? b=some o')->
   h'.get? s.heap.objs.size=some { cls:=.type "list",dict:=none,data:=.seq B.toArray F,slots:=#[] }->EP X pins σ Q (.ref s.heap.objs.size) { s with heap:=h' }:=λB J U h' F Y e=>
  ⟨.ref s.heap.objs.size,_,I.laid (t':=s.toks) Y (ak _) (show ya X.prog X.w _ h' _ (.lst ys) from ⟨U,B,F,J,e⟩),rfl,q _ (I.hok.fresh (ak _))⟩
 rcases O with O | O;obtain⟨B,J,pl,U⟩:=I.list O;have Z:=J.length;obtain⟨o,ho,hc,n,hd⟩:=pl.isList;exact call_list_seq p (.inl rfl) ho hc hd (λh' F Y e=>fin B J U h' F Y e) (by grind);obtain⟨B,J,pl,U⟩:=I.tuple O;have Z:=J.length;obtain⟨o,ho,hc,n,hd⟩:=pl;exact call_list_seq p (.inr rfl) ho hc hd (λh' F Y e=>fin B J U h' F Y e) (by grind)
def zdt:zdn X (.type "tuple") (λxs H Q=>∃p ys,xs=[.ref p]/\((SqL X.K H p ys/\∀l,H l=none->Q (.ref l) (upd H l (.tup ys)))\/(SqT X.K H p ys/\Q (.ref p) H))):=by
 intro pins s σ H xs us Q I r h;obtain⟨p,ys,rfl,h⟩:=h;obtain⟨u,rfl,U⟩:=zaY r;cases U;rcases h with ⟨hq,q⟩ | ⟨hq,q⟩;obtain⟨B,F,pl,J⟩:=I.list hq;have O:=F.length;show call_tuple_list pl.isList (λh' Y=>?_) (by grind);have I1:Inv X pins σ H { s with heap:=h' }:=I.kept (t':=s.toks) Y
 have I2:Inv X pins σ (upd H h'.objs.size (.tup ys)) { s with heap:=h'.push { cls:=.type "tuple",data:=.seq B.toArray } }:=
  I1.laid (t':=s.toks) (λb o e=>ai _ e) (ak _) (show ya X.prog X.w _ _ _ (.tup ys) from ⟨J,B,F,zae.new _ _⟩)
 exact⟨.ref h'.objs.size,_,I2,rfl,q _ (I1.hok.fresh (ak _))⟩;obtain⟨B,F,pl,J⟩:=I.tuple hq;exact call_tuple_same pl ⟨.ref p,H,I,rfl,q⟩
def tyV (K:AH)(T:String)(x:V)(H:Hp):Prop:=match x with
 | .str _=>T = "str"
 | .int _=>T = "int"
 | .ref p=>(T = "list" /\ ∃xs,SqL K H p xs)\/(T = "tuple" /\ ∃o,K.lookup p=some o/\o.cls = .type "tuple" /\ o.dict=none)\/
   (T = "dict" /\ ((∃kvs,H p=some (.dK kvs))\/∃kvs,H p=some (.dT kvs)))\/(T = "set" /\ ∃S n,H p=some (.set S n))
 | _=>False
def znP {pins:AB}{σ:St}{H:Hp}{s:AZ}{T:String}{x:V}{v:Value}(I:Inv X pins σ H s)(r:yd x v)(ty:tyV X.K T x H) :
  s.TypeIs v T/\∀a,v = .ref a->∃ob,s.heap.get? a=some ob/\ob.dict=none:=by
 cases x with
 | str z=>
  obtain⟨t,rfl⟩:=r;cases (show T = "str" from ty);exact⟨typeIs_str s z t,λ_ e=>nomatch e⟩
 | int i=>
  obtain⟨t,rfl⟩:=r;cases (show T = "int" from ty);exact⟨typeIs_int s i t,λ_ e=>nomatch e⟩
 | ref p=>
  cases r;rcases ty with ⟨rfl,xs,hq⟩ | ⟨rfl,o,q,hc,B⟩ | ⟨rfl,q⟩ | ⟨rfl,S,n,q⟩;obtain⟨J,_,pl,_⟩:=I.list hq;show⟨pl.isList.typeIs,λa e=>?_⟩;cases e;obtain⟨o,n,e,c,B,_⟩:=pl;exact⟨o,e,B⟩;show⟨⟨o,I.kIn p o q,hc⟩,λa e=>?_⟩;cases e;exact⟨o,I.kIn _ o q,B⟩
  have z:∃o,s.heap.get? p=some o/\o.ExactDict:=by
   rcases q with ⟨kvs,q⟩ | ⟨kvs,q⟩;obtain⟨_,_,_,_,o,_,_,e,ex,_⟩:=I.hok p _ q;exact⟨o,e,ex⟩;obtain⟨_,_,_,_,o,_,_,e,ex,_⟩:=I.hok p _ q;exact⟨o,e,ex⟩
  obtain⟨o,e,ex⟩:=z;show⟨⟨o,e,ex.1⟩,λa F=>?_⟩;cases F;exact⟨o,e,ex.2.1⟩;obtain⟨o,_,_,_,e,ex,_⟩:=I.hok p _ q;show⟨⟨o,e,ex.1⟩,λa F=>?_⟩;cases F;exact⟨o,e,ex.2.1⟩
 | _=>exact False.elim ty
def zvy (K:AH)(T:String)(r:V->AT->Hp->VK->Prop)(to:TE):TE:=λσ H Q=>to σ H λx H1=>tyV K T x H1/\r x [] H1 Q
def tBM (K:AH)(T:String)(r:V->AT->Hp->VK->Prop)(to:TE)(t:TA):TE:=λσ H Q=>to σ H λx H1=>tyV K T x H1/\t σ H1 λxs H2=>r x xs H2 Q
variable {o e:Expr}{es:AO}{to:TE}{t:TA}{name:Str}{apos cpos:Pos}{T id:String}{r:V->AT->Hp->VK->Prop}
def zr8 (U:PlainAttrs T)(F:Slot T name id)(J:typeOf (.builtin id)=pure (.type "method_descriptor"))(Y:MtR X id r)(Z:PE X o to)
  (q:attributeBase o name X.env (eval o X.env)=eval o X.env:=by rfl) (B:(apos.endLine==cpos.line)=true:=by rfl):PE X (.Call (.Attribute o name apos) [] [] cpos) (zvy X.K T r to):=by
 intro pins s σ H Q I h;show wpAny_Call_method0_late q B (thn (Z pins s σ H _ I h)  ?_);rintro v s1 ⟨x,H1,I1,O,ty,q1⟩;obtain⟨h1,h2⟩:=znP I1 O ty;exact⟨T,id,U,F,J,h1,h2,Calls.callWith_builtin rfl (PySem.evalArgs_none (Y pins s1 σ H1 x [] v [] Q I1 O .nil q1))⟩
def zr7 (pa:PlainAttrs T)(J:Slot T name id)(U:typeOf (.builtin id)=pure (.type "method_descriptor"))(hm:MtR X id r)(ho:PE X o to)(ha:PA X (e::es) t)
  (B:attributeBase o name X.env (eval o X.env)=eval o X.env:=by rfl)
  (O:((backTo cpos (starEach (e::es) X.env)).all (λx=>!x.1)&&(backToKw cpos (keywordEach [] X.env)).all (λx=>x.1.isSome)
   && decide ((e::es).length+([]:List Keyword).length+(if ([]:List Keyword).isEmpty then 0 else 1)<30))=true:=by rfl)
  (F:(apos.endLine==cpos.line)=true:=by rfl) (hs:starEach (e::es) X.env=(false,eval e X.env)::starEach es X.env:=by rfl) (q:(backTo cpos (starEach es X.env)).any (·.1)=false:=by rfl) :
  PE X (.Call (.Attribute o name apos) (e::es) [] cpos) (tBM X.K T r to t):=by
 intro pins s σ H Q I h;show wpAny_Call_method_late B O F rfl (thn (ho pins s σ H _ I h)  ?_);rintro v s1 ⟨x,H1,I1,Y,ty,q1⟩;obtain⟨h1,h2⟩:=znP I1 Y ty;show⟨T,id,pa,J,U,h1,h2,?_⟩;have Z:=ha cpos pins s1 σ H1 _ I1 q1;rw[hs] at Z ⊢;show Calls.callWith_builtin (by change (false || (backTo cpos (starEach es X.env)).any (·.1))=false;rw[q] <;> rfl) (Calls.evalArgs_plain ?_);exact thn Z <| by rintro us s2 ⟨vs,H2,I2,r2,q2⟩;exact hm pins s2 σ H2 x vs v us Q I2 Y r2 q2
end
def MtM (X:Cx)(id:String)(r:V->AT->Hp->VK->Prop):Prop:=
 ∀ (pins:AB) (s:AZ) (σ:St) (H:Hp) (x:V) (xs:AT) (v:Value) (us:AN) (Q:VK),Inv X pins σ H s->yd x v->zT xs us->r x xs H Q->
  Af X (call (.builtin id) (v::us)) (EP X pins σ Q) X.xe s
def zT.one:∀ {x:V} {us:AN},zT [x] us->∃u,us=[u]/\yd x u
 | _,_,.cons r .nil=>⟨_,rfl,r⟩
def zT.zero:∀ {us:AN},zT [] us->us=[]
 | _,.nil=>rfl
def zT.dropLast(h:zT xs us):zT xs.dropLast us.dropLast:=by
 induction h with
 | nil=>exact .nil
 | cons r t B=>
  cases t with
  | nil=>exact .nil
  | cons q t'=>exact .cons r B
section
variable {X:Cx}{pins:AB}{σ:St}{H:Hp}{s:AZ}{l b:Addr}{xs ys zs:AT}
def Inv.lset{B its':AN}{f:AK->AK}(I:Inv X pins σ H s)(F:H l=some (.lst xs))(e:s.heap.get? l=some { cls:=.type "list",data:=.seq B.toArray n })(J:f B.toArray=its'.toArray)(O:zT ys its')(U:ys.length<=sizeLine) :
  Inv X pins σ (upd H l (.lst ys)) { s with heap:=s.heap.update l (Obj.mapSeq f),toks:=t' }:=by
 have q:=PySem.IsL.update e f;rw[J] at q;show I.write (x:=l) (e:=l) (by rw[F];exact trivial) (.inl rfl) (λb' u Y Z=>(bK s.heap (Obj.mapSeq f) (Ne.symm Y)).trans Z) ⟨_,q⟩ ?_;exact⟨U,its',_,O,q⟩
def Inv.lnew(I:Inv X pins σ H s)(F:zT ys B)(J:ys.length<=sizeLine) :
  Inv X pins σ (upd H s.heap.objs.size (.lst ys)) { s with heap:=s.heap.push { cls:=.type "list",data:=.seq B.toArray },toks:=t' }:=
 I.laid (λ_ _ q=>ai _ q) (ak _) ⟨J,B,0,F,aw _ rfl⟩
def Inv.fresh (I:Inv X pins σ H s):H s.heap.objs.size=none:=I.hok.fresh (ak _)
def Inv.lstM (I:Inv X pins σ H s)(B:H l=some (.lst xs)):xs.length<=sizeLine/\∃ (q:AN) (n:Nat),zT xs q/\xs.length=q.length/\s.heap.get? l=some { cls:=.type "list",data:=.seq q.toArray n }:=by obtain⟨z,q,n,r,e⟩:=I.hok l _ B;exact⟨z,q,n,r,r.length,e⟩
def zl3(h:n<=sizeLine):Builtin.List.listTooLong n=false:=by
 unfold Builtin.List.listTooLong;right
def zgi:V->AT->Hp->VK->Prop:=λx vs H Q=>∃l xs y,x = .ref l/\vs=[y]/\H l=some (.lst xs)/\xs.length<sizeLine/\Q .non (upd H l (.lst (xs++[y])))
def ze1:MtM X "list.append" zgi:=by intro pins s σ H x vs v us Q I O U h;obtain⟨l,xs,y,rfl,rfl,J,Z,q⟩:=h;cases O;obtain⟨u,rfl,Y⟩:=U.one;obtain⟨z,B,n,r,hl,e⟩:=I.lstM J;show call_meets F.slot_list_append ⟨_,e,rfl⟩ F.entry_list_append (F.args_list_append_2 _ _) (PySem.list_append l B.toArray n u (by grind)) ⟨e,?_⟩;show⟨.non,_,I.lset (its':=B++[u]) J e (by simp) (r.append (.cons Y .nil)) ?_,rfl,q⟩;rw[ao,cr];lia
def zpN:V->AT->Hp->VK->Prop:=λx vs H Q=>∃l b xs zs,x = .ref l/\vs=[.ref b]/\H l=some (.lst xs)/\H b=some (.lst zs)/\xs.length+zs.length<=sizeLine/\Q .non (upd H l (.lst (xs++zs)))
def zjS:MtM X "list.extend" zpN:=by
 intro pins s σ H x vs v us Q I Y Z h;obtain⟨l,b,xs,zs,rfl,rfl,U,hB,hz,q⟩:=h;cases Y;obtain⟨u,rfl,ru⟩:=Z.one;cases ru;obtain⟨z,J,n,r,hl,e⟩:=I.lstM U;obtain⟨z2,B,n2,r2,aa,e2⟩:=I.lstM hB;have hsz:J.toArray.size+B.toArray.size<=sizeLine:=by rw[aW,aW];lia
 have O:¬ (!J.toArray.isEmpty&&Builtin.List.listTooLong (J.toArray.size+B.toArray.size))=true:=by
  rw[zl3 hsz,Bool.and_false];grind
 show call_meets F.slot_list_extend ⟨_,e,rfl⟩ F.entry_list_extend (F.args_list_extend_2 _ _)
  (AutoSeq1.list_extend_list_list_0 l J.toArray n b B.toArray n2 O (by lia) (by lia)) ⟨e,e2,?_⟩
 show⟨.non,_,I.lset (its':=J++B) U e (by simp) (r.append r2) ?_,rfl,q⟩;right
def zvr:V->AT->Hp->VK->Prop:=λx vs H Q=>∃l xs y,x = .ref l/\vs=[]/\H l=some (.lst xs)/\xs[xs.length - 1]?=some y/\Q y (upd H l (.lst xs.dropLast))
def zrJ:MtM X "list.pop" zvr:=by
 intro pins s σ H x vs v us Q I Y Z h;obtain⟨l,xs,y,rfl,rfl,U,hy,q⟩:=h;cases Y;have J:=Z.zero;subst J;obtain⟨z,B,n,r,hl,e⟩:=I.lstM U;obtain⟨u,hu,ru⟩:=r.get hy;have O:B.toArray[B.toArray.size - 1]?=some u:=by right
 show call_meets F.slot_list_pop ⟨_,e,rfl⟩ F.entry_list_pop (F.args_list_pop_1 _) (MeetsSeq.list_pop_last l B.toArray n u O (by right)) ⟨e,?_⟩;show⟨y,_,I.lset (its':=B.dropLast) U e ?_ r.dropLast ?_,ru,q⟩;right;rw[List.length_dropLast];lia
def rCat:R2:=λx y H Q=>∃l b xs zs,x = .ref l/\y = .ref b/\H l=some (.lst xs)/\H b=some (.lst zs)/\xs.length+zs.length<=sizeLine/\∀p,H p=none->Q (.ref p) (upd H p (.lst (xs++zs)))
def zrR:OpR X (binaryOp .Add) rCat:=by
 intro pins s σ H x y v u Q I J O h;obtain⟨l,b,xs,zs,rfl,rfl,U,Y,hz,q⟩:=h;cases J;cases O;obtain⟨z,F,n,r,hl,e⟩:=I.lstM U;obtain⟨z2,B,n2,Z,aa,e2⟩:=I.lstM Y;show PySem.P.add_list e e2 ?_ (by right);have ea:F.toArray++B.toArray=(F++B).toArray:=by simp
 rw[ea];exact⟨.ref _,_,I.lnew (t':=s.toks) (r.append Z) (by right),rfl,q _ I.fresh⟩
variable {prog:Aa}{w:Ab}{A:Ae}{E:AA}
end
end L2
namespace Att
open PySem.W PySem.Calls PyProof.Rows
def zb3:∀ (ns:AG) (vs:AN),WellAll P h vs (ns.map WData.int)->IntsAre vs ns:=by
 intro ns
 induction ns with
 | nil=>
  intro vs w;rw[List.map_nil] at w;cases w;exact .nil
 | cons n ns q=>
  intro vs w;rw[List.map_cons] at w
  cases w with
  | cons a b=>
   cases a;exact .cons _ _ (q _ b)
def zkB{l:OpenLaw}(hn:l.most=some n){P:Params}{h:Heap}{q:AN}(B:l.row.toRowW.claim.pre args=true)(J:WellAll P h q args) :
  ∃a vs ns,q=[Value.ref a]/\args=[WData.list (ns.map WData.int)]/\h.get? a=some { cls:=.type "list",data:=.seq vs.toArray }/\IntsAre vs ns/\ns.length<=n:=by
 have O:WShape.hasAll [] args [.list .int]=true:=(pre_splitW B).1;have U:l.pre.holds [] { args:=args }=true:=(pre_splitW B).2;obtain⟨d,r,rfl,h1,h2⟩:=hasAllW_cons O;obtain rfl:=hasAllW_nil h2;obtain⟨xs,rfl,Z⟩:=hasW_list h1;obtain⟨ns,rfl⟩:=items_int Z
 have F:ns.length<=n:=by
  unfold OpenLaw.pre at U
  have Y:(WTm.not (.lt (.lit (.int (n:Int))) (.len (.arg 0)))).holds [] { args:=[.list (ns.map .int)] }=true:=by
   have Y:=(holds_andW U).1;right
  have h5:=condW_of Y (w_not (w_lt w_lit (w_len_list (w_arg rfl))));grind
 cases J with
 | cons w1 w2=>
  cases w2
  cases w1 with
  | list ho I=>exact⟨_,_,ns,rfl,rfl,ho,zb3 ns _ I,F⟩
def zka (l:OpenLaw)(args:List WData):l.row.toRowW.claim.post args (.bool true) args=true:=
 postW_of (r:=l.row.toRowW) (X:=(true==true))
  (show WShape.has [] (.bool true) .bool=true by first | rfl | decide | simp[WShape.has,WShape.arms,WShape.armsAll])
  (show (WTm.eq .res (.lit (.bool true))).value [] { args:=args,res:=some (.bool true),after:=args }=some (.bool (true==true)) from w_eq_bool (w_res rfl) w_lit) rfl
def attach_call{l:OpenLaw}{q:Aa}{F:AM}{XP:(AI)->Heap->Prop}{YP:Ab->Heap->Prop}{d:DefRec}(hn:l.most=some n)(ac:d.params.defaults=[])(U:∀ (w:Ab) (I B:AZ) (mg mb:AI) (fa:Addr) (o:Obj) (pm cd J:Value) (a:Addr) (vs:AN) (ns:AG),
   Ground q F [] XP w I mg mb B.heap->YP w B.heap->
   B.heap.get? fa=some o->o.data = .func (docDef d.name d.params d.body d.scope pm cd J)->B.heap.CodeRec cd d.name->mg d.name=some (.ref fa)->
   B.heap.get? a=some { cls:=.type "list",data:=.seq vs.toArray }->IntsAre vs ns->ns.length<=n->B.gens = #[]->
   codeAny (model l.prog w) callerA (.call (.ref fa) ⟨[.ref a],[]⟩) (λr s'=>r = .ok (.ret (.bool true))/\OldK B.heap s'.heap/\s'.os=B.os/\AllBare s'.gens) B) :
  WalkO q F XP YP l.row.toRowW d [] (λf vs=>PySem.call f vs):=by
 intro w I B mg mb G Y fa o pm cd J dV kV ho hd ad hD ag hg args an as Z ap a0 al a1;obtain rfl:dV = .none:=Dflts.none hD ac;obtain rfl:kV = .none:=Dflts.noKw hD;obtain⟨a,vs,ns,rfl,rfl,aa,O,ab⟩:=zkB hn Z al;show enter_call (codeAny_mono (U w I B mg mb fa o pm cd J a vs ns G Y ho (fd_plain hd) ad ag aa O ab hg) λr s' hq=>?_);obtain⟨rfl,h2,h3,h4⟩:=hq;exact⟨.inl ⟨.bool true,.bool true,[],rfl,λ_=>rfl,.bool true,zka l _,λ_=>⟨List.Pairwise.nil,λ_ hm=>(nomatch hm)⟩⟩,h2,h3,h4⟩
section
variable {prog:Aa}{w:Ab}{A:Ae}{E:AA}{s:AZ}{K:Frag}
def ledger (h:Heap)(L d:Addr):AB:=(List.range h.objs.size).filterMap λa=>if a=L\/a=d then none else (h.get? a).map λo=>(a,o)
end
end Att
namespace L2
open PyProof.Rows
def zfs:∀ {vs:AN} {ns:AG},IntsAre vs ns->zT (ns.map V.int) vs
 | _,_,.nil=>.nil
 | _,_,.cons n t h=>.cons ⟨t,rfl⟩ (zfs h)
def ztB (H:Hp):Prop:=∀b,H b=none\/∃o xs,H b=some (.frz o (.lst xs))
def zlR{P:Aa}{w:Ab}{K:AH}{mg mb:AI}{CX:CXT}{fa a:Addr}{fd:Ac}{sp:Sp}{B:AZ}{vs:AN}{ns:AG}(KX:K.In B.heap)(Z:B.heap.Ns mainGlobals mg)(J:B.heap.Ns builtinsNs mb)(al:∀x:Str,x ≠ "__name__" -> mb x=bootBuiltins x)(aa:B.heap.NoLimit)(hg:B.gens = #[])(ha:B.heap.get? a=some { cls:=.type "list",data:=.seq vs.toArray })(hi:IntsAre vs ns)(hl:ns.length<=sizeLine)(hr:Room k callerA)(F:∀base:Heap,K.In base->base.Ns mainGlobals mg->FnOk P w K mg base CX k fa fd [x] sp)(Y:∀ (s:AZ) (u:Value),BindsTo s fd ⟨[u],[]⟩ [(x,u)])(an:∀H:Hp,ztB H->SqL K H a (ns.map V.int)->sp [.ref a] H (λv _=>v = .bl true) λ_ _ _=>False)(ap:∀H e s',CX [] H B (λ_ _ _=>False) e s'->False) :
  codeAny (model P w) callerA (.call (.ref fa) ⟨[.ref a],[]⟩) (λr s'=>r = .ok (.ret (.bool true))/\OldK B.heap s'.heap/\s'.os=B.os/\AllBare s'.gens) B:=by
 have rv:=zfs hi;have a0:=hi.length
 have U:∀H:Hp,ztB H->SqL K H a (ns.map V.int)->HOk P w H B.heap->(∀b,H b≠none->b=a)->(H a≠none->K.lookup a=none)->
   codeAny (model P w) callerA (.call (.ref fa) ⟨[.ref a],[]⟩) (λr s'=>r = .ok (.ret (.bool true))/\OldK B.heap s'.heap/\s'.os=B.os/\AllBare s'.gens) B:=by
  intro H hO hS ab hA hK;have I:∀ {b:Addr} {o:Obj},B.heap.get? b=some o->H b=none->(zlD B.heap H).get? b=some o:=λe n=>zlE e n;have as:∀ {b:Addr} {o:Obj} {es:Array DictEntry} {ep:Nat},B.heap.get? b=some o->o.data = .dict es ep->H b=none:=λ{b o es ep} e d=>by grind
  have O:∀ {b:Addr} {m:AI},B.heap.Ns b m->(zlD B.heap H).Ns b m:=λ{b m} ⟨o,es,ep,e,d,r⟩=>⟨o,es,ep,I e (as e d),d,r⟩;have ac:K.In (zlD B.heap H):=λb o e=>I (KX b o e) (by grind);have hM:Mod K mg (zlD B.heap H):=⟨ac,O Z,⟨mb,O J,al⟩,let ⟨mc,h1,h2⟩:=aa;⟨mc,O h1,h2⟩⟩;have e0:Env0 P w K mg (zlD B.heap H) callerA [] B H:=⟨rfl,hM,λb o e=>zo3 e,Nat.le_of_eq (zjb _ _),trivial,λb J=>absurd (show b∈([]:AY) from J) (by simp),ab,.of_eq hg⟩;show gf ((F _ ac (O Z)).run callerA [] B H ⟨[.ref a],[]⟩ [.ref a] [.ref a] _ _ hr e0 (Y B (.ref a)) (.cons rfl .nil) (an H hO hS)) λr s' h=>?_
  cases r with
  | error e=>exact (ap H e s' h).elim
  | ok fl=>
   cases fl with
   | next=>exact False.elim h
   | brk=>exact False.elim h
   | cont=>exact False.elim h
   | ret u=>
    obtain⟨v,H',os,ad,un,ag,r',q⟩:=h;have q':v = .bl true:=q;subst q';obtain rfl:u=Value.bool true:=r';show⟨rfl,OldK.of_keep λb o e=>?_,os,ad⟩
    cases q:H b with
    | none=>exact un.keep b o e q (by intro z;exact absurd (show b∈([]:AY) from z) (by simp)) (by simp)
    | some u=>
     rcases hO b with z | ⟨ob,xs,z⟩;grind;have z2:=un.frzs b ob _ z;obtain⟨e1,_⟩:=ab b _ z;obtain⟨e2,_⟩:=ag b _ z2;grind
 cases hk:K.lookup a with
 | some o=>
  have e:=KX a o hk;rw[ha] at e;cases e;show U (λ_=>none) (λ_=>.inl rfl) (.inr ⟨_,vs.toArray,_,hk,rfl,rfl,rfl,by right,by simpa using rv⟩) (λb u z=>by lia) (by grind) λz=>absurd rfl z
 | none=>
  show U (λb=>if b=a then some (.frz { cls:=.type "list",data:=.seq vs.toArray } (.lst (ns.map V.int))) else none) (λb=>?_) (.inl (.inr ⟨{ cls:=.type "list",data:=.seq vs.toArray },if_pos rfl⟩)) (λb u z=>?_) (λb z=>?_) λ_=>hk;by_cases J:b=a;exact .inr ⟨_,_,if_pos J⟩;exact .inl (if_neg J);by_cases J:b=a;have z':=(if_pos J).symm.trans z;cases z';subst J;exact⟨ha,by right,vs,_,rv,ha⟩;right;grind
def zqy{l:PySem.W.OpenLaw}{q:Aa}{I:AM}{XP:(AI)->Heap->Prop}{YP:Ab->Heap->Prop}{d:DefRec}{K:Params->AH}{CX:Ab->CXT}{sp:Ab->Sp}(hn:l.most=some n)(Z:n<=sizeLine)(aa:d.params.defaults=[])(hr:Room k callerA)(hY:∀ (w:Ab) (h:Heap),YP w h->(K w.params).In h)(F:∀ (w:Ab) (mg:AI) (fa:Addr) (h:Heap),(K w.params).In h->h.Ns mainGlobals mg->mg d.name=some (.ref fa)->
   ∃fd:Ac,(∀ (s:AZ) (u:Value),BindsTo s fd ⟨[u],[]⟩ [(x,u)])/\
    ∀base:Heap,(K w.params).In base->base.Ns mainGlobals mg->FnOk l.prog w (K w.params) mg base (CX w) k fa fd [x] (sp w))(ab:∀ (w:Ab) (H:Hp) (a:Addr) (ns:AG),ns.length<=n->ztB H->SqL (K w.params) H a (ns.map V.int)->sp w [.ref a] H (λv _=>v = .bl true) λ_ _ _=>False)(ac:∀ (w:Ab) (H:Hp) (s:AZ) (e:Value) (s':AZ),CX w [] H s (λ_ _ _=>False) e s'->False) :
  PySem.W.WalkO q I XP YP l.row.toRowW d [] (λf vs=>PySem.call f vs):=by
 show Att.attach_call hn aa λw ag O mg mb fa o pm cd al a vs ns G Y ho hd an ad U J B hg=>?_;have KX:=hY w _ Y;obtain⟨fd,hb,hF⟩:=F w mg fa _ KX G.T.g ad;exact zlR KX G.T.g G.T.b G.T.builtins G.T.nolimit hg U J (aA B Z) hr hF hb (λH hO hS=>ab w H a ns B hO hS) λH e s'=>ac w H O e s'
def z7 (s:Stmt):Arguments:=match s with
 | .FunctionDef _ a _ _ _ _ _ _ _ _=>a
 | _=>{ posonlyargs:=[],args:=[],vararg:=none,kwonlyargs:=[],kw_defaults:=[],kwarg:=none,defaults:=[] }
def zw (s:Stmt):List Stmt:=match s with
 | .FunctionDef _ _ b _ _ _ _ _ _ _=>b
 | _=>[]
def zc (s:Stmt):Scope:=match s with
 | .FunctionDef _ _ _ _ _ _ q _ _ _=>q
 | _=>{ kind:=.function,names:=[],isGenerator:=false,isCoroutine:=false }
abbrev CX0:CXT:=λ_ _ _ _ _ _=>False
abbrev E0:XK:=λ_ _ _=>False
def zj5:zcV CX0 X E0:=λ_ _ _ _ _ _ _ h=>h.elim
structure Fun (K:AH)(x qual:Str)(st:Stmt)(f:Addr)(fd:Ac):Prop where
 ex:∃ (oc:Value) (od:Option Addr) (kV doc pm:Value) (an:Option Addr) (cdv ct:Value) (osl:Array AJ),
  fd=PySem.W.fnOf x qual (z7 st) (zw st) (zc st) .none kV doc pm an cdv ct/\K.lookup f=some ⟨oc,od,.func fd,osl⟩/\PySem.W.codeIn K cdv qual=true
 kp:PySem.W.keepIn K (.ref f)=true
section
variable {P:Aa}{w:Ab}{K:AH}{mg:AI}{base:Heap}
def Fun.ok{x I:Str}{st:Stmt}{f:Addr}{fd:Ac}{N ps:AM}{sp:Sp}(F:Fun K x I st f fd)(S:FnScope N ps (zc st))(U:∀vs H Q E,sp vs H Q E->vs.length=ps.length)(O:∀ (J:Value) (A:Ae) (B:List Env) (s:AZ) (H:Hp) (vs:AT) (Q:VK) (E:XK),Room k (A.deeper (envOfC I (zc st) s.heap.objs.size f J))->sp vs H Q E->
   ∃t,PSs (zes CX0 P w K mg base N I (zc st) f J A B s H E).nox (zw st) t/\t { nx:=λ_ H'=>Q .non H',rt:=Q } (xn N vs) H):FnOk P w K mg base CX0 (k+1) f fd ps sp:=by
 obtain⟨oc,od,kV,aa,pm,an,J,ct,ab,rfl,lk,Y⟩:=F.ex;show zrg lk Y S U λA B s H vs Q E hr Z=>?_;obtain⟨t,h,q⟩:=O J A B s H vs Q E hr Z;exact⟨t,h.nox,q⟩
def Fun.binds {x q:Str}{st:Stmt}{f:Addr}{fd:Ac}{ps:AM}(F:Fun K x q st f fd)
  (h:∀ (kV B J:Value) (O:Option Addr) (I ct:Value) (us:AN),us.length=ps.length->bindArgs (PySem.W.fnOf x q (z7 st) (zw st) (zc st) .none kV B J O I ct) ⟨us,[]⟩=pure (ps.zip us)):zac K fd ps []:=by
 obtain⟨Z,od,kV,B,J,O,I,ct,U,rfl,lk,Y⟩:=F.ex;exact .all (h kV B J O I ct)
def zgR{x q:Str}{st:Stmt}{f:Addr}{Y J:Option Addr}{kV F O B ct:Value}(l:K.lookup f=some ⟨U,Y,.func (PySem.W.fnOf x q (z7 st) (zw st) (zc st) .none kV F O J B ct),I⟩)(c:PySem.W.codeIn K B q=true)(k:PySem.W.keepIn K (.ref f)=true):Fun K x q st f (PySem.W.fnOf x q (z7 st) (zw st) (zc st) .none kV F O J B ct):=⟨⟨U,Y,kV,F,O,J,B,ct,I,rfl,l,c⟩,k⟩
end
def za6(q:Room k A):A.units+1<cLine:=aZ (Nat.add_le_add_left (by decide:1<=64) _) q.units
def zcC(h:n<=1000):n<sizeLine:=aZ h (by ext)
section
variable {X:Cx}
def pv (i:Nat){x:Str}{pos:Pos}(B:X.N[i]?=some x:=by rfl)(F:Vis X.env.scope x:=by walk_at "v")(I:Ah x:=by ext)
  (q:(x==("__classdict__" : Str))=false:=by ext):PE X (.Name x pos) (zaU i):=znu B F I q
end
def zrn {A B:Prop}(h:B):if false=true then A else B:=by grind
def iteT {A B:Prop}(h:A):if true=true then A else B:=by grind
def znf {c A B:Prop}[Decidable c](h1:c->A)(h2:¬ c->B):if c then A else B:=by grind
def yO (H H':Hp):Prop:=∀b o,H b=some o->H' b=some o
def yO.free(e:yO H H')(h:H' l=Option.none):H l=Option.none:=by
 cases q:H l with
 | none=>rfl
 | some o=>
  rw[e l o q] at h;cases h
section
variable {κ:Type}[DecidableEq κ]
variable {X:Cx}
def zfC:zdn X (.builtin "isinstance") (λxs H Q=>∃x T t b,xs=[x,.ty T]/\TyOf X.K H x t/\PySem.W.kitOne X.K t (.type T)=some b/\Q (.bl b) H):=by intro pins s σ H xs us Q I r h;obtain⟨x,T,t,b,rfl,ty,e,q⟩:=h;obtain⟨u,c,rfl,B,F⟩:=zvS r;cases F;exact zjj I B ty e λtk=>⟨.bl b,H,I.tok tk,rfl,q⟩
def zmr (K:AH):R2:=λx y H Q=>∃a b xs ys,x = .ref a/\y = .ref b/\H a=some (.tup xs)/\H b=some (.tup ys)/\xs.length+ys.length<=sizeLine/\
 ∀p H',H' p=some (.tup (xs++ys))->yO H H'->Q (.ref p) H'
def zo4:OpR X (binaryOp .Add) (zmr X.K):=by
 intro pins s σ H x y v u Q I rx ry h;obtain⟨a,b,xs,ys,rfl,rfl,ha,Y,hz,q⟩:=h;by_cases hx:xs=[]
 ·subst hx;cases rx;cases ry;obtain⟨B,r1,p1,_⟩:=I.tuple (.of ha);obtain⟨F,r2,p2,_⟩:=I.tuple (.of Y);obtain⟨⟨cls,dd,data,sl⟩,ho,hc,n,hd⟩:=id p1;obtain⟨⟨ac,Z,aa,ab⟩,J,O,n2,U⟩:=id p2;simp only at hc hd O U;subst hc hd O U;have hi:B=[]:=r1.nil_iff.mpr rfl
  exact concat_meets ⟨_,ho,rfl⟩ ⟨_,J,rfl⟩ fZ seq_tuple_add dY dQ (dN _ _)
   (tuple_addW0 a b B.toArray F.toArray n n2 dd Z sl ab (by simp[hi])) ⟨ho,J,⟨.ref b,H,I,rfl,q b H Y λ_ _ e=>e⟩⟩
 show zo5 pins s σ H _ _ v u Q I rx ry ⟨a,b,xs,ys,rfl,rfl,.of ha,.of Y,hx,hz,λe=>?_,λe p hp=>?_⟩;subst e;exact q a H (by right) λ_ _ e=>e;exact q p _ zg λc o e=>by rw[ze (zf e hp)];exact e
end
end L2
namespace HT
open PyProof.Rows
section
variable {prog:Aa}{w:Ab}{A:Ae}{E:AA}{s:AZ}
def getItem_tuple_whole{lo hi:AQ}(q:IsTup s.heap t items)(hs:s.heap.IsSliceOf F U Y .none)(pl:IsPart U lo)(Z:IsPart Y hi)(hw:sIx items.size 0 lo=0/\sIx items.size items.size hi=items.size)(h:Q (.ref t) s)(hsz:items.size<=sizeLine):Ag prog w A (getItem (.ref t) (.ref F)) Q E s:=by
 obtain⟨os,I,J,aa⟩:=id hs;have O:s.TypeIs (.ref F) "slice" := ⟨os,I,J⟩;unfold getItem;try with_reducible show wpAny_holding ?_
 first | show wpAny_bind (wpAny_pure ?_) | skip
 show wpAny_bind (wpAny_sequenceKey q.typeIs (by ext) ?_)
 show wpAny_bind (wpAny_callSpecial?_slot (name:=Str.ofString "__getitem__") q.typeIs PyProof.Rows.slot_tuple_getitem
  (wpAny_call_entry PyProof.Rows.slot_tuple_getitem q.typeIs entry_tuple_getitem ?_ (args_tuple_getitem _ _)))
 change wpAny _ _ (Builtin.Tuple.tupleItemsOf (.ref t) >>= _) _ _ s;show wpAny_bind (tupleItemsOf_ q ?_);show wpAny_bind (wpAny_typeOf O ?_);rw[if_pos (by ext)];show wpAny_bind (uy hs pl Z ?_);have B:(((sIx items.size 0 lo:Nat):Int)==0&&(1:Int)==1&&(sIx items.size items.size hi - sIx items.size 0 lo)==items.size)=true:=by right
 change wpAny _ _ (if (((sIx items.size 0 lo:Nat):Int)==0&&(1:Int)==1&&(sIx items.size items.size hi - sIx items.size 0 lo)==items.size)=true then _ else _) _ _ s;rw[if_pos B];unfold Builtin.Tuple.tupleIsExact;show wpAny_bind (wpAny_bind (wpAny_typeOf q.typeIs ?_));show wpAny_pure ?_;rw[if_pos (by ext)];show wpAny_bind (wpAny_rule ?_);exact wpAny_pure ⟨_,rfl,wpAny_pure h⟩
end
end HT
namespace L2
open PyProof.Rows
section
variable {X:Cx}
def rSlA:V->AQ->AQ->Hp->VK->Prop:=λx lo hi H Q=>∃a xs,x = .ref a/\H a=some (.tup xs)/\∀p H',H' p=some (.tup (zc0 xs lo hi))->yO H H'->Q (.ref p) H'
def zp8:SlR X rSlA:=by
 intro pins s σ H x v vl vu lo hi sl Q I J hs pl O h;obtain⟨a,xs,rfl,U,q⟩:=h;by_cases Y:HT.sIx xs.length 0 lo=0/\HT.sIx xs.length xs.length hi=xs.length;cases J;obtain⟨F,r,Z,hz⟩:=I.tuple (.of U);have B:F.toArray.size=xs.length:=by rw[aW];exact r.length.symm
 show⟨"tuple",_,PyProof.Rows.slot_tuple_getitem.lookup,Z.typeIs,?_⟩;show HT.getItem_tuple_whole Z hs pl O (by rw[B];exact Y) ⟨.ref a,H,I,rfl,q a H ?_ λ_ _ e=>e⟩ (by rw[B];exact hz);unfold zc0;grind;exact zsW pins s σ H _ v vl vu lo hi sl Q I J hs pl O ⟨a,xs,rfl,.of U,Y,λp hp=>q p _ zg λc o e=>by rw[ze (zf e hp)];exact e⟩
inductive Dt where
 | non | bl (b:Bool) | int (i:Int) | str (x:Str) | tup (l:List Dt) | lst (l:List Dt) | dct
abbrev AS:=List Dt
mutual
def Is (H:Hp):Dt->V->Prop
 | .non,v=>v = .non
 | .bl b,v=>v = .bl b
 | .int i,v=>v = .int i
 | .str x,v=>v = .str x
 | .tup l,v=>∃a xs,v = .ref a/\H a=some (.tup xs)/\IsL H l xs
 | .lst l,v=>∃a xs,v = .ref a/\H a=some (.lst xs)/\IsL H l xs
 | .dct,v=>∃a kvs,v = .ref a/\H a=some (.dK kvs)/\xE kvs (Sum.inr "at" : Key)=none
def IsL (H:Hp):AS->AT->Prop
 | [],xs=>xs=[]
 | d::ds,xs=>∃x r,xs=x::r/\Is H d x/\IsL H ds r
end
def kO (d:Addr)(ob:Obj):HO:=.ext λh=>h.get? d=some ob
open Classical in
@[reducible] noncomputable def pnK:HO->Option (List (Key×V))
 | .dK kvs=>some kvs
 | .ext q=>if (∃d ob,(∃h:Heap,h.get? d=some ob)/\q=λh=>h.get? d=some ob) then some [(Sum.inr "at",.non)] else none
 | _=>none
def zu (H H':Hp):Prop:=∀b o,H b=some o->(∀kvs,pnK o=some kvs->xE kvs (Sum.inr "at" : Key)=none)->H' b=some o
def zu.refl (H:Hp):zu H H:=λ_ _ e _=>e
def zu.trans(a:zu H H1)(b:zu H1 H2):zu H H2:=λc o e n=>b c o (a c o e n) n
def zu.same(a:yO H H1):zu H H1:=λc o e _=>a c o e
def zu.upd(h:H p=none):zu H (upd H p o):=λc u e _=>by rw[ze (zf e h)];exact e
def yO.upd(h:H p=none):yO H (upd H p o):=λc u e=>by rw[ze (zf e h)];exact e
def zu.tup(a:zu H H1)(h:H p=some (.tup xs)):H1 p=some (.tup xs):=a _ _ h λ_ e=>by cases e
def zu.lst(a:zu H H1)(h:H p=some (.lst xs)):H1 p=some (.lst xs):=a _ _ h λ_ e=>by cases e
mutual
def Is.stay {H H1:Hp}(a:zu H H1):∀ {d:Dt} {v:V},Is H d v->Is H1 d v
 | .non,_,h=>h
 | .bl _,_,h=>h
 | .int _,_,h=>h
 | .str _,_,h=>h
 | .tup l,v,h=>by obtain⟨p,xs,e,hp,hl⟩:=h;exact⟨p,xs,e,a.tup hp,IsL.stay a hl⟩
 | .lst l,v,h=>by obtain⟨p,xs,e,hp,hl⟩:=h;exact⟨p,xs,e,a.lst hp,IsL.stay a hl⟩
 | .dct,v,h=>by obtain⟨p,kvs,e,hp,hl⟩:=h;exact⟨p,kvs,e,a _ _ hp λkvs' e=>by cases e;exact hl,hl⟩
def IsL.stay {H H1:Hp}(a:zu H H1):∀ {ds:AS} {xs:AT},IsL H ds xs->IsL H1 ds xs
 | [],_,h=>h
 | d::ds,xs,h=>by obtain⟨x,r,e,h1,h2⟩:=h;exact⟨x,r,e,Is.stay a h1,IsL.stay a h2⟩
end
def IsL.length:∀ {ds:AS} {xs:AT},IsL H ds xs->xs.length=ds.length
 | [],_,h=>by cases h;rfl
 | d::ds,xs,h=>by obtain⟨x,r,rfl,_,h2⟩:=h;rw[aO,aO,IsL.length h2]
def IsL.get:∀ {ds:AS} {xs:AT} {i:Nat} {x:V},IsL H ds xs->xs[i]?=some x->∃d,ds[i]?=some d/\Is H d x
 | [],_,_,_,h,e=>by cases h;simp at e
 | d::ds,xs,i,x,h,e=>by
  obtain⟨y,r,rfl,h1,h2⟩:=h
  cases i with
  | zero=>simp at e;subst e;exact⟨d,rfl,h1⟩
  | succ i=>
   obtain⟨d',q,B⟩:=IsL.get (i:=i) (x:=x) h2 (by simpa using e);right
def IsL.getD:∀ {ds:AS} {xs:AT} {i:Nat} {d:Dt},IsL H ds xs->ds[i]?=some d->∃x,xs[i]?=some x/\Is H d x
 | [],_,_,_,_,e=>by simp at e
 | d::ds,xs,i,x,h,e=>by
  obtain⟨y,r,rfl,h1,h2⟩:=h
  cases i with
  | zero=>simp at e;subst e;exact⟨y,rfl,h1⟩
  | succ i=>
   obtain⟨d',q,B⟩:=IsL.getD (i:=i) (d:=x) h2 (by simpa using e);right
def IsL.append:∀ {ds es:AS} {xs ys:AT},IsL H ds xs->IsL H es ys->IsL H (ds++es) (xs++ys)
 | [],_,_,_,h,k=>by cases h;exact k
 | d::ds,es,xs,ys,h,k=>by obtain⟨y,r,rfl,h1,h2⟩:=h;exact⟨y,r++ys,rfl,h1,IsL.append h2 k⟩
def IsL.take:∀ {ds:AS} {xs:AT} (n:Nat),IsL H ds xs->IsL H (ds.take n) (xs.take n)
 | _,_,0,_=>by simp[IsL]
 | [],_,n+1,h=>by cases h;simp[IsL]
 | d::ds,xs,n+1,h=>by obtain⟨y,r,rfl,h1,h2⟩:=h;exact⟨y,r.take n,rfl,h1,IsL.take n h2⟩
def IsL.drop:∀ {ds:AS} {xs:AT} (n:Nat),IsL H ds xs->IsL H (ds.drop n) (xs.drop n)
 | _,_,0,h=>h
 | [],_,n+1,h=>by cases h;simp[IsL]
 | d::ds,xs,n+1,h=>by obtain⟨y,r,rfl,h1,h2⟩:=h;exact IsL.drop n h2
def IsL.one(h:Is H d x):IsL H [d] [x]:=⟨x,[],rfl,h,rfl⟩
def IsL.ints:∀ {ns:AG},IsL H (ns.map .int) (ns.map .int)
 | []=>rfl
 | n::ns=>⟨_,_,rfl,rfl,IsL.ints⟩
def IsL.of_ints:∀ {ns:AG} {xs:AT},IsL H (ns.map .int) xs->xs=ns.map .int
 | [],_,h=>h
 | n::ns,xs,h=>by obtain⟨y,r,rfl,h1,h2⟩:=h;cases h1;rw[IsL.of_ints h2];rfl
def Dt.ty:Dt->String
 | .non => "NoneType" | .bl _ => "bool" | .int _ => "int" | .str _ => "str" | .tup _ => "tuple" | .lst _ => "list" | .dct => "dict"
def Is.ty {K:AH}{H:Hp}:∀ {d:Dt} {v:V},Is H d v->TyOf K H v (.type d.ty)
 | .non,_,h=>by cases h;exact .non
 | .bl _,_,h=>by cases h;exact .bl _
 | .int _,_,h=>by cases h;exact .int _
 | .str _,_,h=>by cases h;exact .str _
 | .tup l,v,h=>by obtain⟨p,xs,rfl,q,B⟩:=h;exact .tup q
 | .lst l,v,h=>by obtain⟨p,xs,rfl,q,B⟩:=h;exact .lst q
 | .dct,v,h=>by obtain⟨p,xs,rfl,q,B⟩:=h;exact .dK q
abbrev Dt.isTup:Dt->Bool
 | .tup _=>true | _=>false
abbrev Dt.isLst:Dt->Bool
 | .lst _=>true | _=>false
abbrev Dt.isInt:Dt->Bool
 | .int _=>true | .bl _=>true | _=>false
abbrev Dt.isBl:Dt->Bool
 | .bl _=>true | _=>false
def Dt.isWhole:Dt->Bool
 | .int _=>true | _=>false
def zoM (K:AH)(d:Dt):PySem.W.kitOne K (.type d.ty) (.type "tuple")=some d.isTup:=by cases d <;> rfl
def zoL (K:AH)(d:Dt):PySem.W.kitOne K (.type d.ty) (.type "list")=some d.isLst:=by cases d <;> rfl
end
def zhC (env:Env):List (Str×NameKind)->List (Str×Addr)->List (Str×Addr)
 | [],cs=>cs
 | x::r,cs=>zhC env r (if (x.2==NameKind.free)=true then (x.1,(env.cells.lookup x.1).getD 0)::cs else cs)
def zhD(h:∀x∈scope.names,x.2 = .free->∃c,env.cells.lookup x.1=some c):closureFor scope env=pure (zhC env scope.names []):=by
 have gen:∀ (names:List (Str×NameKind)) (cs:List (Str×Addr)),(∀x∈names,x.2 = .free->∃c,env.cells.lookup x.1=some c)->
   (forIn names cs (λx r=>match x with
    | (name,kind)=>if (kind==NameKind.free)=true then do let a <- cellOf env name;pure (ForInStep.yield ((name,a)::r)) else pure (ForInStep.yield r)):Sem (List (Str×Addr)))=pure (zhC env names cs):=by
  intro names
  induction names with
  | nil=>intro cs _;rfl
  | cons x r ih=>
   intro cs hh;obtain⟨n,k⟩:=x;rw[dR];by_cases hk:(k==NameKind.free)=true;obtain⟨c,hc⟩:=hh (n,k) am (cg hk);have hc':env.cells.lookup n=some c:=hc;have e:cellOf env n=pure c:=by unfold cellOf;rw[hc']
   simp only[hk,if_true,e,pure_bind];rw[ih _ λy hy=>hh y (ar _ hy)];change pure _=pure (zhC env r (if (k==NameKind.free)=true then (n,(env.cells.lookup n).getD 0)::cs else cs));right;simp only[hk,pure_bind];have e2:zhC env ((n,k)::r) cs=zhC env r cs:=by change zhC env r (if (k==NameKind.free)=true then _ else cs)=_;rw[if_neg hk]
   right
 unfold closureFor;have:=gen scope.names [] h;simpa using this
def zbV:∀ {names:List (Str×NameKind)} {cs:List (Str×Addr)} {x:Str} {c:Addr},(∀y∈names,y.2 = .free->∃c,env.cells.lookup y.1=some c)->(zhC env names cs).lookup x=some c->env.cells.lookup x=some c\/cs.lookup x=some c
 | [],_,_,_,_,h=>.inr h
 | (n,k)::r,cs,x,c,B,h=>by
  have q:=zbV (names:=r) (x:=x) (c:=c) (λy F=>B y (ar _ F)) h;rcases q with q | q;exact .inl q;by_cases I:(k==NameKind.free)=true;obtain⟨J,O⟩:=B (n,k) am (cg I);grind;right
def zcX:∀ {names:List (Str×NameKind)} {cs:List (Str×Addr)} {x:Str},(∃c,cs.lookup x=some c)->∃c,(zhC env names cs).lookup x=some c
 | [],_,_,h=>h
 | (n,k)::r,cs,x,h=>by
  show zcX (names:=r) ?_;grind
def zbF:∀ {names:List (Str×NameKind)} {cs:List (Str×Addr)} {x:Str},names.lookup x=some .free->∃c,(zhC env names cs).lookup x=some c
 | [],_,_,h=>by simp at h
 | (n,k)::r,cs,x,h=>by
  rw[List.lookup_cons] at h
  cases e:x==n with
  | true=>
   rw[e] at h;have h':some k=some NameKind.free:=h;cases h';show zcX (names:=r) ?_;right
  | false=>
   rw[e] at h;exact zbF (names:=r) h
def yz {env:Env}:∀ {names:List (Str×NameKind)} {x:Str} {k:NameKind},(∀y∈names,y.2≠.cell)->
  (names.map λ(n,k)=>if (k==NameKind.free&&env.scope.kind==.function&&env.kindOf n==some .cell) then (n,NameKind.cell) else (n,k)).lookup x=some k->(k = .cell\/k = .free)->names.lookup x=some .free
 | [],_,_,_,h,_=>by simp at h
 | (n,k)::r,x,q,B,h,I=>by
  have J:=@yz env r x q (λy F=>B y (ar _ F));grind
def xf {env:Env}:∀ {names:List (Str×NameKind)} {x:Str},names.lookup x=some .free->
  (names.map λ(n,k)=>if (k==NameKind.free&&env.scope.kind==.function&&env.kindOf n==some .cell) then (n,NameKind.cell) else (n,k)).lookup x=some .cell\/
  (names.map λ(n,k)=>if (k==NameKind.free&&env.scope.kind==.function&&env.kindOf n==some .cell) then (n,NameKind.cell) else (n,k)).lookup x=some .free
 | [],_,h=>by simp at h
 | (n,k)::r,x,h=>by
  have q:=@xf env r x;grind
def zV (X:Cx)(scope:Scope)(N:AM)(C:Addr)(s:AZ)(H:Hp)(ex:AY):Cx where
 prog:=X.prog
 w:=X.w
 K:=X.K
 mg:=X.mg
 base:=X.base
 A:=X.A
 N:=N
 s₀:=s
 H₀:=H
 env:=compEnvC scope (zhC X.env scope.names []) C X.env
 outer:=X.stack
 stack:=X.stack
 ex:=ex
 fn:=λ_=>false
 calm:=X.calm
 pn:=[]
 xe:=λ_ _=>False
def caps (XN:AM)(Xnames names:List (Str×NameKind))(N:AM)(cix:List (Option Nat)):Bool:=
 N.length==cix.length&&(names.all λy=>y.2 != .cell)&&((N.zip cix).all λp=>match p.2 with
  | none=>true
  | some i=>XN[i]?==some p.1&&names.lookup p.1==some .free&&(Xnames.lookup p.1==some .cell || Xnames.lookup p.1==some .free)) &&
 (names.all λy=>y.2 != .free || (Xnames.lookup y.1==some .cell || Xnames.lookup y.1==some .free))
def zeD (σ:St)(cix:List (Option Nat)):St:=cix.map λo=>match o with
 | none=>none
 | some i=>(σ[i]?).join
structure CompOk (X:Cx)(scope:Scope)(N:AM)(cix:List (Option Nat)):Prop where
 kind:scope.kind = .function
 names:∀x∈scope.names,x.2 = .local->scope.names.lookup x.1=some .local
 caps:caps X.N X.env.scope.names scope.names N cix=true
section
variable {X:Cx}{pins:AB}{σ:St}{H:Hp}{s:AZ}{scope:Scope}{N:AM}{cix:List (Option Nat)}
def CompOk.cell (c:CompOk X scope N cix):∀y∈scope.names,y.2≠.cell:=λy q e=>by
 have h:=c.caps;unfold L2.caps at h;rw[bI,bI,bI] at h;have:=cz.mp h.1.1.2 y q;right
def CompOk.len (c:CompOk X scope N cix):N.length=cix.length:=by
 have h:=c.caps;unfold L2.caps at h;right
def CompOk.cells (c:CompOk X scope N cix)(B:X.Ok):∀x∈scope.names,x.2 = .free->∃a,X.env.cells.lookup x.1=some a:=λx F e=>by
 have h:=c.caps;unfold L2.caps at h;rw[bI] at h;have q:=cz.mp h.2 x F;rw[e] at q;have I:(X.env.scope.names.lookup x.1==some NameKind.cell || X.env.scope.names.lookup x.1==some NameKind.free)=true:=by simpa using q
 rcases Bool.or_eq_true_iff.mp I with q | q;exact B.has _ (.inl (cg q));exact B.has _ (.inr (cg q))
def CompOk.cap (c:CompOk X scope N cix){j i:Nat}{x:Str}(h1:N[j]?=some x)(h2:cix[j]?=some (some i)):X.N[i]?=some x/\scope.names.lookup x=some .free/\(X.env.scope.names.lookup x=some .cell\/X.env.scope.names.lookup x=some .free):=by
 have h:=c.caps;unfold L2.caps at h;rw[bI,bI] at h;have B:(x,some i)∈N.zip cix:=by show aJ (i:=j) ?_;rw[List.getElem?_zip_eq_some];exact⟨h1,h2⟩
 have q:=cz.mp h.1.2 _ B;grind
def zlG {fp:AY}{h':Heap}{tk:Nat}{m:AI}(I:Inv X pins σ H s)(c:CompOk X scope N cix)(Z:∀b∈fp,zfx X pins H b)(aa:∀b∈fp,b<s.heap.objs.size)
  (hn:h'.Ns s.heap.objs.size m) (hk:∀b o,s.heap.get? b=some o->h'.get? b=some o) :
  Inv (zV X scope N s.heap.objs.size s H fp) [] (zeD σ cix) H { s with heap:=h',toks:=tk }:=by
 have ab:=c.cells I.ok
 have B:∀x a,(zhC X.env scope.names []).lookup x=some a->X.env.cells.lookup x=some a:=λx a e=>by
  rcases zbV ab e with z | z;exact z;simp at z
 show⟨⟨I.mod,c.kind,I.ok.glob,I.ok.blt,ak _,λx y a e1 e2=>I.ok.inj x y a (B x a e1) (B y a e2),λx hx=>?_,λx a z _=>absurd (show (false:Bool)=true from z) (by ext),I.ok.hd,I.ok.frames,.inl rfl,
  λb J=>⟨aV (aa b J),λx a e=>(Z b J).2.2.2.2.1 x a (B x a e)⟩,I.bs,aA I.ok.bsz I.sz,λb o e J=>?_,λb J z=>?_,I.stack,I.stkFree⟩,
  I.os ▸ rfl,I.bare,Un.kept hk,⟨m,hn,λj x v h1 h2 h3=>?_⟩,λx a e=>?_,I.hok.fresh (ak _),λx a e=>I.freeC x a (B x a e),λp hp=>absurd (show p∈([]:AB) from hp) (by simp),I.hok.kept hk,?_⟩
 have ac:((relabel scope X.env).names.lookup x=some .cell\/(relabel scope X.env).names.lookup x=some .free):=hx;rcases ac with z | z;exact zbF (yz c.cell z (.inl rfl));exact zbF (yz c.cell z (.inr rfl));rcases (Z b J).2.2.2.1 with z | z;exact I.ok.noex b o e z;exact absurd (a6 (az e) (aA I.ok.bsz z)) (cG _);rcases aG.mp (I.stkSub b z) with e | e;exact (Z b J).2.1 e;exact (Z b J).2.2.1 e;have ad:N[j]?=some x:=h1;unfold zeD at h2;rw[aN] at h2
 cases e:cix[j]? with
 | none=>rw[e] at h2;cases h2
 | some o=>
  rw[e] at h2
  cases o with
  | none=>cases h2
  | some i=>
   have F:(σ[i]?).join=some v:=cL h2
   have U:σ[i]?=some (some v):=by
    cases q:σ[i]? with
    | none=>rw[q] at F;cases F
    | some z=>rw[q] at F;have:z=some v:=F;rw[this]
   obtain⟨q1,q2,q3⟩:=c.cap ad e;obtain⟨m0,al,ag⟩:=I.loc;obtain⟨u,ru,hu⟩:=ag i x v q1 U (q3.elim (λz=>.inr (.inl z)) λz=>.inr (.inr z));show⟨u,ru,.inr ⟨xf q2,?_⟩⟩;rcases hu with ⟨z,_⟩ | ⟨_,a,ha,hcell⟩;have z':X.env.scope.names.lookup x=some .local:=z;right;obtain⟨a',Y⟩:=zbF (env:=X.env) (cs:=[]) q2;have:a'=a:=by have:=(B x a' Y).symm.trans ha;exact cL this
   subst this;obtain⟨oc,O,hd⟩:=hcell;exact⟨a',Y,oc,hk _ _ O,hd⟩
 obtain⟨v,oc,O,hd⟩:=I.cell x a (B x a e);exact⟨v,oc,hk _ _ O,hd⟩;change (zeD σ cix).length=N.length;unfold zeD;rw[af,c.len]
def zfO(x:HOk P w H h)(hn:H a=none)(hs:Heap.SameBut a h h'):HOk P w H h':=λb o e=>by
 show (x b o e).stay (λc u B q=>(hs.2 c ?_).trans q) (λ_ q=>q) λ_ _ q=>q;grind
def zhK{Y:St}{H':Hp}{s':AZ}(I:Inv X pins σ H s)(O:∀b∈U,zfx X pins H b)(I':Inv (zV X scope N s.heap.objs.size s H U) [] Y H' s')(hs:Heap.SameBut s.heap.objs.size s'.heap F) :
  Inv X pins σ H' { s' with heap:=F }:=by
 have Z:∀b o,s.heap.get? b=some o->b≠s.heap.objs.size:=λb o e=>aV (az e);have u:=I'.base;show Inv.call' (ch:=U) I I'.os ⟨λb o e n B J=>?_,λb o e n B J=>?_,u.free,λb o e J=>?_,u.tups,u.frzs,u.tbls⟩ (zfO I'.hok I'.free hs) I'.bare λb B=>⟨(O b B).2.2.2.1,(O b B).2.1,(O b B).2.2.2.2.1,(O b B).2.2.2.2.2⟩;exact (hs.2 b (Z b o e)).trans (u.keep b o e n B J);obtain⟨sl,q⟩:=u.slot b o e n B J;exact⟨sl,(hs.2 b (Z b o e)).trans q⟩;obtain⟨o',q⟩:=u.there b o e J;exact⟨o',(hs.2 b (Z b o e)).trans q⟩
variable {prog:Aa}{w:Ab}{A:Ae}{R:Result->AZ->Prop}
def zdv(I:Nat->AZ->Prop)(turn:∀n s,I n s->Ag prog w A (pyNext it) (λr s₁=>match r with
   | none=>R (.ok .next) s₁
   | some v=>Ag prog w A (letOwnedTupleGo target it v) (λ_ s₂=>Ag prog w A (assign target env v) (λ_ s₃=>
     Ag prog w A (forIn ifs true λc r=>if r=true then do let ok <- isTrue c env (eval c env);pure (ForInStep.yield ok) else pure (ForInStep.yield r)) (λok s₄=>
      if ok=true then Ag prog w A (eval elt env) (λx s₅=>
       Ag prog w A (call (.builtin "list.append") [acc,x]) (λ_ s₆=>∃m,m<n/\I m s₆) (λ_ _=>False) s₅) (λ_ _=>False) s₄
      else ∃m,m<n/\I m s₄) (λ_ _=>False) s₃) (λ_ _=>False) s₂) (λ_ _=>False) s₁) (λ_ _=>False) s)(n:Nat)(h:I n s) :
  codeAny (model prog w) A (.compLoop (.ListComp elt [⟨target,iter,ifs,0⟩] scope pos) 0 it acc env) R s:=by
 show codeAny_loop rfl I (λn s hI=>?_) n h;change wpAny _ A ((compTurn (.ListComp elt [⟨target,iter,ifs,0⟩] scope pos) 0 it acc env).onRaise (λx=>do noteFrame x env;theTreesLotGoes x)) _ _ s;show wpAny_noted ?_;rw[compTurn_list];show ae (cQ (ae (bH (turn n s hI) (λr s₁ h₁=>?_) λ_ _ h'=>h'.elim)))
 cases r with
 | none=>exact ah h₁
 | some v=>
  show ae (bH h₁ (λ_ s₂ h₂=>?_) λ_ _ h'=>h'.elim);show ae (bH h₂ (λ_ s₃ h₃=>ae (bH h₃ (λok s₄ h₄=>?_) λ_ _ h'=>h'.elim)) λ_ _ h'=>h'.elim)
  cases ok with
  | false=>exact ah ⟨rfl,h₄⟩
  | true=>
   exact ae (ae (bH h₄ (λx s₅ h₅=>ae (bH h₅ (λ_ s₆ h₆=>ah (ah ⟨rfl,h₆⟩)) λ_ _ h'=>h'.elim)) λ_ _ h'=>h'.elim))
end
def PTs (X:Cx)(ifs:AO)(t:TT):Prop:=
 ∀ (pins:AB) (s:AZ) (σ:St) (H:Hp) (Q:Bool->Hp->Prop),Inv X pins σ H s->t σ H Q->
  Af X (forIn ifs true λc r=>if r=true then do let ok <- isTrue c X.env (eval c X.env);pure (ForInStep.yield ok) else pure (ForInStep.yield r)) (TP X pins σ Q) X.xe s
def zkM:TT:=λ_ H Q=>Q true H
def zpu:PTs X [] zkM:=λpins s σ H Q I h=>wpAny_tests_nil ⟨H,I,h⟩
def zpv(h:PT X c t):PTs X [c] t:=λpins s σ H Q I q=>wpAny_tests_one (h pins s σ H Q I q)
def zvz (wi:TI)(g:TG)(ti:TT)(te:TE)(cix:List (Option Nat)):TE:=λσ H Q=>wi σ H λJ H1=>∀acc,H1 acc=none->∃W:Nat->Nat->St->Hp->Prop,(∃m,W 0 m (zeD σ cix) (upd H1 acc (.lst [])))/\
 ∀i m B H',W i m B H'->(J.stop i H'/\Q (.ref acc) H')\/(J.go i H'/\∃N:St->Hp->Prop,(∀ F H2,N F H2->∃I,I<m/\W (i+1) I F H2)/\
  ∀x H2,J.yld i H' x H2->g x B H2 λq H3=>ti q H3 λO H4=>if O=true then te q H4 λv H5=>∃xs,H5 acc=some (.lst xs)/\xs.length<sizeLine/\N q (upd H5 acc (.lst (xs++[v]))) else N q H4)
def zqS (g:TG)(ti:TT)(te:TE)(acc:Addr)(N:St->Hp->Prop)(x:V)(σ:St)(H:Hp):Prop:=
 g x σ H λq H3=>ti q H3 λB H4=>if B=true then te q H4 λv H5=>∃xs,H5 acc=some (.lst xs)/\xs.length<sizeLine/\N q (upd H5 acc (.lst (xs++[v]))) else N q H4
def zm2 (M:Model)(A:Ae)(e:Expr)(k:Nat)(tg:Expr)(ifs:AO)(it acc:Value)(env:Env)(B:(AZ->Prop)->AZ->Prop):Prop:=
 ∀ (R:Result->AZ->Prop) (s:AZ) (I:Nat->AZ->Prop),(∀n s,I n s->wpAny M A (pyNext it) (λr s₁=>match r with
   | none=>R (.ok .next) s₁
   | some v=>wpAny M A (letOwnedTupleGo tg it v) (λ_ s₂=>wpAny M A (assign tg env v) (λ_ s₃=>
     wpAny M A (forIn ifs true λc r=>if r=true then do let ok <- isTrue c env (eval c env);pure (ForInStep.yield ok) else pure (ForInStep.yield r)) (λok s₄=>
      if ok=true then B (λs'=>∃m,m<n/\I m s') s₄ else ∃m,m<n/\I m s₄) (λ_ _=>False) s₃) (λ_ _=>False) s₂) (λ_ _=>False) s₁) (λ_ _=>False) s)->
  ∀n,I n s->codeAny M A (.compLoop e k it acc env) R s
def zjG{X:Cx}{ifs:AO}{it acc:Addr}{I:AY}{tn:Nat->Heap->Prop}{J:It}{g:TG}{ti:TT}{tb:(St->Hp->Prop)->St->Hp->Prop}{B:(AZ->Prop)->AZ->Prop}{pl:AB}{Fin:St->Hp->Prop}{R:Result->AZ->Prop}{W:Nat->Nat->St->Hp->Prop}{σ0:St}{H0:Hp}{s0:AZ}(L:zm2 (model X.prog X.w) X.A e k tg ifs (.ref it) (.ref acc) X.env B)(hc:X.calm=true)(xX:X.xe=λ_ _=>False)(T:Turn X.prog X.w X.K tg J I it tn)(f4:∀ {H':Hp},(∀b∈I,H' b=none)->∀b∈I,zfx X pl H' b)(hg:PG X tg g)(ht:PTs X ifs ti)(O:∀pl' s σ H (Nx:St->Hp->Prop) (P:AZ->Prop),Inv X (pl++pl') σ H s->tb Nx σ H->(∀ q H' s',Inv X (pl++pl') q H' s'->Nx q H'->P s')->B P s)(Z:∀i n σ H,W i n σ H->(J.stop i H/\Fin σ H)\/(J.go i H/\∃Nx:St->Hp->Prop,(∀ q H',Nx q H'->∃m,m<n/\W (i+1) m q H')/\∀x H',J.yld i H x H'->g x σ H' λU H2=>ti U H2 λb H3=>if b=true then tb Nx U H3 else Nx U H3))(fin:∀ σ H s,Inv X pl σ H s->Fin σ H->R (.ok .next) s)(I0:Inv X pl σ0 H0 s0)(ad:tn 0 s0.heap)(al:∀b∈I,H0 b=none)(w0:W 0 m0 σ0 H0) :
  codeAny (model X.prog X.w) X.A (.compLoop e k (.ref it) (.ref acc) X.env) R s0:=by
 show L R s0 (λn s'=>∃i q H',Inv X pl q H' s'/\tn i s'.heap/\(∀b∈I,H' b=none)/\W i n q H') ?_ m0 ⟨0,σ0,H0,I0,ad,al,w0⟩;rintro n s5 ⟨i,F,H5,I5,aa,ab,w5⟩;rcases Z i n F H5 w5 with ⟨stop,qn⟩ | ⟨go,Nx,hN,step⟩
 ·show thn (T.done X rfl rfl rfl hc i pl s5 F H5 (λ_ _=>False) I5 (f4 ab) aa stop) ?_;rintro r s6 ⟨hr,I6⟩;subst hr;exact fin F H5 s6 I6 qn
 show thn (T.item X rfl rfl rfl hc i pl s5 F H5 (λ_ _=>False) I5 (f4 ab) aa go) ?_;rintro r s6 ⟨u,hr,h6⟩;subst hr;show thn h6 ?_;rintro _ s7 ⟨x,H7,I7,r7,y7,Y,an⟩;have I7':=I7.pinned (f4 an) (T.obj _ _ Y);have a7:=hg _ s7 F H7 x u _ I7' r7 (step x H7 y7);rw[xX] at a7;show thn a7 ?_;rintro _ s8 ⟨ac,H8,I8,q8⟩;have t8:=ht _ s8 ac H8 _ I8 q8;rw[xX] at t8;show thn t8 ?_;rintro ok s9 ⟨H9,I9,q9⟩
 have ag:∀ q H' s',Inv X (pl++zfb I s7.heap) q H' s'->Nx q H'->∃m,m<n/\∃i q H',Inv X pl q H' s'/\tn i s'.heap/\(∀b∈I,H' b=none)/\W i m q H':=λq H' s' J' n'=>by
  obtain⟨m',hm,w'⟩:=hN q H' n'
  have pn:∀b∈I,∀o,s7.heap.get? b=some o->s'.heap.get? b=some o/\H' b=none:=λb O o e=>by
   have:=J'.pin (b,o) (aI _ (aI _ (zba O e)));right
  show⟨m',hm,i+1,q,H',J'.unpinned,T.keep _ _ _ Y λb O o e=>(pn b O o e).1,λb O=>?_,w'⟩;obtain⟨o,e,_⟩:=T.obj _ _ Y b O;right
 cases ok with
 | false=>exact ag _ _ _ I9 q9
 | true=>exact O _ s9 ac H9 _ _ I9 q9 ag
structure Inn (X X':Cx)(pins:AB)(σ:St)(fp:AY)(C:Addr):Prop where
 pX:X'.prog=X.prog
 wX:X'.w=X.w
 KX:X'.K=X.K
 AX:X'.A=X.A
 cX:X'.calm=X.calm
 xX:X'.xe=λ_ _=>False
 lX:X'.env.locals=C
 f4:∀ {H':Hp},(∀b∈fp,H' b=none)->∀b∈fp,zfx X' [] H' b
 back:∀ {σ':St} {H':Hp} {s':AZ} {h'':Heap},Inv X' [] σ' H' s'->Heap.SameBut C s'.heap h''->Inv X pins σ H' { s' with heap:=h'' }
structure Opn (X:Cx)(scope:Scope)(cix:List (Option Nat))(Fam:Cx->Prop):Prop where
 kind:scope.kind = .function
 names:∀x∈scope.names,x.2 = .local->scope.names.lookup x.1=some .local
 cells:X.Ok->∀x∈scope.names,x.2 = .free->∃a,X.env.cells.lookup x.1=some a
 run:∀ (pins:AB) (σ:St) (H3:Hp) (s3:AZ) (fp:AY) (Q:Env->AZ->Prop),Inv X pins σ H3 s3->(∀b∈fp,zfx X pins H3 b)->(∀b∈fp,b<s3.heap.objs.size)->
  (∀X' cenv s4,Fam X'->Inn X X' pins σ fp s3.heap.objs.size->cenv.locals=s3.heap.objs.size->X'.env={ cenv with scope:=relabel scope X.env }->Inv X' [] (zeD σ cix) H3 s4->(∀b o,s3.heap.get? b=some o->s4.heap.get? b=some o)->Q cenv s4)->
  Af X (newFunctionEnv scope X.env.globals (zhC X.env scope.names []) [] X.env.qual none .none (some X.env)) Q X.xe s3
def zeF{X:Cx}{Fam:Cx->Prop}{scope:Scope}{cix:List (Option Nat)}{use:Option (Value->Sem Unit)}{Qp:AA}{ifs:AO}{pos:Pos}{U:Sem Value}{o0:Addr->HO}{B:Cx->Addr->(AZ->Prop)->AZ->Prop}{tb:Addr->(St->Hp->Prop)->St->Hp->Prop}{Fin:Addr->Hp->Prop}{wi:TI}{g:TG}{ti:TT}{Kk:It->Hp->Prop}{pins:AB}{σ:St}{H:Hp}{s:AZ}(O:Opn X scope cix Fam)(hc:X.calm=true)(a3:clausesOf e=⟨tg,iter,ifs,0⟩::gs)(hs:∀x,foldedSetIterable iter X.env x=pure x)(a4:∀ (R:Result->AZ->Prop) (s:AZ) (it acc:Value) (env:Env),codeAny (model X.prog X.w) X.A (.compLoop e 0 it acc env) R s->Af X (pyIter it) (λa5 s'=>codeAny (model X.prog X.w) X.A (.compLoop e 0 a5 acc env) R s') (notedBy (model X.prog X.w) X.A env λx s'=>R (.error x) s') s->codeAny (model X.prog X.w) X.A (.compStart e 0 it acc env) R s)(hL:∀X',Fam X'->∀it acc,zm2 (model X'.prog X'.w) X'.A e 0 tg ifs it (.ref acc) X'.env (B X' acc))(ag:∀ (s:AZ) (Q:AA),Q (.ref s.heap.objs.size) { s with heap:=s.heap.push ob }->Af X U Q X.xe s)(a7:∀ {pins σ H s},Inv X pins σ H s->∀H',ya X.prog X.w H' (s.heap.push ob) s.heap.objs.size (o0 s.heap.objs.size))(hi:PI X tg iter wi)(hg:∀X',Fam X'->PG X' tg g)(ht:∀X',Fam X'->PTs X' ifs ti)(Y:∀X',Fam X'->X'.prog=X.prog->X'.w=X.w->X'.A=X.A->X'.calm=true->X'.xe=(λ_ _=>False)->∀acc pl s σ H (Nx:St->Hp->Prop) (P:AZ->Prop),Inv X' pl σ H s->tb acc Nx σ H->(∀ Z H' s',Inv X' pl Z H' s'->Nx Z H'->P s')->B X' acc P s)(I:Inv X pins σ H s)(h:wi σ H Kk)(hK:∀J H1 acc,Kk J H1->H1 acc=none->∃W:Nat->Nat->St->Hp->Prop,(∃m,W 0 m (zeD σ cix) (upd H1 acc (o0 acc)))/\∀i n σ H,W i n σ H->(J.stop i H/\Fin acc H)\/(J.go i H/\∃Nx:St->Hp->Prop,(∀ Z H',Nx Z H'->∃m,m<n/\W (i+1) m Z H')/\∀x H',J.yld i H x H'->g x σ H' λab H2=>ti ab H2 λb H3=>if b=true then tb acc Nx ab H3 else Nx ab H3))(al:∀acc C H5 s6,zfx X pins H5 C->(∃m,s6.heap.Ns C m)->(∀ac,Heap.SameBut C s6.heap ac->Inv X pins σ H5 { s6 with heap:=ac })->Fin acc H5->compPost (model X.prog X.w) X.A X.xe use Qp (.ref acc) C (.ok .next) s6) :
  Af X (comprehension e scope X.env pos U false (eval iter X.env) use) Qp X.xe s:=by
 show wpAny_comprehension_free (use:=use) a3 hs (zhD (O.cells I.ok)) O.kind O.names (thn (hi pins s σ H _ I h) λxv s1 h1=>thn h1 λbc F h2=>?_);obtain⟨it,fp,tn,J,H2,e,I2,T,an,f2,q2⟩:=h2;subst e;show ag F _ ?_;have ad:=I2.hok.fresh (ak F.heap.objs.size);obtain⟨W,⟨m0,w0⟩,ap⟩:=hK J H2 F.heap.objs.size q2 ad;have as:∀b o,F.heap.get? b=some o->(F.heap.push ob).get? b=some o:=λb u e=>ai _ e;have I3:Inv X pins σ (upd H2 F.heap.objs.size (o0 F.heap.objs.size)) { F with heap:=F.heap.push ob,toks:=F.toks }:=I2.laid (t':=F.toks) as (ak _) (a7 I2 _);have a0:∀b∈fp,b<F.heap.objs.size:=λb Y=>by obtain⟨o,ho,_⟩:=T.obj _ _ an b Y;exact az ho
 have fn:∀b∈fp,upd H2 F.heap.objs.size (o0 F.heap.objs.size) b=none:=λb Y=>by rw[ze (aV (a0 b Y))];exact (f2 b Y).1
 show O.run pins σ _ _ fp _ I3 (λb Y=>⟨fn b Y,(f2 b Y).2⟩) (λb Y=>Nat.lt_trans (a0 b Y) (by simp)) λX' bb s4 hF N hl hE I4 kp=>?_;rw[<- hE,hl];have a1:tn 0 s4.heap:=T.keep _ _ _ an λb Y o e=>kp b o (as b o e);have cX:=N.cX.trans hc;have aa:=zjG (X:=X') (R:=compPost (model X.prog X.w) X.A X.xe use Qp (.ref F.heap.objs.size) (F.heap.push ob).objs.size) (Fin:=λ_ H=>Fin F.heap.objs.size H) (pl:=[]) (hL X' hF (.ref it) F.heap.objs.size) cX N.xX (by rw[N.pX,N.wX,N.KX];exact T) N.f4 (hg X' hF) (ht X' hF) (Y X' hF N.pX N.wX N.AX cX N.xX F.heap.objs.size) ap (λbd H5 s6 I6 q=>?_) I4 a1 fn w0;rw[N.pX,N.wX,N.AX] at aa;exact a4 _ _ _ _ _ aa (T.self X.A 0 _ _ _ a1 aa);have ba:H5 (F.heap.push ob).objs.size=none:=by have:=I6.free;rwa[N.lX] at this
 obtain⟨m6,a2,_⟩:=I6.loc;rw[N.lX] at a2;exact al _ _ H5 s6 (I3.fpOk (ak _) ba) ⟨m6,a2⟩ (λac hs=>N.back I6 hs) q
section
variable {X:Cx}{scope:Scope}{N:AM}{cix:List (Option Nat)}{z:Str}
def zck (c:CompOk X scope N cix):Opn X scope cix (λX'=>∃C s H ex,X'=zV X scope N C s H ex) where
 kind:=c.kind
 names:=c.names
 cells:=c.cells
 run:=λpins σ H3 U Z Q I3 B F k=>by
  show wpAny_newFunctionEnv c.cell (by simp) (λh4 J O=>?_) c.kind;have Y:∀b o,U.heap.get? b=some o->h4.get? b=some o:=λb o e=>O.extBut b o (aV (az e)) (ai _ e);show k (zV X scope N U.heap.objs.size U H3 Z) _ _ ⟨_,_,_,_,rfl⟩ ⟨rfl,rfl,rfl,rfl,rfl,rfl,rfl,λ{H'} hn b q=>⟨hn b q,aV (F b q),λy=>?_,.inl q,λx a e=>?_,λp hp=>?_⟩,λI' hs=>zhK I3 B I' hs⟩ rfl rfl (zlG I3 c B F J Y) Y;rcases aG.mp (I3.stkSub b y) with e | e;exact (B b q).2.1 e;exact (B b q).2.2.1 e;rcases zbV (c.cells I3.ok) e with y | y;exact (B b q).2.2.2.2.1 x a y;simp at y;exact absurd (show p∈([]:AB)++[] from hp) (by simp)
def zgN {pins:AB}{σ:St}{Q:VK}{acc C:Addr}{H5:Hp}{F:AZ}(J:∃m,F.heap.Ns C m)(O:∀B,Heap.SameBut C F.heap B->Inv X pins σ H5 { F with heap:=B })(q:Q (.ref acc) H5):compPost (model X.prog X.w) X.A X.xe none (EP X pins σ Q) (.ref acc) C (.ok .next) F:=
 let ⟨m,hn⟩:=J;⟨m,hn,λU I=>⟨.ref acc,H5,O U I,rfl,q⟩⟩
def zld{pos spos px:Pos}{nx:Str}{B first:Sem Value}{D:Ends}{pins:AB}{σ:St}{s:AZ}(Y:X.N.Nodup)(Z:X.N[ix]?=some nx)(J:X.env.scope.names.lookup nx=some .local)(aa:swapsWithSole [.Name nx px] e spos.line X.env=pure true)(ab:(assignEach [.Name nx px] X.env).map (·.2)=[assign (.Name nx px) X.env])(ac:∀U,evalThenUse e X.env U=comprehension e scope X.env pos B false first (some U) >>= λ_=>pure ())(h:∀ (U:Value->Sem Unit) (Qp:AA),(∀acc C H5 I,zfx X pins H5 C->(∃m,I.heap.Ns C m)->(∀O,Heap.SameBut C I.heap O->Inv X pins σ H5 { I with heap:=O })->D.nx (σ.set ix (some (.ref acc))) H5->compPost (model X.prog X.w) X.A X.xe (some U) Qp (.ref acc) C (.ok .next) I)->Af X (comprehension e scope X.env pos B false first (some U)) Qp X.xe s) :
  Af X (exec (.Assign [.Name nx px] e spos) X.env) (SP X pins D) X.xe s:=by
 rw[exec_Assign_arm];show ae (cQ ?_);rw[aa];show ae (ah ?_);rw[if_pos rfl];show ae ?_;rw[ac];show ae ?_;show h _ _ λacc C H5 I F hm ad q=>?_;have IX:=ad _ ⟨rfl,λ_ _=>rfl⟩;change wpAny _ _ (assignAll _ ((assignEach [.Name nx px] X.env).map (·.2))) _ _ I;rw[ab];show wpAny_assign_Name (x:=nx) (pos:=px) ?_;show zfm IX Y Z (Or.inl J) (v:=.ref acc) rfl (λs7 I7 ⟨a7,ag,al⟩=>?_) (.inr J)
 have an:C≠a7:=by
  intro z;rcases al with e | e;exact F.2.1 (z.trans e);exact F.2.2.2.2.1 nx a7 e z.symm
 obtain⟨m6,oC,ap,as,a0,rC⟩:=hm;show⟨m6,⟨oC,ap,as,(ag.2 _ an).trans a0,rC⟩,λh8 a1=>ah (ah ?_)⟩;exact⟨_,H5,I7.turned (t':=s7.toks) (λb o hb e=>(a1.2 b hb).trans e) F.1 F.2.1 F.2.2.2.1 F.2.2.2.2.1 F.2.2.2.2.2,q⟩
variable {Fam:Cx->Prop}{use:Option (Value->Sem Unit)}{Qp:AA}{elt tg iter:Expr}{ifs:AO}{pos ipos spos px:Pos}{wi:TI}{g:TG}{ti:TT}{te:TE}{pins:AB}{σ:St}{H:Hp}{s:AZ}{Fin:Addr->Hp->Prop}
def zlb {P:AZ->Prop}{acc:Addr}{Nx:St->Hp->Prop}(he:PE X elt te)(xX:X.xe=λ_ _=>False)(I:Inv X pins σ H s)(q:te σ H λv H'=>∃xs,H' acc=some (.lst xs)/\xs.length<sizeLine/\Nx σ (upd H' acc (.lst (xs++[v]))))(k:∀ B H' s',Inv X pins B H' s'->Nx B H'->P s') :
  Af X (eval elt X.env) (λx s5=>Af X (call (.builtin "list.append") [.ref acc,x]) (λ_ s6=>P s6) (λ_ _=>False) s5) (λ_ _=>False) s:=by
 have e9:=he pins s σ H _ I q;rw[xX] at e9;show thn e9 ?_;rintro u2 J ⟨v,H10,I10,O,xs,U,Y,nx⟩;have F:=ze1 (X:=X) _ J σ H10 (.ref acc) [v] (.ref acc) [u2] (λ_ H'=>Nx σ H') I10 rfl (.cons O .nil) ⟨_,xs,v,rfl,rfl,U,Y,nx⟩;rw[xX] at F;show thn F (by rintro _ aa ⟨_,H11,I11,_,Z⟩;exact k _ _ _ I11 Z)
def ze0 (O:Opn X scope cix Fam)(hc:X.calm=true)(hi:PI X tg iter wi)(hg:∀X',Fam X'->PG X' tg g)(ht:∀X',Fam X'->PTs X' ifs ti)(he:∀X',Fam X'->PE X' elt te)(hs:∀x,foldedSetIterable iter X.env x=pure x)(I:Inv X pins σ H s)
  (h:wi σ H λJ H1=>∀acc,H1 acc=none->∃W:Nat->Nat->St->Hp->Prop,(∃m,W 0 m (zeD σ cix) (upd H1 acc (.lst [])))/\∀i n σ H,W i n σ H->(J.stop i H/\Fin acc H)\/(J.go i H/\∃Nx:St->Hp->Prop,(∀ U H',Nx U H'->∃m,m<n/\W (i+1) m U H')/\∀x H',J.yld i H x H'->zqS g ti te acc Nx x σ H'))
  (Y:∀acc C H5 F,zfx X pins H5 C->(∃m,F.heap.Ns C m)->(∀Z,Heap.SameBut C F.heap Z->Inv X pins σ H5 { F with heap:=Z })->Fin acc H5->compPost (model X.prog X.w) X.A X.xe use Qp (.ref acc) C (.ok .next) F) :
  Af X (comprehension (.ListComp elt [⟨tg,iter,ifs,0⟩] scope pos) scope X.env ipos (newList []) false (eval iter X.env) use) Qp X.xe s:=
 zeF (ob:={ cls:=.type "list",dict:=none,data:=.seq ([]:AN).toArray }) (o0:=λ_=>.lst []) (B:=λX' acc P s=>wpAny (model X'.prog X'.w) X'.A (eval elt X'.env) (λx s5=>wpAny (model X'.prog X'.w) X'.A (call (.builtin "list.append") [.ref acc,x]) (λ_ F=>P F) (λ_ _=>False) s5) (λ_ _=>False) s) (tb:=λacc Nx σ H=>te σ H λv H'=>∃xs,H' acc=some (.lst xs)/\xs.length<sizeLine/\Nx σ (upd H' acc (.lst (xs++[v])))) O hc rfl hs (λ_ _ _ _ _ h0 h1=>codeAny_compStart_list h0 h1) (λ_ _ _ _ _ _ I aa n h=>zdv I aa n h) (λs Q h=>bz h) (λ_ _=>⟨aM _,[],0,.nil,aw _ rfl⟩) hi hg ht (λX' hF _ _ _ _ xX _ _ _ _ _ _ _ I q k=>zlb (he X' hF) xX I q k) I h (λJ H1 acc q hn=>q acc hn) Y
end
section
variable {X:Cx}{scope:Scope}{N:AM}{z:Str}
def zlz {P:Cx->Prop}(h:∀C s H ex,P (zV X scope N C s H ex)):∀X',(∃C s H ex,X'=zV X scope N C s H ex)->P X':=by right
abbrev EndK (X:Cx)(pins:AB)(σ:St)(use:Option (Value->Sem Unit))(Qp:AA)(Q:VK):Prop:=∀acc C H5 B,zfx X pins H5 C->(∃m,B.heap.Ns C m)->(∀q,Heap.SameBut C B.heap q->Inv X pins σ H5 { B with heap:=q })->Q (.ref acc) H5->compPost (model X.prog X.w) X.A X.xe use Qp (.ref acc) C (.ok .next) B
end
structure Dfn (K:AH)(mg:AI)(x:Str)(st:Stmt)(ps:AM)(f:Addr)(fd:Ac):Prop where
 F:Fun K x x st f fd
 b:zac K fd ps []
 m:mg x=some (.ref f)
section
variable {X:Cx}
def zr9{x:Str}{st:Stmt}{ps:AM}{f:Addr}{fd:Ac}{sp:Sp}{es:AO}{p pos:Pos}(D:Dfn X.K X.mg x st ps f fd)(G:FnOk X.prog X.w X.K X.mg X.base CX0 j f fd ps sp)(J:Room k X.A)(O:PA X (e::es) t)(q:j<=k:=by ext)(U:Gl X x:=by rfl)(B:Ah x:=by ext)(Y:starEach (e::es) X.env=(false,eval e X.env)::starEach es X.env:=by rfl)(I:(backTo pos (starEach es X.env)).any (·.1)=false:=by rfl) :
  PE X (.Call (.Name x p) (e::es) [] pos) (zcP sp [] E0 t):=
 zgb G (J.mono q) U D.m D.F.kp D.b .nil zj5 O B Y I
end
structure QE (X:Cx)(e:Expr)(t:TE):Prop where
 run:PE X e t
structure QT (X:Cx)(e:Expr)(t:TT):Prop where
 run:PT X e t
structure QW (X:Cx)(e:Expr)(t:TT):Prop where
 run:PW X e t
structure QC (X:Cx)(op:CmpOp)(a b:Expr)(t:TE):Prop where
 run:PC X op a b t
structure QA (X:Cx)(es:AO)(t:TA):Prop where
 run:PA X es t
structure QS (X:Cx)(s:Stmt)(t:TS):Prop where
 run:PS X s t
structure QSs (X:Cx)(s:List Stmt)(t:TS):Prop where
 run:PSs X s t
structure QG (X:Cx)(e:Expr)(t:TG):Prop where
 run:PG X e t
structure QGs (X:Cx)(es:AO)(t:TGs):Prop where
 run:PGs X es t
structure QI (X:Cx)(tg e:Expr)(t:TI):Prop where
 run:PI X tg e t
structure QO (X:Cx)(e:Option Expr)(t:TO):Prop where
 run:PO X e t
structure QP (X:Cx)(pos:Pos)(ks:List (Option Expr))(vs:AO)(t:List (TE×TE)):Prop where
 run:PPs X pos ks vs t
structure QTs (X:Cx)(es:AO)(t:TT):Prop where
 run:PTs X es t
structure OpQ (X:Cx)(f:Value->Value->Sem Value)(r:R2):Prop where
 run:OpR X f r
structure CallQ (X:Cx)(f:Value)(r:AT->Hp->VK->Prop):Prop where
 run:zdn X f r
structure IxQ (X:Cx)(r:R2):Prop where
 run:IxR X r
structure SlQ (X:Cx)(r:V->AQ->AQ->Hp->VK->Prop):Prop where
 run:SlR X r
section
variable {X:Cx}{e a b c:Expr}{es:AO}{te ta tb tc:TE}{t u:TT}{pos p:Pos}
def qv(i:Nat)(B:X.N[i]?=some x:=by rfl)(F:Vis X.env.scope x:=by walk_at "v")(I:Ah x:=by ext)(q:(x==("__classdict__" : Str))=false:=by ext):QE X (.Name x pos) (zaU i):=⟨znu B F I q⟩
def yk{i:Int}:QE X (.Constant (.int i) j pos) (tC (.int i)):=⟨znt⟩
def zpy:QE X (.Constant (.bool k) j pos) (tC (.bl k)):=⟨zvg⟩
def zsy:QE X (.Constant .none j pos) (tC .non):=⟨zsa⟩
def xi:QE X (.Constant (.str x) j pos) (tC (.str x)):=⟨zsc⟩
def zpz(q:Gl X x)(B:X.mg x=none)(F:bootBuiltins x=some w)(r:yd v w)(hn:x ≠ "__name__" := by ext)(I:Ah x:=by ext):QE X (.Name x pos) (tC v):=⟨zo9 q B F r hn I⟩
def yA:OpQ X (binaryOp .Add) (rI0 λi j=>.int (i+j)):=⟨zrQ⟩
def zj4:OpQ X (binaryOp .Sub) (rI0 λi j=>.int (i - j)):=⟨zrX⟩
def uS:OpQ X (binaryOp .Mult) (rI zm0 λi j=>.int (i * j)):=⟨zrU⟩
def zdY:OpQ X (binaryOp .FloorDiv) (rI zqA λi j=>.int (i / j)):=⟨zo6⟩
def uR:OpQ X (binaryOp .Mod) (rI (λ_ j=>0<j) λi j=>.int (i % j)):=⟨zrT⟩
def zr2:OpQ X (binaryOp .Pow) (rI CPow λi j=>.int (i ^ j.toNat)):=⟨zrW⟩
def xh:OpQ X (binaryOp .Add) (zmr X.K):=⟨zo4⟩
def zrY:OpQ X (binaryOp .Add) rCat:=⟨zrR⟩
def zj3:OpQ X (compareOp .Lt) (rI0 λi j=>.bl (decide (i<j))):=⟨zvd⟩
def zr0:OpQ X (compareOp .LtE) (rI0 λi j=>.bl (decide (i<=j))):=⟨zvc⟩
def zj2:OpQ X (compareOp .Gt) (rI0 λi j=>.bl (decide (j<i))):=⟨zvb⟩
def zvf:OpQ X (compareOp .GtE) (rI0 λi j=>.bl (decide (j<=i))):=⟨zva⟩
def uA:OpQ X (compareOp .Eq) rEq:=⟨zu9⟩
def zga:OpQ X (compareOp .NotEq) rNe:=⟨zve⟩
def uT:OpQ X (compareOp .NotIn) (rIn X.K true):=⟨ze6⟩
def yF(B:OpQ X (binaryOp q) r)(F:QE X a ta)(I:QE X b tb):QE X (.BinOp a q b pos) (tOp r ta tb):=⟨zvi B.run F.run I.run⟩
def zpA(B:OpQ X (compareOp q) r)(F:QE X a ta)(I:QE X b tb)(J:behindInMarks q b=false):QE X (.Compare a [q] [b] pos) (tOp r ta tb):=⟨zpa B.run F.run I.run J⟩
def uW(B:OpQ X (compareOp q) r)(F:QE X a ta)(I:QE X b tb)(J:behindInMarks q b=false):QT X (.Compare a [q] [b] pos) (zqk (tOp r ta tb)):=⟨zpt B.run F.run I.run J⟩
def zny(q:QE X a ta):QC X .Is a (.Constant .none j pos') (zvB ta):=⟨zr5 q.run⟩
def zpx(q:QE X a ta):QC X .IsNot a (.Constant .none j pos') (zqi ta):=⟨zo8 q.run⟩
def zki (q:X.A.units+1<cLine)(B:QE X a ta)(F:QE X b tb):QC X .NotIn a b (zgp ta tb):=⟨ze8 q B.run F.run⟩
def zhn(h:QC X q a b te)(h1:behindInMarks q b=false:=by first | exact zdP _ (by ext) (by ext) | rfl):QT X (.Compare a [q] [b] pos) (tB te):=⟨znx h.run h1⟩
def znB (h:QE X e te)(he:∀whole,isTrue e X.env whole=(do let v <- whole;standAt e.pos;holding [v] (truthy v)):=by intro _;rfl):QT X e (tB te):=⟨zss h.run he⟩
def zsA (h:QT X a t):QT X (.UnaryOp .Not a pos) (tNot t):=⟨zsr h.run⟩
def zgh (h:QT X a t):QW X (.BoolOp .And [a] pos) t:=⟨zpw h.run⟩
def zsB (h:QT X a t):QW X (.BoolOp .Or [a] pos) t:=⟨zsu h.run⟩
def zho {zy:AO}(h:QT X a t)(h':QW X (.BoolOp .And (b::zy) pos) u):QW X (.BoolOp .And (a::b::zy) pos) (zvx t u):=⟨zst h.run h'.run⟩
def zvo {zy:AO}(h:QT X a t)(h':QW X (.BoolOp .Or (b::zy) pos) u):QW X (.BoolOp .Or (a::b::zy) pos) (tOr t u):=⟨zvm h.run h'.run⟩
def QW.pt (h:QW X e t):QT X e t:=⟨h.run.pt⟩
def zsz(h:QE X a ta):QE X (.BoolOp q [a] pos) ta:=⟨zsb h.run⟩
def zsv {zy:AO}(q:QE X a ta)(B:QE X (.BoolOp .And (b::zy) pos) tb):QE X (.BoolOp .And (a::b::zy) pos) (zsY ta tb):=⟨zr6 q.run B.run⟩
def zmq (q:QT X c t)(B:QE X a ta)(F:QE X b tb):QE X (.IfExp c a b pos) (tIf t ta tb):=⟨zmf q.run B.run F.run⟩
def yC:QA X [] zqh:=⟨zns⟩
def zE(B:QE X e te)(F:QA X es q)(hs:starEach (e::es) X.env=(false,eval e X.env)::starEach es X.env:=by rfl):QA X (e::es) (zbD te q):=⟨zbe B.run F.run hs⟩
def zpJ:QP X pos [] [] []:=⟨zkb⟩
def zd6(B:QE X k tk)(F:QE X v tv)(I:QP X pos ks vs q):QP X pos (some k::ks) (v::vs) ((tk,tv)::q):=⟨zhh B.run F.run I.run⟩
def zpC(h:QP X pos q B F)(I:q.all (·.isSome)=true)(O:q.length=B.length)(U:q≠[])(J:q.length<=15):QE X (.Dict q B pos) (zs0 F):=⟨zpb h.run I O U J⟩
def zge:QO X none zkL:=⟨zpq⟩
def zgf (h:QE X e te):QO X (some e) (zs9 te):=⟨zpr h.run⟩
def zgo:SlQ X rSlA:=⟨zp8⟩
def zqa:SlQ X (rSlL X.K):=⟨zp7⟩
def zbO{r:V->AQ->AQ->Hp->VK->Prop}{lo hi:Option Expr}{tl th:TO}(q:SlQ X r)(B:QE X e te)(F:QO X lo tl)(I:QO X hi th):QE X (.Subscript e (.Slice lo hi none p2) pos) (tSl r te tl th):=⟨zmg q.run B.run F.run I.run⟩
def yf:IxQ X (ztS X.K):=⟨zov⟩
def yt:IxQ X (zqF X.K):=⟨zrp⟩
def zkk(q:IxQ X r)(B:QE X a ta)(F:QE X b tb)(hs:zfy b):QE X (.Subscript a b pos) (tOp r ta tb):=⟨zvh q.run B.run F.run hs⟩
def uo (q:X.A.units+1<cLine)(B:QE X a ta)(F:QE X b tb)(hs:ztA b):QE X (.Subscript a b pos) (zqd ta tb):=⟨zj7 q B.run F.run hs⟩
def yv:CallQ X (.builtin "len") (λxs H Q=>∃x n,xs=[x]/\ztz X.K x H n/\Q (.int n) H):=⟨zlg⟩
def ziz:CallQ X (.builtin "abs") (λxs H Q=>∃i,xs=[.int i]/\Q (.int (if i<0 then -i else i)) H):=⟨zlf⟩
def ziA:CallQ X (.builtin "isinstance") (λxs H Q=>∃x T t b,xs=[x,.ty T]/\TyOf X.K H x t/\PySem.W.kitOne X.K t (.type T)=some b/\Q (.bl b) H):=⟨zfC⟩
def zhE:CallQ X (.type "list") (λxs H Q=>∃p ys,xs=[.ref p]/\(SqL X.K H p ys\/SqT X.K H p ys)/\∀l,H l=none->Q (.ref l) (upd H l (.lst ys))):=⟨zeC⟩
def zfF:CallQ X (.type "tuple") (λxs H Q=>∃p ys,xs=[.ref p]/\((SqL X.K H p ys/\∀l,H l=none->Q (.ref l) (upd H l (.tup ys)))\/(SqT X.K H p ys/\Q (.ref p) H))):=⟨zdt⟩
def zn0:CallQ X (.type "int") (λxs H Q=>(∃i,xs=[.int i]/\Q (.int i) H)\/∃k,xs=[.bl k]/\Q (.int (if k then 1 else 0)) H):=⟨zit⟩
def yZ {id:String}{r:AT->Hp->VK->Prop}{x:Str}{F:TA}(I:CallQ X (.builtin id) r)(J:Gl X x)(O:X.mg x=none)(U:bootBuiltins x=some (.builtin id))(Y:QA X (e::es) F)(hn:x ≠ "__name__" := by ext)(q:Ah x:=by ext)
  (Z:starEach (e::es) X.env=(false,eval e X.env)::starEach es X.env:=by rfl) (B:(backTo pos (starEach es X.env)).any (·.1)=false:=by rfl):QE X (.Call (.Name x p) (e::es) [] pos) (tCB r F):=⟨zme I.run J O U Y.run hn q Z B⟩
def zcn(I:CallQ X (.type T) r)(J:Gl X x)(O:X.mg x=none)(U:bootBuiltins x=some (.type T))(Y:QA X (e::es) F)(hn:x ≠ "__name__" := by ext)(q:Ah x:=by ext)(Z:starEach (e::es) X.env=(false,eval e X.env)::starEach es X.env:=by rfl)(B:(backTo pos (starEach es X.env)).any (·.1)=false:=by rfl):QE X (.Call (.Name x p) (e::es) [] pos) (tCB r F):=⟨zj6 I.run J O U Y.run hn q Z B⟩
def zkj{x:Str}{st:Stmt}{ps:AM}{f:Addr}{fd:Ac}{sp:Sp}(D:Dfn X.K X.mg x st ps f fd)(G:FnOk X.prog X.w X.K X.mg X.base CX0 j f fd ps sp)(J:Room k X.A)(O:QA X (e::es) I)(q:j<=k:=by ext)(U:Gl X x:=by rfl)(B:Ah x:=by ext)(Y:starEach (e::es) X.env=(false,eval e X.env)::starEach es X.env:=by rfl)(F:(backTo pos (starEach es X.env)).any (·.1)=false:=by rfl) :
  QE X (.Call (.Name x p) (e::es) [] pos) (zcP sp [] E0 I):=⟨zr9 D G J O.run q U B Y F⟩
def xj(q:X.N.Nodup)(hi:X.N[i]?=some x)(B:Loc X.env.scope x)(F:X.fn x=true\/X.env.scope.names.lookup x=some .local:=by walk_at "l"):QG X (.Name x pos) (za5 i):=⟨zpl q hi B F⟩
def zco:QGs X [] gNil:=⟨zpm⟩
def yH(h1:QG X e g)(h2:QGs X es gs)(hs:(assignEach (e::es) X.env).map (·.2)=assign e X.env::(assignEach es X.env).map (·.2):=by rfl):QGs X (e::es) (zrh g gs):=⟨zmh h1.run h2.run hs⟩
def zkm {k:Nat}{gs:TGs}{n:Nat}(B:X.calm=true)(h:QGs X es gs)(hn:(assignEach es X.env).length=n:=by rfl)(q:(assignEach es X.env).findIdx? (·.1)=none:=by rfl):QG X (.Tuple es k pos) (zuw X.K n gs):=⟨zsj B h.run hn q⟩
def zko(q:QE X e te):QI X tg e (zoo X.K te):=⟨zpn q.run⟩
def zkp(q:QE X e te):QI X tg e (zuz X.K te):=⟨zsk q.run⟩
def zfc(B:Gl X "range")(F:X.mg "range" = none)(I:QA X [a] q)(hs:starEach [a] X.env=[(false,eval a X.env)]:=by rfl):QI X tg (.Call (.Name "range" p) [a] [] pos) (zrj q):=⟨zj9 B F I.run hs⟩
def zpL:QTs X [] zkM:=⟨zpu⟩
def zks (h:QT X c t):QTs X [c] t:=⟨zpv h.run⟩
def zpB(B:X.calm=true)(c:CompOk X scope N cix)(hi:QI X tg iter wi)(F:∀C s H ex,QG (zV X scope N C s H ex) tg g)(J:∀C s H ex,QTs (zV X scope N C s H ex) ifs ti)(O:∀C s H ex,QE (zV X scope N C s H ex) elt te)(hs:∀x,foldedSetIterable iter X.env x=pure x:=by intro _;rfl):QE X (.ListComp elt [⟨tg,iter,ifs,0⟩] scope pos) (zvz wi g ti te cix):=⟨λpins s σ H Q I h=>by
 rw[eval_ListComp];exact ze0 (Fin:=λacc H=>Q (.ref acc) H) (zck c) B hi.run (zlz λC s H ex=>(F C s H ex).run) (zlz λC s H ex=>(J C s H ex).run) (zlz λC s H ex=>(O C s H ex).run) hs I h λ_ _ _ _ _ U Y q=>zgN U Y q⟩
end
section
variable {X:Cx}{st:Stmt}{sts body a b:List Stmt}{t u:TS}{e o i:Expr}{te td ty tv:TE}{pos:Pos}
def zcp:QSs X [] zqg:=⟨zkf⟩
def z8 (h1:QS X st t)(h2:QSs X sts u):QSs X (st::sts) (zqj t u):=⟨zaK h1.run h2.run⟩
def xk (h1:QS X st t):QSs X [st] t:=⟨zd3 h1.run⟩
def zd8 (q:QE X e te)(hs:swapsWith e none pos.line X.env=pure false:=by rfl):QS X (.Expr e pos) (zmM te):=⟨zps q.run hs⟩
def uV (q:QE X e te):QS X (.Return (some e) pos) (zta te):=⟨znw q.run⟩
def zkr(q:QT X c tc)(B:QSs X a t)(F:QSs X b u):QS X (.If c a b pos) (zvA tc t u):=⟨zso q.run B.run F.run⟩
def ux {i:Nat}{x:Str}{pos':Pos}(q:X.N.Nodup)(hi:X.N[i]?=some x)(B:Loc X.env.scope x)(F:QE X e te)(hs:swapsWith e (some (.Name x pos')) pos.line X.env=pure false:=by rfl)(I:X.fn x=true\/X.env.scope.names.lookup x=some .local:=by walk_at "l") :
  QS X (.Assign [.Name x pos'] e pos) (zh6 te (za5 i)):=⟨zsq q hi B F.run hs I⟩
def zkq(q:QE X e te)(B:QG X tg g)(hs:swapsWithSole [tg] e pos.line X.env=pure false:=by rfl)(F:swappedStores [tg] e X.env=pure none:=by rfl)(h1:(assignEach [tg] X.env).map (·.2)=[assign tg X.env]:=by rfl):QS X (.Assign [tg] e pos) (zh6 te g):=⟨zsl q.run B.run hs F h1⟩
def zd7(q:X.A.units+1<cLine)(B:QE X o td)(hi:QE X i ty)(F:QE X e tv)(hs:swapsWith e (some (.Subscript o i pos')) pos.line X.env=pure false):QS X (.Assign [.Subscript o i pos'] e pos) (zp2 td ty tv):=⟨zke q B.run hi.run F.run hs⟩
def zhm(q:PassesOwn (model X.prog X.w) X.A X.env X.xe)(B:X.calm=true)(hi:QI X tg iter wi)(F:QG X tg g)(I:QSs X body t)(hs:∀x,foldedSetIterable iter X.env x=pure x:=by intro _;rfl):QS X (.For tg iter body [] pos) (ztV wi g t):=⟨zsn q B hi.run F.run I.run hs⟩
end
def Fun.okQ{P:Aa}{w:Ab}{K:AH}{mg:AI}{base:Heap}{x B:Str}{st:Stmt}{f:Addr}{fd:Ac}{N ps:AM}{sp:Sp}(F:Fun K x B st f fd)(S:FnScope N ps (zc st))(O:∀vs H Q E,sp vs H Q E->vs.length=ps.length)(J:∀ (I:Value) (A:Ae) (q:List Env) (s:AZ) (H:Hp) (vs:AT) (Q:VK) (E:XK),Room k (A.deeper (envOfC B (zc st) s.heap.objs.size f I))->sp vs H Q E->
   ∃t,QSs (zes CX0 P w K mg base N B (zc st) f I A q s H E).nox (zw st) t/\t { nx:=λ_ H'=>Q .non H',rt:=Q } (xn N vs) H):FnOk P w K mg base CX0 (k+1) f fd ps sp:=
 F.ok S O λI A q s H vs Q E U h=>by obtain⟨t,h1,h2⟩:=J I A q s H vs Q E U h;exact⟨t,h1.run,h2⟩
def s_ca:¬ (("script" : Str) = "at"):=by decide +kernel
def s_cl:¬ (("script" : Str) = "left"):=by decide +kernel
def s_al:¬ (("at" : Str) = "left"):=by decide +kernel
def zuJ:¬ (Sum.inr "script" : Key)=(Sum.inr "at" : Key):=λz=>s_ca (Sum.inr.inj z)
def zuK:¬ (Sum.inr "script" : Key)=(Sum.inr "left" : Key):=λz=>s_cl (Sum.inr.inj z)
def ztF:¬ (Sum.inr "at" : Key)=(Sum.inr "left" : Key):=λz=>s_al (Sum.inr.inj z)
def zaJ (c:Addr)(a l:Int):List (Key×V):=[(Sum.inr "script",.ref c),(Sum.inr "at",.int a),(Sum.inr "left",.int l)]
def zvk (c:Addr)(a l:Int):xE (zaJ c a l) (Sum.inr "script" : Key)=some (.ref c):=z6 rfl
def zpk (c:Addr)(a l:Int):xE (zaJ c a l) (Sum.inr "at" : Key)=some (.int a):=by unfold zaJ;rw[z5 zuJ,z6 rfl]
def zvl (c:Addr)(a l:Int):xE (zaJ c a l) (Sum.inr "left" : Key)=some (.int l):=by unfold zaJ;rw[z5 zuK,z5 ztF,z6 rfl]
def zsf (c:Addr)(a l b:Int):uU (zaJ c a l) (Sum.inr "at" : Key) (.int b)=zaJ c b l:=by unfold uU zaJ;have q:=zuJ;have B:¬ (Sum.inr "left" : Key)=(Sum.inr "at" : Key):=λz=>ztF z.symm;simp[q,B]
def zsg (c:Addr)(a l b:Int):uU (zaJ c a l) (Sum.inr "left" : Key) (.int b)=zaJ c a b:=by unfold uU zaJ;have q:=zuK;have B:=ztF;simp[q,B]
def zse (c:Addr)(a l:Int):zce [] (zaJ c a l)=zaJ c a l:=by unfold zce zaJ;have q:=zuJ;have B:=zuK;have F:=ztF;simp[uU,q,B,F]
def PLs (H:Hp)(c:Addr)(ns:AG):Prop:=(∃r,ns=0::r/\∃ob,H c=some (.frz ob (.lst (r.map V.int))))\/∃r,ns=1::r
def PLs.but{ns:AG}(P:PLs H c ns)(h:∀r ob,ns=0::r->H c=some (.frz ob (.lst (r.map V.int)))->H' c=some (.frz ob (.lst (r.map V.int)))):PLs H' c ns:=by
 rcases P with ⟨r,e,o,z⟩ | P;exact .inl ⟨r,e,o,h r o e z⟩;exact .inr P
def PLs.same{ns:AG}(P:PLs H c ns)(h:yO H H'):PLs H' c ns:=P.but λ_ _ _ e=>h _ _ e
def PLs.upd{ns:AG}(P:PLs H c ns)(h:∀r,ns=0::r->c≠b):PLs (upd H b u) c ns:=P.but λr _ e z=>by rw[ze (h r e)];exact z
def KL (K:AH)(c:Addr)(ns:AG):Prop:=∃r,ns=0::r\/(ns=1::r/\∃ (o:Obj) (q:AK) (n:Nat),K.lookup c=some o/\o.cls = .type "list" /\ o.dict=none/\o.data = .seq q n/\q.size<=sizeLine/\zT (r.map V.int) q.toList)
def KL.seq {K:AH}{H:Hp}{c:Addr}{ns:AG}(k:KL K c ns)(P:PLs H c ns):∃r:AG,SqL K H c (r.map V.int):=by
 obtain⟨r,e | ⟨e,k⟩⟩:=k;rcases P with ⟨r',e',z⟩ | ⟨r',e'⟩;rw[e] at e';cases e';exact⟨r,.inl (.inr z)⟩;rw[e] at e';cases e';exact⟨r,.inr k⟩
structure Pen (H:Hp)(p c:Addr)(ns:AG)(n:Nat):Prop where
 ob:∃a l:Int,H p=some (.dK (zaJ c a l))/\0<=a/\a<=n/\0<=l
 ls:PLs H c ns
 len:ns.length<=64
def Pen.same{ns:AG}(P:Pen H p c ns n)(h:yO H H'):Pen H' p c ns n:=by obtain⟨⟨a,l,h1,h2,q,B⟩,F,I⟩:=P;exact⟨⟨a,l,h _ _ h1,h2,q,B⟩,F.same h,I⟩
def zei{a l:Int}(h:H p=some (.dK (zaJ c a l))):zu H (upd H p o):=λb u e n=>by
 by_cases q:b=p;subst q;rw[h] at e;cases e;have:=n _ rfl;rw[zpk] at this;cases this;rw[ze q];exact e
section
variable {H:Hp}{p c:Addr}{a l:Int}
def zhf (h:H p=some (.dK (zaJ c a l))):zbu H p (.str "script") (some (.ref c)):=by have:=zbu.k (k:=(Sum.inr "script" : Key)) h;rw[zvk] at this;exact this
def zsd (h:H p=some (.dK (zaJ c a l))):zbu H p (.str "at") (some (.int a)):=by have:=zbu.k (k:=(Sum.inr "at" : Key)) h;rw[zpk] at this;exact this
def zj8 (h:H p=some (.dK (zaJ c a l))):zbu H p (.str "left") (some (.int l)):=by have:=zbu.k (k:=(Sum.inr "left" : Key)) h;rw[zvl] at this;exact this
def zsh (h:H p=some (.dK (zaJ c a l)))(b:Int):zeq H p (.str "at") (.int b) (upd H p (.dK (zaJ c b l))):=by have:=zeq.k (k:=(Sum.inr "at" : Key)) (v:=.int b) h (by change 3<sizeLine;decide);rw[zsf] at this;exact this
def znv (h:H p=some (.dK (zaJ c a l)))(b:Int):zeq H p (.str "left") (.int b) (upd H p (.dK (zaJ c a b))):=by have:=zeq.k (k:=(Sum.inr "left" : Key)) (v:=.int b) h (by change 3<sizeLine;decide);rw[zsg] at this;exact this
end
def zqN (ns:AG)(a:Int)(h:0<((ns.map V.int).length:Int)):∃z,atI (ns.map V.int) (a % ((ns.map V.int).length:Int))=some (.int z):=by
 have q:=c7 a (show ((ns.map V.int).length:Int)≠0 by lia);have h1:=cw a h;generalize F:a % ((ns.map V.int).length:Int)=m at q h1;obtain⟨j,rfl⟩:∃j:Nat,m=j:=⟨m.toNat,by lia⟩;have B:j<ns.length:=by rw[af] at h1;lia
 exact⟨ns[j],zir (by simp[B])⟩
def meet {α:Type}{G:Prop}(P:α->Prop)(h:(∀a,P a)->G)(r:∀a,P a):G:=h r
def zu1 {G:Prop}(P:Prop)(h:P->G)(r:P):G:=h r
def znM (K:AH):Sp:=λvs H Q _=>∃ (p c:Addr) (ns:AG) (n:Nat) (zP:Int),vs=[.ref p,.int zP]/\KL K c ns/\Pen H p c ns n/\n<=1000000/\1<=zP/\zP<1073741824/\
 ∀ (r:Int) (H':Hp),0<=r->r<zP->Pen H' p c ns (n+1)->zu H H'->Q (.int r) H'
def zmK (K:AH):Sp:=λvs H Q _=>∃ (a:Addr) (ns:AG),vs=[.ref a]/\KL K a ns/\PLs H a ns/\ns.length<=64/\∀ (p:Addr) (H':Hp),Pen H' p a ns 0->yO H H'->Q (.ref p) H'
def zI (ns:AG):Int:=ns.foldl (· * ·) 1
def yB (ns:AG)(n:Int):zI (ns++[n])=zI ns * n:=by unfold zI;rw[List.foldl_append];rfl
def zm{α:Type}{l:List α}{x:α}(h:l[i]?=some x):l.take (i+1)=l.take i++[x]:=by rw[List.take_succ,h];rfl
def Dt.inBox:Dt->Bool
 | .int i=>decide (2<=i)&&decide (i<=4)
 | _=>false
def Dt.val:Dt->Int
 | .int i=>i
 | _=>0
def uv:∀ (ns:AG),(ns.map Dt.int).map Dt.val=ns
 | []=>rfl
 | n::ns=>by simp only[aB,uv ns];rfl
def zh5 (K:AH):Sp:=λvs H Q _=>∃ (a:Addr) (ns:AG),vs=[.ref a]/\KL K a ns/\PLs H a ns/\ns.length<=64/\∀H',Q (.bl true) H'
def zmJ{K:AH}{H:Hp}{a:Addr}{ns:AG}{Q:VK}(I:ztB H)(B:SqL K H a (ns.map V.int))(F:ns.length<=63)(q:∀H',Q (.bl true) H'):zh5 K [.ref a] H Q E:=by
 rcases B with B | B
 ·show⟨a,0::ns,rfl,⟨ns,.inl rfl⟩,.inl ⟨ns,rfl,?_⟩,dE F,q⟩;rcases B with z | z
  ·rcases I a with y | ⟨_,_,y⟩ <;> (rw[z] at y;cases y)
  exact z
 exact⟨a,1::ns,rfl,⟨ns,.inr ⟨rfl,B⟩⟩,.inr ⟨ns,rfl⟩,dE F,q⟩
section
variable {prog:Aa}{w:Ab}{A:Ae}{E:AA}{s:AZ}
def xY{items}(q:s.heap.IsTupleIter B t i)(U:s.heap.IsTuple t items)(Y:items[i]?=some x)(Z:∀h',h'.IsTupleIter B t (i+1)->Heap.SameBut B s.heap h'->Q x { s with heap:=h' }):Ag prog w A (Builtin.SmallTypes.nextOf (.ref B)) Q E s:=by
 obtain⟨o,I,hc,F⟩:=id q;obtain⟨ol,J,_,nl,O⟩:=U;unfold Builtin.SmallTypes.nextOf
 show ae (wpAny_callSpecial?_slot (name:=Str.ofString "__next__") q.typeIs cO
  (bf cO q.typeIs eS ?_ (eL _)))
 change wpAny _ _ (field (.ref B) 0 >>= _) _ _ s;show ae (b9 I F (x:=.ref t) rfl ?_);change wpAny _ _ (if (Value.ref t==Value.none)=true then _ else _) _ _ s;rw[if_neg (by grind)];change wpAny _ _ (field (.ref B) 1 >>= _) _ _ s;show ae (b9 I F (x:=.int i 0) rfl ?_);change wpAny _ _ (seqItems? (.ref t) >>= _) _ _ s;show ae (cI J O ?_);simp only[aR,Y];show ae (bO I F (by simp) (ah ⟨x,rfl,ah (Z _ ?_ (bw ..))⟩))
 exact⟨_,bC _ I (dj (cb F _)),(ee ..).trans hc,by
  rw[cb F];simp[rawInt]⟩
def zby{items}(U:A.handled=none)(q:s.heap.IsTupleIter B t i)(Y:s.heap.IsTuple t items)(Z:items[i]?=none)(hE:∀h' e,Heap.ExtBut B s.heap h'->(∃o,h'.get? e=some o/\o.cls = .type "StopIteration")->E (.ref e) { s with heap:=h' }):Ag prog w A (Builtin.SmallTypes.nextOf (.ref B)) Q E s:=by
 obtain⟨o,F,hc,I⟩:=id q;obtain⟨ol,J,_,nl,O⟩:=Y;unfold Builtin.SmallTypes.nextOf
 show ae (wpAny_callSpecial?_slot (name:=Str.ofString "__next__") q.typeIs cO
  (bf cO q.typeIs eS ?_ (eL _)))
 change wpAny _ _ (field (.ref B) 0 >>= _) _ _ s;show ae (b9 F I (x:=.ref t) rfl ?_);change wpAny _ _ (if (Value.ref t==Value.none)=true then _ else _) _ _ s;rw[if_neg (by grind)];change wpAny _ _ (field (.ref B) 1 >>= _) _ _ s;show ae (b9 F I (x:=.int i 0) rfl ?_);change wpAny _ _ (seqItems? (.ref t) >>= _) _ _ s;show ae (cI J O ?_);simp only[aR,Z];show ae (cU (ae (bO F I (by simp) ?_)));change wpAny _ _ (newExc (.type "StopIteration") [] >>= _) _ _ _;show ae ?_;simp only[newExc,newTuple];show ae (bz ?_ (by size_fits));show ae (m:=firstArgMember _ _) (wpAny_of_eq (a:=Value.none) (by first | rfl | (simp only[firstArgMember];rfl)) ?_);show bz ?_ (by size_fits);simp only[raiseNew];show ae (fU ?_)
 first | rw[show A.in1.handled=none from U] | rw[U]
 show ae (ah (wpAny_throw ?_));exact hE _ _ (((bw ..).extBut.push _).push _) ⟨_,aw _ rfl,rfl⟩
end
mutual
def Dt.toW:Dt->PySem.W.Dat
 | .non=>.none
 | .bl b=>.bool b
 | .int i=>.int i
 | .str x=>.str x
 | .tup l=>.tuple (Dt.toWs l)
 | .lst l=>.list (Dt.toWs l)
 | .dct=>.bytes #[]
def Dt.toWs:AS->List PySem.W.Dat
 | []=>[]
 | d::ds=>d.toW::Dt.toWs ds
end
mutual
def zgq:∀ {d e:Dt},d.toW=e.toW->d=e
 | .non,e,h=>by cases e <;> simp[Dt.toW] at h ⊢
 | .bl b,e,h=>by cases e <;> simp[Dt.toW] at h ⊢;exact h
 | .int b,e,h=>by cases e <;> simp[Dt.toW] at h ⊢;exact h
 | .str b,e,h=>by cases e <;> simp[Dt.toW] at h ⊢;exact h
 | .tup l,e,h=>by
  cases e with
  | tup m=>simp only[Dt.toW,PySem.W.Dat.tuple.injEq] at h;rw[zek h]
  | _=>simp[Dt.toW] at h
 | .lst l,e,h=>by
  cases e with
  | lst m=>simp only[Dt.toW,PySem.W.Dat.list.injEq] at h;rw[zek h]
  | _=>simp[Dt.toW] at h
 | .dct,e,h=>by cases e <;> simp[Dt.toW] at h ⊢
def zek:∀ {l m:AS},Dt.toWs l=Dt.toWs m->l=m
 | [],m,h=>by cases m <;> simp[Dt.toWs] at h ⊢
 | d::l,m,h=>by
  cases m with
  | nil=>simp[Dt.toWs] at h
  | cons e m=>
   simp only[Dt.toWs,List.cons.injEq] at h;rw[zgq h.1,zek h.2]
end
def Dt.eqOk (d:Dt):Prop:=PySem.W.kqdOk 8 d.toW=true
section
variable {P:Aa}{w:Ab}{H:Hp}{h:Heap}
mutual
def xp (ok:HOk P w H h):∀ (n:Nat) {d:Dt} {v:V} {u:Value},Is H d v->yd v u->PySem.W.kqdOk n d.toW=true->∃as,Reads h u (PySem.W.kqdP d.toW) as
 | _,.non,_,_,h1,r,_=>by cases h1;cases r;exact⟨_,Reads.none⟩
 | n,.bl b,_,_,_,_,k=>by cases n <;> simp[Dt.toW,PySem.W.kqdOk] at k
 | _,.int i,_,_,h1,r,_=>by cases h1;obtain⟨t,rfl⟩:=r;exact⟨_,Reads.int i t⟩
 | _,.str x,_,_,h1,r,_=>by cases h1;obtain⟨t,rfl⟩:=r;exact⟨_,Reads.str x t⟩
 | 0,.tup l,_,_,_,_,k=>by simp[Dt.toW,PySem.W.kqdOk] at k
 | n+1,.tup l,_,_,h1,r,k=>by obtain⟨a,xs,rfl,ha,hl⟩:=h1;cases r;obtain⟨_,its,rv,o,ho,hc,⟨m,hd⟩,_⟩:=ok a _ ha;obtain⟨as,q⟩:=zaq ok n hl rv (by simpa [Dt.toW,PySem.W.kqdOk] using k);exact⟨as,reads_tuple_at ho hc hd (by simpa using q)⟩
 | 0,.lst l,_,_,_,_,k=>by simp[Dt.toW,PySem.W.kqdOk] at k
 | n+1,.lst l,_,_,h1,r,k=>by obtain⟨a,xs,rfl,ha,hl⟩:=h1;cases r;obtain⟨_,its,m,rv,e⟩:=ok a _ ha;obtain⟨as,q⟩:=zaq ok n hl rv (by simpa [Dt.toW,PySem.W.kqdOk] using k);exact⟨_,reads_list_at e rfl rfl (by simpa using q)⟩
 | n,.dct,_,_,_,_,k=>by cases n <;> simp[Dt.toW,PySem.W.kqdOk] at k
def zaq (ok:HOk P w H h):∀ (n:Nat) {ds:AS} {xs:AT} {us:AN},IsL H ds xs->zT xs us->(∀d∈Dt.toWs ds,PySem.W.kqdOk n d=true)->∃as,ReadsAll h us (PySem.W.kqdPs (Dt.toWs ds)) as
 | _,[],_,_,h1,r,_=>by cases h1;cases r;exact⟨_,ReadsAll.nil⟩
 | n,d::ds,_,_,h1,r,k=>by
  obtain⟨x,xr,rfl,hd,hr⟩:=h1
  cases r with
  | cons rx rr=>
   obtain⟨as,q⟩:=xp ok n hd rx (k _ (by simp[Dt.toWs]));obtain⟨bs,q2⟩:=zaq ok n hr rr λe he=>k e (by simp[Dt.toWs,he]);exact⟨_,ReadsAll.cons q q2⟩
end
end
def ug {d:Dt}(h:d.eqOk):SeqAt.shaped (PySem.W.kqdP d.toW)=true:=by
 have l:=PySem.W.kqd_lay 8 _ h;unfold SeqAt.shaped;grind
def ztR:R2:=λx y H Q=>∃d e,Is H d x/\Is H e y/\d.eqOk/\e.eqOk/\∀b:Bool,(b=true↔d=e)->Q (.bl b) H
def ztT:R2:=λx y H Q=>∃d e,Is H d x/\Is H e y/\d.eqOk/\e.eqOk/\∀b:Bool,(b=true↔d=e)->Q (.bl (!b)) H
section
variable {X:Cx}
def ziT {d e:Dt}(h1:d.eqOk)(h2:e.eqOk):PyData.eqv (PySem.W.kqdP d.toW) (PySem.W.kqdP e.toW)=true↔d=e:=
 (PySem.W.kqd_eqv 8 d.toW e.toW 8 h1 h2).trans ⟨zgq,λz=>by rw[z]⟩
def zrS (F:X.A.units+64<cLine):OpR X (compareOp .Eq) ztR:=by intro pins s σ H x y v u Q I J O h;obtain⟨d,e,U,Y,B,ke,q⟩:=h;obtain⟨as,ra⟩:=xp I.hok 8 U J B;obtain⟨Z,rb⟩:=xp I.hok 8 Y O ke;exact eq_dataH ra rb (ug B) (ug ke) F ⟨.bl _,H,I,rfl,q _ (ziT B ke)⟩
def zrV (F:X.A.units+64<cLine):OpR X (compareOp .NotEq) ztT:=by intro pins s σ H x y v u Q I J O h;obtain⟨d,e,U,Y,B,ke,q⟩:=h;obtain⟨as,ra⟩:=xp I.hok 8 U J B;obtain⟨Z,rb⟩:=xp I.hok 8 Y O ke;exact ne_dataH ra rb (ug B) (ug ke) F ⟨.bl _,H,I,rfl,q _ (ziT B ke)⟩
def zhc (q:X.A.units+64<cLine):OpQ X (compareOp .Eq) ztR:=⟨zrS q⟩
def zr1 (q:X.A.units+64<cLine):OpQ X (compareOp .NotEq) ztT:=⟨zrV q⟩
def zsw{to:TE}{t:TA}{apos cpos:Pos}(O:QE X o to)(U:QA X [e] t)(B:attributeBase o "append" X.env (eval o X.env)=eval o X.env:=by rfl)(J:((backTo cpos (starEach [e] X.env)).all (λx=>!x.1)&&(backToKw cpos (keywordEach [] X.env)).all (λx=>x.1.isSome)&&decide (([e]:AO).length+([]:List Keyword).length+(if ([]:List Keyword).isEmpty then 0 else 1)<30))=true:=by rfl)(I:(apos.endLine==cpos.line)=true:=by rfl)(hs:starEach [e] X.env=(false,eval e X.env)::starEach [] X.env:=by rfl)(q:(backTo cpos (starEach [] X.env)).any (·.1)=false:=by rfl) :
  QE X (.Call (.Attribute o "append" apos) [e] [] cpos) (tBM X.K "list" zgi to t):=⟨zr7 de PySem.F.slot_list_append PySem.F.type_list_append ze1 O.run U.run B J I hs q⟩
end
def zax {ns:AG}:(Dt.tup (ns.map .int)).eqOk:=by
 have e:∀ns:AG,(Dt.toWs (ns.map .int)).all (PySem.W.kqdOk 7)=true:=by
  intro ns
  induction ns with
  | nil=>rfl
  | cons n ns q=>simp only[aB,Dt.toWs,dl,q,eM];rfl
 exact e ns
structure RoomAt (H:Hp)(ra:Addr)(rm:AG):Prop where
 at':H ra=some (.tup (rm.map V.int))
 ne:rm≠[]
 few:rm.length<=8
 box:∀r∈rm,2<=r/\r<=4
def RoomAt.stay{rm:AG}(h:RoomAt H ra rm)(s:zu H H'):RoomAt H' ra rm:=⟨s.tup h.at',h.ne,h.few,h.box⟩
def zP (rm:AG)(i:Int):Int:=rm.getD i.toNat 0
abbrev xK (q:Int×Int):Dt:=.tup [.int q.1,.int q.2]
structure Giv (rm:AG)(g:List (Int×Int)):Prop where
 ok:∀q∈g,0<=q.1/\q.1<rm.length/\0<=q.2/\q.2<zP rm q.1
 up:g.Pairwise λa b=>a.1<b.1
def zfz (H H':Hp):Prop:=∀b xs,H b=some (.tup xs)->H' b=some (.tup xs)
mutual
def Dt.noL:Dt->Bool
 | .tup l=>Dt.noLs l
 | .lst _=>false
 | .dct=>false
 | _=>true
def Dt.noLs:AS->Bool
 | []=>true
 | d::ds=>d.noL&&Dt.noLs ds
end
mutual
def Is.stayT {H H1:Hp}(a:zfz H H1):∀ {d:Dt} {v:V},d.noL=true->Is H d v->Is H1 d v
 | .non,_,_,h=>h
 | .bl _,_,_,h=>h
 | .int _,_,_,h=>h
 | .str _,_,_,h=>h
 | .tup l,_,n,h=>by obtain⟨p,xs,e,hp,hl⟩:=h;exact⟨p,xs,e,a _ _ hp,IsL.stayT a (by simpa [Dt.noL] using n) hl⟩
 | .lst l,_,n,_=>by simp[Dt.noL] at n
 | .dct,_,n,_=>by simp[Dt.noL] at n
def IsL.stayT {H H1:Hp}(a:zfz H H1):∀ {ds:AS} {xs:AT},Dt.noLs ds=true->IsL H ds xs->IsL H1 ds xs
 | [],_,_,h=>h
 | d::ds,_,n,h=>by
  obtain⟨x,r,e,hd,hr⟩:=h;have n':d.noL=true/\Dt.noLs ds=true:=by simpa [Dt.noLs] using n
  exact⟨x,r,e,Is.stayT a n'.1 hd,IsL.stayT a n'.2 hr⟩
end
def ze2:∀g:List (Int×Int),Dt.noLs (g.map xK)=true
 | []=>rfl
 | q::g=>by change (Dt.noL (xK q)&&Dt.noLs (g.map xK))=true;rw[ze2 g];rfl
def Giv.snoc {rm:AG}{g:List (Int×Int)}{i w:Int}(h:Giv rm g)(B:∀q∈g,q.1<i)(O:0<=i)(h1:i<rm.length)(h2:0<=w)(U:w<zP rm i):Giv rm (g++[(i,w)]):=by
 show⟨λq F=>?_,br.mpr ⟨h.up,dS _ _,λa I b J=>?_⟩⟩;rcases au.mp F with z | z;exact h.ok q z;right;rw[aq.mp J];exact B a I
def New (H:Hp)(o:HO)(R:V->Hp->Prop):Prop:=∀ (p:Addr) (H':Hp),H p=none->H' p=some o->yO H H'->R (.ref p) H'
def New.at(h:New H o R)(q:H p=none):R (.ref p) (upd H p o):=h p _ q zg (yO.upd q)
def zte (t:TA):TE:=λσ H Q=>t σ H λxs H1=>xs.length<=sizeLine/\New H1 (.tup xs) Q
def zs6 (t:TA):TE:=λσ H Q=>t σ H λxs H1=>xs.length<=sizeLine/\New H1 (.lst xs) Q
section
variable {X:Cx}{es:AO}{t:TA}{pos:Pos}
def zpj {x1}(h:PA X es t):PE X (.Tuple es x1 pos) (zte t):=by intro pins s σ H Q I F;show wpAny_Tuple_spliced (thn (h pos pins s σ H _ I F) λus B ⟨xs,H1,I1,r,z,q⟩=>⟨by rw[<- r.length];exact z,?_⟩);have J:H1 B.heap.objs.size=none:=I1.hok.fresh (ak _);show⟨.ref B.heap.objs.size,upd H1 B.heap.objs.size (.tup xs),I1.laid (t':=B.toks) (λb u e=>ai _ e) (ak _) ?_,rfl,q.at J⟩;exact⟨z,us,r,⟨_,aw _ rfl,rfl,⟨_,rfl⟩,rfl⟩⟩
def zpe (h:PA X es t):PE X (.List es pos) (zs6 t):=by intro pins s σ H Q I F;show wpAny_List_spliced (thn (h pos pins s σ H _ I F) λus B ⟨xs,H1,I1,r,z,q⟩=>⟨by rw[<- r.length];exact z,?_⟩);have J:H1 B.heap.objs.size=none:=I1.hok.fresh (ak _);show⟨.ref B.heap.objs.size,upd H1 B.heap.objs.size (.lst xs),I1.laid (t':=B.toks) (λb u e=>ai _ e) (ak _) ?_,rfl,q.at J⟩;exact⟨z,us,0,r,aw _ rfl⟩
def zd5 {x1}(h:QA X es t):QE X (.Tuple es x1 pos) (zte t):=⟨zpj h.run⟩
def zpD (h:QA X es t):QE X (.List es pos) (zs6 t):=⟨zpe h.run⟩
def CallQ.weak(h:CallQ X f r)(k:∀xs H Q,q xs H Q->r xs H Q):CallQ X f q:=⟨λpins s σ H xs us Q I rr z=>h.run pins s σ H xs us Q I rr (k _ _ _ z)⟩
def OpQ.weak(h:OpQ X f r)(k:∀x y H Q,q x y H Q->r x y H Q):OpQ X f q:=⟨λpins s σ H x y v u Q I B F z=>h.run pins s σ H x y v u Q I B F (k _ _ _ _ z)⟩
def zku (K:AH):AT->Hp->VK->Prop:=λxs H Q=>∃p ys,xs=[.ref p]/\(SqL K H p ys\/SqT K H p ys)/\New H (.lst ys) Q
def zgj (K:AH):AT->Hp->VK->Prop:=λxs H Q=>∃p ys,xs=[.ref p]/\((SqL K H p ys/\New H (.tup ys) Q)\/(SqT K H p ys/\Q (.ref p) H))
def zfD:CallQ X (.type "list") (zku X.K):=zhE.weak <| by rintro xs H Q ⟨p,ys,e,h,n⟩;exact⟨p,ys,e,h,λl q=>n.at q⟩
def zY:CallQ X (.type "tuple") (zgj X.K):=zfF.weak <| by rintro xs H Q ⟨p,ys,e,h⟩;exact⟨p,ys,e,h.elim (by rintro⟨a,n⟩;exact .inl ⟨a,λl q=>n.at q⟩) .inr⟩
def zpM:R2:=λx y H Q=>∃l b xs zs,x = .ref l/\y = .ref b/\H l=some (.lst xs)/\H b=some (.lst zs)/\xs.length+zs.length<=sizeLine/\New H (.lst (xs++zs)) Q
def zf9:OpQ X (binaryOp .Add) zpM:=zrY.weak <| by rintro x y H Q ⟨l,b,xs,zs,q,B,h1,h2,z,n⟩;exact⟨l,b,xs,zs,q,B,h1,h2,z,λp F=>n.at F⟩
end
def zt7 (J:It)(g:TG)(ti:TT)(te:TE)(acc:Addr)(Q:VK)(σ:St)(H:Hp):Prop:=∃W:Nat->Nat->St->Hp->Prop,(∃m,W 0 m σ H)/\
 ∀i m q H',W i m q H'->(J.stop i H'/\Q (.ref acc) H')\/(J.go i H'/\∃N:St->Hp->Prop,(∀ B H2,N B H2->∃F,F<m/\W (i+1) F B H2)/\∀x H2,J.yld i H' x H2->zqS g ti te acc N x q H2)
def zkK (wi:TI)(g:TG)(ti:TT)(te:TE)(cix:List (Option Nat)):TE:=λσ H Q=>wi σ H λJ H1=>∀acc,H1 acc=none->zt7 J g ti te acc Q (zeD σ cix) (upd H1 acc (.lst []))
def zmm(q:X.calm=true)(c:CompOk X scope N cix)(hi:QI X tg iter wi)(B:∀C s H ex,QG (zV X scope N C s H ex) tg g)(F:∀C s H ex,QTs (zV X scope N C s H ex) ifs ti)(I:∀C s H ex,QE (zV X scope N C s H ex) elt te)(hs:∀x,foldedSetIterable iter X.env x=pure x:=by intro _;rfl):QE X (.ListComp elt [⟨tg,iter,ifs,0⟩] scope pos) (zkK wi g ti te cix):=zpB q c hi B F I hs
section
variable {K:AH}{a acc:Addr}{xs:AT}{g:TG}{ti:TT}{te:TE}{σ:St}{H:Hp}{Q:VK}
end
def zmC(h:H acc=none)(s:yO H H1):yO H (upd H1 acc o):=λb u e=>by rw[ze (zf e h)];exact s b u e
section
variable {X:Cx}(K:AH)(h:X.K=K)
include h
def zqz:IxQ X (zqF K):=h ▸ yt
def zdZ:OpQ X (compareOp .NotIn) (rIn K true):=h ▸ uT
end
def zkn {X:Cx}(K:AH)(B:X.K=K){es:AO}{pos:Pos}{k:Nat}{gs:TGs}{n:Nat}(F:X.calm=true)(h:QGs X es gs)(hn:(assignEach es X.env).length=n:=by rfl)(q:(assignEach es X.env).findIdx? (·.1)=none:=by rfl):QG X (.Tuple es k pos) (zuw K n gs):=B ▸ zkm F h hn q
def zpH(K:AH)(q:X.K=K)(B:QE X e te):QI X tg e (zuz K te):=q ▸ zkp B
def zhl(K:AH)(q:X.K=K)(B:QE X e te):QI X tg e (zoo K te):=q ▸ zko B
structure Wi where
 g:List (Int×Int)
 b:Int
 r:Int
 w:Int
abbrev AW:=List Wi
abbrev xM (x:Wi):Dt:=.tup [.tup (x.g.map xK),.int x.b,.int x.r,.int x.w]
structure WishOk (rm:AG)(x:Wi):Prop where
 giv:Giv rm x.g
 b0:0<=x.b
 b1:x.b<rm.length
 apart:∀q∈x.g,q.1≠x.b
 r0:0<=x.r
 r1:x.r<zP rm x.b
 w0:0<=x.w
 w1:x.w<zP rm x.b
 ne:x.r≠x.w
def zii (H:Hp)(R:Dt->Prop)(xs:AT):Prop:=∀x∈xs,∃d,Is H d x/\R d
section
variable {H H':Hp}{R:Dt->Prop}{xs ys:AT}
def zii.stay (h:zii H R xs)(s:zu H H'):zii H' R xs:=λx q=>by obtain⟨d,B,F⟩:=h x q;exact⟨d,B.stay s,F⟩
end
def zg8 (x:Wi):(xM x).noL=true:=by change Dt.noLs [.tup (x.g.map xK),.int x.b,.int x.r,.int x.w]=true;change (Dt.noLs (x.g.map xK)&&_)=true;rw[ze2];rfl
def zgT (b:Int)(ns:AG):inV (.int b) (ns.map V.int)=ns.contains b:=by
 unfold inV
 induction ns with
 | nil=>rfl
 | cons n ns q=>
  rw[aB,cR,q,List.contains_cons];show ((n==b) || _)=((b==n) || _);rw[show (n==b)=(b==n) from BEq.comm]
def zeM (ns:AG):(ns.map V.int).all zcF=true:=by rw[cz];intro x q;obtain⟨n,_,rfl⟩:=aD.mp q;rfl
def zfN {m:Int}:∀ {g:List (Int×Int)} {lo:Int},(∀q∈g,lo<=q.1/\q.1<m)->(g.Pairwise λa b=>a.1<b.1)->lo<=m->(g.length:Int)<=m - lo
 | [],lo,_,_,h=>by simp;lia
 | q::g,lo,h,I,J=>by
  have h1:=h q am;have B:=a9.mp I;have O:=zfN (g:=g) (lo:=q.1+1) (λx F=>⟨by have:=B.1 x F;lia,(h x (ar _ F)).2⟩) B.2 (by lia);grind
def zok {rm:AG}{g:List (Int×Int)}(h:Giv rm g)(F:rm.length<=8):g.length<=100:=by have:=zfN (g:=g) (lo:=0) (m:=rm.length) (λq B=>⟨(h.ok q B).1,(h.ok q B).2.1⟩) h.up (by lia);lia
def ziD (xs:AT)(k:Nat):zc0 xs none (some (k:Int))=xs.take k:=by
 have e:HT.sIx xs.length xs.length (some (k:Int))=min k xs.length:=by simp[HT.sIx];try lia
 unfold zc0;rw[e,show HT.sIx xs.length 0 none=0 from rfl,dC,Nat.sub_zero];grind
def ziC (xs:AT)(k:Nat):zc0 xs (some (k:Int)) none=xs.drop k:=by
 have e:HT.sIx xs.length 0 (some (k:Int))=min k xs.length:=by simp[HT.sIx];try lia
 unfold zc0;rw[e,show HT.sIx xs.length xs.length none=xs.length from rfl];by_cases h:k<=xs.length;rw[dU h,bj (by simp)];rw[Nat.min_eq_right (by lia),List.drop_eq_nil_of_le (as:=xs) (i:=xs.length) (by lia),List.drop_eq_nil_of_le (as:=xs) (i:=k) (by lia),List.take_nil]
def zif(h:Is H (xM x) v):∃ (a q:Addr) (gs:AT),v = .ref a/\H a=some (.tup [.ref q,.int x.b,.int x.r,.int x.w])/\H q=some (.tup gs)/\IsL H (x.g.map xK) gs:=by obtain⟨a,xs,rfl,J,U,Y,rfl,B,O⟩:=h;obtain⟨q,gs,rfl,F,I⟩:=B;obtain rfl:=IsL.of_ints (ns:=[x.b,x.r,x.w]) O;exact⟨a,q,gs,rfl,J,F,I⟩
def zu2 {α q:Type}{G:Prop}(P C:α->q->Prop)(h:(∀a b,C a b->P a b)->G)(r:∀a b,C a b->P a b):G:=h r
section
variable {rm:AG}{g b r w:Dt}
end
end L2
namespace HT
open PyProof.Rows
section
variable {prog:Aa}{w:Ab}{A:Ae}{E:AA}{s:AZ}
def fm_congr {α q:Type}{f g:α->Option q}:∀ {l:List α},(∀m∈l,f m=g m)->l.filterMap f=l.filterMap g
 | [],_=>rfl
 | a::l,h=>by rw[List.filterMap_cons,List.filterMap_cons,h a List.mem_cons_self,fm_congr λm B=>h m (List.mem_cons_of_mem _ B)]
def pick_rev (xs:AK):((List.range xs.size).filterMap λ(m:Nat)=>xs[((xs.size:Int) - 1+(m:Int) * (-1)).toNat]?).toArray=xs.toList.reverse.toArray:=by
 congr 1
 have e:∀m∈List.range xs.size,xs[((xs.size:Int) - 1+(m:Int) * (-1)).toNat]?=some (xs.toList.reverse.getD m .none):=by
  intro m q;have B:=List.mem_range.mp q;have F:((xs.size:Int) - 1+(m:Int) * (-1)).toNat=xs.size - 1 - m:=by lia
  right
 rw[fm_congr e];rw[List.filterMap_eq_map' (f:=λm=>xs.toList.reverse.getD m .none)];show List.ext_getElem? λi=>?_;rw[List.getElem?_map];by_cases hi:i<xs.size
 all_goals right
end
end HT
namespace L2
open PyProof.Rows
section
variable {X:Cx}{e:Expr}{te:TE}{pos p2 p3 p4:Pos}{j:Nat}
def zfu(r:zT xs us):zT xs.reverse us.reverse:=by
 induction r with
 | nil=>exact .nil
 | cons h _ q=>rw[cJ,cJ];exact q.append (.cons h .nil)
def zee (xs:AK):slicePick xs none none (some (-1))=xs.toList.reverse.toArray:=by
 rw[<- HT.pick_rev];unfold slicePick;congr 1;have q:sliceBounds none none (some (-1)) xs.size=((xs.size:Int) - 1,-1,-1):=by simp[sliceBounds]
 rw[q];unfold sliceRange;have B:(if (-1:Int) > 0 then (if (xs.size:Int) - 1 < -1 then (-1 - ((xs.size:Int) - 1)+-1 - 1) / -1 else 0) else if (xs.size:Int) - 1 > -1 then ((xs.size:Int) - 1 - -1 - -1 - 1) / - -1 else 0).toNat=xs.size:=by grind
 change List.filterMap (λx=>xs[x]?) (List.map _ (List.range (if (-1:Int) > 0 then (if (xs.size:Int) - 1 < -1 then (-1 - ((xs.size:Int) - 1)+-1 - 1) / -1 else 0) else if (xs.size:Int) - 1 > -1 then ((xs.size:Int) - 1 - -1 - -1 - 1) / - -1 else 0).toNat))=_;rw[B,fq];show HT.fm_congr λm F=>?_;grind
def ztb (te:TE):TE:=λσ H Q=>te σ H λx H1=>∃a xs,x = .ref a/\H1 a=some (.lst xs)/\New H1 (.lst xs.reverse) Q
def zph (U:PE X e te):PE X (.Subscript e (.Slice none none (some (.UnaryOp .USub (.Constant (.int 1) j p4) p3)) p2) pos) (ztb te):=by intro pins s σ H Q I h;show Subscript_ (thn (U pins s σ H _ I h)  ?_);rintro v Y ⟨x,H1,I1,Z,q1⟩;obtain⟨a,xs,rfl,ha,q⟩:=q1;cases Z;show wpAny_Slice ?_;rw[evalPart_none];show ah (ah ?_);rw[evalPart_some];show thn (zvj (ztl (X:=X)) (znt (X:=X)) pins Y σ H1 (λz H2=>z = .int (-1)/\H2=H1) I1 ⟨1,rfl,rfl,rfl⟩)  ?_;rintro u B ⟨z,H2,I2,r2,e1,e2⟩;subst e1 e2;obtain⟨tk,rfl⟩:=r2;have I3:Inv X pins σ H2 { B with heap:=B.heap.push { cls:=.type "slice",data:=.fields #[.none,.none,.int (-1) tk] } }:=I2.kept (t':=B.toks) λb ob q=>ai _ q;obtain⟨F,r,J,hz⟩:=I3.list (.of ha);have O:=r.length;change Af X (subscriptTail e _ (.ref a) (.ref B.heap.objs.size)) (EP X pins σ Q) X.xe { B with heap:=B.heap.push { cls:=.type "slice",data:=.fields #[.none,.none,.int (-1) tk] } };show tail_any (ops:=[.ref a,.ref B.heap.objs.size]) J.isList.typeIs slot_list_getitem.lookup ?_ (by with_unfolding_all rfl);show wpAny_getItem_list_slice J.isList (Heap.IsSliceOf.new ..) .none .none (.int (-1) tk) (by simp) ?_ (by grind);rw[zee];show⟨.ref _,_,I3.laid (t':=B.toks) (o:=.lst xs.reverse) (λb ob q=>ai _ q) (ak _) ?_,rfl,q.at (I3.hok.fresh (ak _))⟩;exact⟨by right,F.reverse,0,zfu r,aw _ rfl⟩
def zpE (q:QE X e te):QE X (.Subscript e (.Slice none none (some (.UnaryOp .USub (.Constant (.int 1) j p4) p3)) p2) pos) (ztb te):=⟨zph q.run⟩
def zvt:V->V->V->Hp->(Hp->Prop)->Prop:=λo i v H Q=>∃p xs k,o = .ref p/\i = .int k/\H p=some (.lst xs)/\0<=k/\k<xs.length/\Q (upd H p (.lst (xs.set k.toNat v)))
def zpF(ho:QE X o to)(hi:QE X i ti)(ha:∀v,assign (.Subscript o i pos) X.env v=(do
   let ov <- holding [v] (eval o X.env)
   let iv <- holding [v,ov] (eval i X.env)
   standAt pos
   holding [v,ov,iv] (setItem ov iv v)
   release [v,ov,iv] []):=by intro _;rfl):QG X (.Subscript o i pos) (gSub to ti zvt):=
 ⟨zsi ho.run hi.run (by rintro pins s σ H o i v ov iv u Q I ro ri rv ⟨p,xs,k,e1,e2,hp,h0,h1,q⟩;exact zmG pins s σ H o i v ov iv u Q I ro ri rv ⟨p,xs,k,k.toNat,e1,e2,hp,by unfold ixN;rw[if_pos h0,if_pos h1],q⟩) ha⟩
end
def zg6 {st:AG}{b:Int}(B:0<=b)(h1:b<st.length):atI (st.map V.int) b=some (.int (zP st b)):=by
 obtain⟨j,rfl⟩:∃j:Nat,b=j:=⟨b.toNat,by lia⟩;have q:j<st.length:=by lia
 have e:zP st (j:Int)=st[j]:=by unfold zP;simp[q]
 rw[e];exact zir (by simp[q])
def chg (st:AG)(b w:Int):AG:=st.take b.toNat++[w]++st.drop (b.toNat+1)
def ziv (st:AG){b w:Int}(q:0<=b):zc0 (st.map V.int) none (some b)++[.int w]++zc0 (st.map V.int) (some (b+1)) none=(chg st b w).map V.int:=by
 obtain⟨j,rfl⟩:∃j:Nat,b=j:=⟨b.toNat,by lia⟩;rw[ziD,show ((j:Int)+1)=((j+1:Nat):Int) by lia,ziC];unfold chg;right
def ziw {st:AG}{b w:Int}(q:0<=b)(h1:b<st.length):(chg st b w).length=st.length:=by
 unfold chg;grind
def znZ {st:AG}{b w c:Int}(B:0<=b)(h1:b<st.length)(F:0<=c):zP (chg st b w) c=if c=b then w else zP st c:=by
 obtain⟨j,rfl⟩:∃j:Nat,b=j:=⟨b.toNat,by lia⟩;obtain⟨k,rfl⟩:∃k:Nat,c=k:=⟨c.toNat,by lia⟩;have I:j<st.length:=by lia
 unfold zP chg;simp only[aR,bq];have q:(st.take j).length=j:=by rw[bm];lia
 rcases cK k j with h | h | h;rw[if_neg (by lia),aC,bD (by rw[q];exact h),bZ h];right;rw[if_neg (by lia),aC,bp (by rw[q];lia),q];obtain⟨m,rfl⟩:∃m,k=j+1+m:=⟨k - (j+1),by lia⟩;rw[show j+1+m - j=m+1 by lia];right
def xu (st:AG)(g:List (Int×Int)):Bool:=g.all λq=>decide (zP st q.1=q.2)
def zad (st:AG)(x:Wi):Bool:=decide (zP st x.b=x.w)&&xu st x.g
structure BookAt (H:Hp)(rm:AG)(ba:Addr)(xs:AT)(bk:AW):Prop where
 at':H ba=some (.tup xs)
 is:IsL H (bk.map xM) xs
 ok:∀x∈bk,WishOk rm x
def BookAt.stay{rm:AG}(h:BookAt H rm q xs bk)(s:zu H H'):BookAt H' rm q xs bk:=⟨s.tup h.at',h.is.stay s,h.ok⟩
def BookAt.len{rm:AG}(h:BookAt H rm q xs bk):xs.length=bk.length:=by
 have:=h.is.length;right
def BookAt.get {H:Hp}{rm:AG}{I:Addr}{xs:AT}{bk:AW}(h:BookAt H rm I xs bk){i:Nat}{v:V}(J:xs[i]?=some v):∃x,bk[i]?=some x/\Is H (xM x) v/\WishOk rm x:=by obtain⟨d,B,q⟩:=h.is.get J;rw[aN] at B;obtain⟨x,F,rfl⟩:=aL.mp B;exact⟨x,F,q,h.ok x (aJ F)⟩
def xZ:∀bk:AW,Dt.noLs (bk.map xM)=true
 | []=>rfl
 | x::bk=>by change ((xM x).noL&&Dt.noLs (bk.map xM))=true;rw[zg8,xZ bk];rfl
def zN (st:AG)(j:Nat):zP st (j:Int)=st.getD j 0:=by unfold zP;simp
def yj {st:AG}{r b:Int}(B:0<=b)(h1:b<st.length):zP (st++[r]) b=zP st b:=by
 obtain⟨j,rfl⟩:∃j:Nat,b=j:=⟨b.toNat,by lia⟩;have q:j<st.length:=by lia
 rw[zN,zN,bq,bq,bD q]
def xy {st:AG}{r:Int}:zP (st++[r]) (st.length:Int)=r:=by rw[zN,bq,bp (ak _),Nat.sub_self];rfl
def zf3 {st:AG}{i:Nat}{m:Int}(h:st[i]?=some m):zP st (i:Int)=m:=by rw[zN,bq,h];rfl
def x6 {rm:AG}(B:∀r∈rm,2<=r/\r<=4){b:Int}(F:0<=b)(h1:b<rm.length):2<=zP rm b/\zP rm b<=4:=by
 obtain⟨j,rfl⟩:∃j:Nat,b=j:=⟨b.toNat,by lia⟩;have q:j<rm.length:=by lia
 rw[zf3 (ax q)];right
def zfl:Sp:=λvs H Q _=>∃ (a:Addr) (st:AG) (b w:Int),vs=[.ref a,.int b,.int w]/\H a=some (.tup (st.map V.int))/\st.length<=400/\0<=b/\∀ (p:Addr) (H':Hp),H' p=some (.tup ((chg st b w).map V.int))->yO H H'->Q (.ref p) H'
def zkH:Sp:=λvs H Q _=>∃ (a B:Addr) (st:AG) (gs:AT) (g:List (Int×Int)),vs=[.ref a,.ref B]/\H a=some (.tup (st.map V.int))/\H B=some (.tup gs)/\IsL H (g.map xK) gs/\(∀q∈g,0<=q.1/\q.1<st.length)/\Q (.bl (xu st g)) H
def zaG:∀st:AG,Dt.noLs (st.map .int)=true
 | []=>rfl
 | _::st=>by change (true&&Dt.noLs (st.map .int))=true;rw[zaG st];rfl
def zlP (st:AG):PySem.W.kqdOk 7 (Dt.tup (st.map .int)).toW=true:=by
 have e:∀ns:AG,(Dt.toWs (ns.map .int)).all (PySem.W.kqdOk 6)=true:=by
  intro ns
  induction ns with
  | nil=>rfl
  | cons n ns q=>simp only[aB,Dt.toWs,dl,q,eM];rfl
 exact e st
def zpK{X:Cx}{ifs:AO}{scope:Scope}{pos spos:Pos}{wi:TI}{g:TG}{ti:TT}{te:TE}{N:AM}{nx:Str}(q:X.N.Nodup)(B:X.N[ix]?=some nx)(F:X.env.scope.names.lookup nx=some .local)(Y:X.calm=true)(c:CompOk X scope N cix)(hi:QI X tg iter wi)(Z:∀C s H ex,QG (zV X scope N C s H ex) tg g)(ht:∀C s H ex,QTs (zV X scope N C s H ex) ifs ti)(he:∀C s H ex,QE (zV X scope N C s H ex) elt te)(J:swapsWithSole [.Name nx px] (.ListComp elt [⟨tg,iter,ifs,0⟩] scope pos) spos.line X.env=pure true:=by rfl)(hs:∀x,foldedSetIterable iter X.env x=pure x:=by intro _;rfl)(O:(assignEach [.Name nx px] X.env).map (·.2)=[assign (.Name nx px) X.env]:=by rfl):QS X (.Assign [.Name nx px] (.ListComp elt [⟨tg,iter,ifs,0⟩] scope pos) spos) (zh6 (zkK wi g ti te cix) (za5 ix)):=⟨λpins s σ H D I h=>zld q B F J O (λ_=>rfl) λU Qp hf=>ze0 (Fin:=λacc H=>D.nx (σ.set ix (some (.ref acc))) H) (zck c) Y hi.run (zlz λC s H ex=>(Z C s H ex).run) (zlz λC s H ex=>(ht C s H ex).run) (zlz λC s H ex=>(he C s H ex).run) hs I h hf⟩
section
variable {prog:Aa}{w:Ab}{A:Ae}{E:AA}{s:AZ}
variable {X:Cx}
variable {R:Result->AZ->Prop}
variable {Fam:Cx->Prop}{scope:Scope}{N:AM}{cix:List (Option Nat)}{z:Str}{use:Option (Value->Sem Unit)}{Qp:AA}{elt ke ve tg iter tg2 iter2:Expr}{ifs ifs2:AO}{pos ipos spos px:Pos}{wi wi2:TI}{g g2:TG}{ti ti2:TT}{te tk tv:TE}{pins:AB}{σ:St}{H:Hp}{Q:VK}{o0:HO}
variable {K:AH}{a acc:Addr}{xs:AT}{N:St->Hp->Prop}
end
section
variable {X:Cx}
def zll:CallQ X (.type "range") (λxs H Q=>∃n,xs=[.int n]/\New H (.rng 0 n) Q):=⟨by
 intro pins s σ H xs us Q I r h;obtain⟨n,rfl,q⟩:=h;obtain⟨u,rfl,B⟩:=zaY r;obtain⟨t,rfl⟩:=B;show call_range_1 ?_;show⟨.ref s.heap.objs.size,_,I.laid (t':=s.toks+1+1) (o:=.rng 0 n) (λb ob q=>ai _ q) (ak _) ?_,rfl,q.at (I.hok.fresh (ak _))⟩;exact⟨_,_,_,aw _ rfl⟩⟩
def zhr (n:Nat):Builtin.Range.rangeSize 0 (n:Int) 1=n:=by
 unfold Builtin.Range.rangeSize;grind
def zk0:∀ {xs:AT} {us:AN},xs.length=us.length->(∀ (i:Nat) x u,xs[i]?=some x->us[i]?=some u->yd x u)->zT xs us
 | [],[],_,_=>.nil
 | [],_::_,h,_=>by simp at h
 | _::_,[],h,_=>by simp at h
 | x::xs,u::us,h,k=>.cons (k 0 x u rfl rfl) (zk0 (by simpa using h) λi y v q B=>k (i+1) y v q B)
def zfE (U:X.calm=true):CallQ X (.type "list") (λxs H Q=>∃ (p:Addr) (n:Nat),xs=[.ref p]/\H p=some (.rng 0 n)/\n<=1000/\New H (.lst ((List.range n).map λi:Nat=>V.int i)) Q):=⟨by
 intro pins s σ H xs us Q I r h;obtain⟨p,n,rfl,Y,hn,q⟩:=h;obtain⟨u,rfl,Z⟩:=zaY r;cases Z;obtain⟨t,u,v,ho⟩:=I.hok p _ Y;have J:n<sizeLine:=zcC hn;show call_list_range (a:=0) (b:=n) (c:=1) (n:=n) (I.ok.hd U) ho ?_ ?_ (aA hn (by ext)) λh' tk B c' kp hg F=>?_;have e:=zhr n;unfold Builtin.Range.small;rw[e];simp[Builtin.Range.rangeFitsLong];lia;exact zhr n
 have hv:zT ((List.range n).map λi:Nat=>V.int i) B.toList:=by
  show zk0 (by rw[af,aE,aK,F.1]) λj x u O hu=>?_;rw[aN] at O;obtain⟨k,hk,rfl⟩:=aL.mp O;obtain⟨aa,e⟩:=aj.mp hk;have:k=j:=by simpa using e.symm
  subst this;obtain⟨t',rfl⟩:=F.2 k u (by simpa using hu);exact⟨t',by lia⟩
 show⟨.ref s.heap.objs.size,_,I.laid (t':=tk) (o:=.lst ((List.range n).map λi:Nat=>V.int i)) kp (ak _) ?_,rfl,q.at (I.hok.fresh (ak _))⟩;exact⟨by rw[af,aE];exact cH J,B.toList,c',hv,by simpa using hg⟩⟩
end
def zG (m:Int):AG:=(List.range m.toNat).map λi:Nat=>(i:Int)
def xR (q:AF)(B:AG):AF:=q.flatMap λr=>B.map λw=>r++[w]
def uF (cs:AF):AF:=cs.foldl xR [[]]
def y8 (cs:AF)(c:AG):uF (cs++[c])=xR (uF cs) c:=by
 unfold uF;right
def zlq:AG->Nat->AG
 | [],_=>[]
 | m::r,k=>zlq r (k / m.toNat)++[((k % m.toNat:Nat):Int)]
def zh3:AG->Nat
 | []=>1
 | m::r=>zh3 r * m.toNat
def zkw (P m:Nat):List.range (P * m)=(List.range P).flatMap λq=>(List.range m).map λr=>q * m+r:=by
 induction P with
 | zero=>rw[Nat.zero_mul];rfl
 | succ P B=>
  rw[gg,List.range_add,B,List.range_succ,List.flatMap_append];simp
def zfG (P m:Nat)(f:Nat->AG):xR ((List.range P).map f) ((List.range m).map λi:Nat=>(i:Int))=(List.range (P * m)).map λk=>f (k / m)++[((k % m:Nat):Int)]:=by
 unfold xR;rw[zkw,List.map_flatMap,List.flatMap_map];congr 1;funext q;rw[aF,aF];show bL λr F=>?_;have B:=aQ.mp F;change f q++[(r:Int)]=f ((q * m+r) / m)++[(((q * m+r) % m:Nat):Int)];have I:(q * m+r) / m=q:=by rw[Nat.mul_comm,Nat.mul_add_div (by lia),gb B];lia
 have J:(q * m+r) % m=r:=by rw[Nat.mul_comm,Nat.mul_add_mod,Nat.mod_eq_of_lt B]
 rw[I,J]
def zgz:∀rr:AG,uF (rr.reverse.map zG)=(List.range (zh3 rr)).map (zlq rr)
 | []=>rfl
 | m::r=>by rw[cJ,aH];change uF (r.reverse.map zG++[zG m])=_;rw[y8,zgz r];exact zfG (zh3 r) m.toNat (zlq r)
def zdi:∀ {rr:AG},(∀m∈rr,1<=m)->(zh3 rr:Int)=zI rr.reverse
 | [],_=>rfl
 | m::r,h=>by have B:=h m am;rw[cJ,yB,<- zdi λx q=>h x (ar _ q)];change ((zh3 r * m.toNat:Nat):Int)=_;rw[dW];congr 1;lia
abbrev stD (st:AG):Dt:=.tup (st.map .int)
def yq:∀sts:AF,Dt.noLs (sts.map stD)=true
 | []=>rfl
 | st::sts=>by show ((stD st).noL&&Dt.noLs (sts.map stD))=true;rw[yq sts,show (stD st).noL=true from zaG st];rfl
def zar (sts:AF):(Dt.lst (sts.map stD)).eqOk:=by
 have e:∀sts:AF,(Dt.toWs (sts.map stD)).all (PySem.W.kqdOk 7)=true:=by
  intro sts
  induction sts with
  | nil=>rfl
  | cons m B q=>simp only[aB,Dt.toWs,dl,q,show PySem.W.kqdOk 7 (stD m).toW=true from zlP m,eM]
 exact e sts
def zcZ (q:AF)(B:AG):(xR q B).length=q.length * B.length:=by
 unfold xR;rw[List.length_flatMap]
 induction q with
 | nil=>simp
 | cons r q F=>rw[aB,List.sum_cons,F,af,aO,gg,Nat.add_comm]
def zla:∀ (cs:AF) (q:AG),q∈uF cs->q.length=cs.length:=by
 intro cs
 have:∀ (n:Nat) (cs:AF),cs.length=n->∀q,q∈uF cs->q.length=cs.length:=by
  intro n
  induction n with
  | zero=>
   intro cs h q B;have:cs=[]:=aY h;subst this;have:q=[]:=by simpa [uF] using B
   right
  | succ n I=>
   intro cs h q B;have F:cs≠[]:=by intro z;rw[z] at h;simp at h
   rw[<- bu F,y8] at B;unfold xR at B;grind
 exact this cs.length cs rfl
def znR:∀ (n:Nat) (cs:AF),cs.length=n->(∀c∈cs,c.length<=4)->(uF cs).length<=4 ^ n:=by
 intro n
 induction n with
 | zero=>
  intro cs h _;have:cs=[]:=aY h;subst this;exact ak _
 | succ n F=>
  intro cs h B;have q:cs≠[]:=by intro z;rw[z] at h;simp at h
  rw[<- bu q,y8,zcZ,Nat.pow_succ];exact Nat.mul_le_mul (F cs.dropLast (by grind) λc I=>B c ((List.dropLast_sublist cs).subset I)) (B _ (List.getLast_mem q))
def zk9 {cs:AF}(F:cs.length<=8)(q:∀c∈cs,c.length<=4)(k:Nat):(uF (cs.take k)).length<=65536:=by
 show aA (znR _ (cs.take k) rfl λc B=>q c (bF B)) ?_;have:(cs.take k).length<=8:=by rw[bm];lia
 exact aA (dz (by ext) this) (by ext)
def zmz (rm:AG):uF (rm.map zG)=(List.range (zh3 rm.reverse)).map (zlq rm.reverse):=by
 have:=zgz rm.reverse;right
def zbf (m:Int):(zG m).length=m.toNat:=by unfold zG;rw[af,aE]
section
variable {X:Cx}{o:Expr}{to:TE}{apos cpos:Pos}
def zkl (I:QE X o to)(q:attributeBase o "pop" X.env (eval o X.env)=eval o X.env:=by rfl)(B:(apos.endLine==cpos.line)=true:=by rfl):QE X (.Call (.Attribute o "pop" apos) [] [] cpos) (zvy X.K "list" zvr to):=⟨zr8 de PySem.F.slot_list_pop PySem.F.type_list_pop zrJ I.run q B⟩
open PySem.W
variable {n:Nat}{f:Nat->Int}
def key (f:Nat->Int)(p:Array Nat)(k:Nat):Int:=f (p.getD k 0)
structure Up (n:Nat)(f:Nat->Int)(p:Array Nat)(m:Nat):Prop where
 perm:p.Perm (List.range n).toArray
 le:m<=n
 up:∀k,k+1<m->key f p k<key f p (k+1)
def ze9 {p:Array Nat}(h:p.Perm (List.range n).toArray):p.size=n:=by have:=h.size_eq;simpa using this
def Up.lt_of(h:Up n f p m):∀ {i j:Nat},i<j->j<m->key f p i<key f p j:=by
 intro i j
 induction j with
 | zero=>intro F;lia
 | succ j I=>
  intro q B;have h1:=h.up j B;grind
def zil (n:Nat)(f:Nat->Int):Prop:=∀i j,i<n->j<n->f i=f j->i=j
end
def zi8:Bool->Keyed->Array Keyed->Nat->Nat->Nat->StateT SortSt Sem (Option Nat):=sortPriv% PySem.Builtin.gallop
def zl0:Array Keyed->Array Keyed->StateT SortSt Sem (Array Keyed):=sortPriv% PySem.Builtin.mergeLo
def zlZ:Array Keyed->Array Keyed->StateT SortSt Sem (Array Keyed):=sortPriv% PySem.Builtin.mergeHi
def zbv (M:Model)(A:Ae)(s:AZ)(κ:SortKind)(L0:List Keyed)(f:Keyed->Int):Prop:=
 ∀x y,x∈L0->y∈L0->∀ (Q:Bool->AZ->Prop) (E:AA),Q (decide (f x<f y)) s->wpAny M A (keyLt' κ x.1 y.1) Q E s
section
variable {M:Model}{A:Ae}{E:AA}{s:AZ}{κ:SortKind}{L0:List Keyed}{f:Keyed->Int}
def ztg (R:zbv M A s κ L0 f){x y:Keyed}(q:x∈L0)(B:y∈L0){st:SortSt}(F:kindOf st=κ){Q:Option Bool->SortSt->Prop}(h:Q (some (decide (f x<f y))) st):wpS M A E s (lt' x y) Q st:=by rw[lt'_eq];show wpS_bind (wpS_get ?_);rw[F];exact wpS_bind (wpS_lift (dn (R x y q B _ _ ⟨rfl,wpS_pure h⟩)))
def yo {a:Array Keyed}{i:Nat}{x:Keyed}(e:a[i]?=some x){st:SortSt}{Q:Keyed->SortSt->Prop}(h:Q x st):wpS M A E s (elem' a i) Q st:=by rw[elem'_eq,e];exact wpS_pure h
def xF (f:Keyed->Int)(left:Bool)(key x:Keyed):Bool:=if left=true then decide (f x<f key) else !decide (f key<f x)
def zql (R:zbv M A s κ L0 f){key x:Keyed}(q:x∈L0)(B:key∈L0){left:Bool}{st:SortSt}(F:kindOf st=κ){Q:Option Bool->SortSt->Prop}(h:Q (some (xF f left key x)) st) :
  wpS M A E s (if left=true then lt' x key else lt' key x >>= λr=>pure (Option.map (λb=>!b) r)) Q st:=by
 unfold xF at h
 cases left with
 | true=>rw[if_pos rfl] at h ⊢;exact ztg R q B F h
 | false=>rw[if_neg ay] at h ⊢;exact wpS_bind (ztg R B q F (wpS_pure h))
def zmN (R:zbv M A s κ L0 f){left:Bool}{key:Keyed}{a:Array Keyed}{base n hint:Nat}(hy:key∈L0)(ha:∀x∈a,x∈L0)(hn:base+n<=a.size)(hh:hint<n){B:Nat->Bool}(hB:∀i x,i<n->a[base+i]?=some x->xF f left key x=B i)(Z:∀i j,i<=j->j<n->B j=true->B i=true)
  {st:SortSt} (hk:kindOf st=κ) {Q:Option Nat->SortSt->Prop} (h:∀k,k<=n->(∀i,i<k->B i=true)->(∀i,k<=i->i<n->B i=false)->Q (some k) st):wpS M A E s (zi8 left key a base n hint) Q st:=by
 have O:∀i,i<n->∀ {Q:Option Bool->SortSt->Prop},Q (some (B i)) st->wpS M A E s (elem' a (base+i) >>= λx=>if left=true then lt' x key else lt' key x >>= λr=>pure (Option.map (λb=>!b) r)) Q st:=λi hi {Q} hq=>by have e:a[base+i]?=some a[base+i]:=aS (by lia);show wpS_bind (yo e (zql R (ha _ (dq _)) hy hk ?_));rw[hB i _ hi e];exact hq
 have up:∀i j,i<=j->j<n->B i=false->B j=false:=λi j h1 h2 F=>by
  cases e:B j with
  | false=>rfl
  | true=>rw[Z i j h1 h2 e] at F;cases F
 have fin:∀lo hi,lo<=hi->hi<=n->(∀i,i<lo->B i=true)->(∀i,hi<=i->i<n->B i=false)->∀ {G:Option (Option Nat)×Nat×Nat->SortSt->Prop},(∀l k,k<=n->(∀i,i<k->B i=true)->(∀i,k<=i->i<n->B i=false)->G (none,l,k) st)->∀ {body:Nat->Option (Option Nat)×Nat×Nat->StateT SortSt Sem (ForInStep (Option (Option Nat)×Nat×Nat))},
   (∀x lo hi (G':ForInStep (Option (Option Nat)×Nat×Nat)->SortSt->Prop),lo ≥ hi->G' (.done (none,lo,hi)) st->wpS M A E s (body x (none,lo,hi)) G' st)->
   (∀x lo hi (G':ForInStep (Option (Option Nat)×Nat×Nat)->SortSt->Prop),lo<hi->hi<=n->(B (lo+(hi - lo) / 2)=true->G' (.yield (none,lo+(hi - lo) / 2+1,hi)) st)->(B (lo+(hi - lo) / 2)=false->G' (.yield (none,lo,lo+(hi - lo) / 2)) st)->wpS M A E s (body x (none,lo,hi)) G' st)->
   wpS M A E s (forIn [0:n] (none,lo,hi) body) G st:=by
  intro lo hi h1 h2 F J G hG body b1 b2;show bM (I:=λx c q=>q=st/\∃lo hi,c=(none,lo,hi)/\lo<=hi/\hi<=n/\(∀i,i<lo->B i=true)/\(∀i,hi<=i->i<n->B i=false)/\hi - lo+x<=n) ?_ ?_ ⟨rfl,lo,hi,rfl,h1,h2,F,J,by lia⟩;rintro x c q _ hx ⟨rfl,lo,hi,rfl,h1,h2,F,J,h5⟩;by_cases e:lo ≥ hi;show b1 x lo hi _ e ?_;obtain rfl:lo=hi:=by lia
  exact hG _ _ h2 F J;show b2 x lo hi _ (by lia) h2 (λhb=>?_) (λhb=>?_);exact⟨rfl,_,_,rfl,by lia,h2,λi aa=>Z i _ (by lia) (by lia) hb,J,by lia⟩;exact⟨rfl,_,_,rfl,by lia,by lia,F,λi h1 h2=>up _ i h1 h2 hb,by lia⟩;rintro c q ⟨rfl,lo,hi,rfl,h1,h2,F,J,h5⟩;obtain rfl:lo=hi:=by lia
  exact hG _ _ h2 F J
 show wpS_bind (O hint hh ?_);dsimp only
 cases eB:B hint with
 | true=>
  rw[if_pos rfl];show wpS_bind (wpS_mono (bM (I:=λx c q=>q=st/\∃l o,c=(none,l,o)/\l<o/\hint+l<n/\B (hint+l)=true/\x+1<=o) (Q:=λc q=>q=st/\∃l o,c=(none,l,o)/\l<o/\hint+l<n/\B (hint+l)=true/\(o ≥ n - hint\/(hint+o<n/\B (hint+o)=false))) ?_ ?_ ⟨rfl,0,1,rfl,by lia,by lia,eB,by lia⟩) ?_);rintro x c q _ hx ⟨rfl,l,o,rfl,h1,h2,F,J⟩;dsimp only;by_cases e:o ≥ n - hint;rw[if_pos e];exact wpS_pure ⟨rfl,l,o,rfl,h1,h2,F,.inl e⟩;rw[if_neg e];show wpS_bind (O (hint+o) (by lia) ?_)
  cases eo:B (hint+o) with
  | true=>exact wpS_pure ⟨rfl,o,2 * o+1,rfl,by lia,by lia,eo,by lia⟩
  | false=>exact wpS_pure ⟨rfl,l,o,rfl,h1,h2,F,.inr ⟨by lia,eo⟩⟩
  rintro c q ⟨rfl,l,o,rfl,h1,h2,F,J⟩;exact⟨rfl,l,o,rfl,h1,h2,F,.inl (by lia)⟩;rintro c q ⟨rfl,l,o,rfl,h1,h2,F,J⟩;dsimp only;show wpS_bind (fin (hint+l+1) (hint+min o (n - hint)) (by lia) (by lia) (λi hi=>Z i _ (by lia) h2 F) (λi h5 h6=>?_) (λl' k k1 k2 k3=>?_) (λx lo hi G' e hg=>?_) (λx lo hi G' e e2 U Y=>?_));rcases J with J | ⟨J,h7⟩;lia;exact up _ i (by lia) h6 h7;exact wpS_pure (h k k1 k2 k3);dsimp only;rw[if_pos e];exact wpS_pure hg;dsimp only;rw[if_neg (by lia)];show wpS_bind (O _ (by lia) ?_)
  cases eb:B (lo+(hi - lo) / 2) with
  | true=>exact wpS_pure (U eb)
  | false=>exact wpS_pure (Y eb)
 | false=>
  rw[if_neg ay];show wpS_bind (wpS_mono (bM (I:=λx c q=>q=st/\∃l o,c=(none,l,o)/\l<o/\l<=hint/\B (hint - l)=false/\x+1<=o) (Q:=λc q=>q=st/\∃l o,c=(none,l,o)/\l<o/\l<=hint/\B (hint - l)=false/\(o ≥ hint+1\/(o<=hint/\B (hint - o)=true))) ?_ ?_ ⟨rfl,0,1,rfl,by lia,by lia,eB,by lia⟩) ?_);rintro x c q _ hx ⟨rfl,l,o,rfl,h1,h2,F,J⟩;dsimp only;by_cases e:o ≥ hint+1;rw[if_pos e];exact wpS_pure ⟨rfl,l,o,rfl,h1,h2,F,.inl e⟩;rw[if_neg e];show wpS_bind (O (hint - o) (by lia) ?_)
  cases eo:B (hint - o) with
  | true=>exact wpS_pure ⟨rfl,l,o,rfl,h1,h2,F,.inr ⟨by lia,eo⟩⟩
  | false=>exact wpS_pure ⟨rfl,o,2 * o+1,rfl,by lia,by lia,eo,by lia⟩
  rintro c q ⟨rfl,l,o,rfl,h1,h2,F,J⟩;exact⟨rfl,l,o,rfl,h1,h2,F,.inl (by lia)⟩;rintro c q ⟨rfl,l,o,rfl,h1,h2,F,J⟩;dsimp only;show wpS_bind (fin (hint+1 - min o (hint+1)) (hint - l) (by lia) (by lia) (λi hi=>?_) (λi h5 h6=>up _ i h5 h6 F) (λl' k k1 k2 k3=>?_) (λx lo hi G' e hg=>?_) (λx lo hi G' e e2 U Y=>?_));rcases J with J | ⟨J,h7⟩;lia;exact Z i _ (by lia) (by lia) h7;exact wpS_pure (h k k1 k2 k3);dsimp only;rw[if_pos e];exact wpS_pure hg;dsimp only;rw[if_neg (by lia)];show wpS_bind (O _ (by lia) ?_)
  cases eb:B (lo+(hi - lo) / 2) with
  | true=>exact wpS_pure (U eb)
  | false=>exact wpS_pure (Y eb)
def zhB{key x y:Keyed}(h:f x<=f y)(e:xF f left key y=true):xF f left key x=true:=by
 unfold xF at e ⊢
 cases left with
 | true=>rw[if_pos rfl] at e ⊢;have:=bG e;exact bi (by lia)
 | false=>
  rw[if_neg ay] at e ⊢;simp only[ef,bQ] at e ⊢;lia
abbrev leF (f:Keyed->Int)(x y:Keyed):Prop:=f x<=f y
def zh8 (R:zbv M A s κ L0 f){left:Bool}{key:Keyed}{a:Array Keyed}{base n hint:Nat}(hy:key∈L0)(ha:∀x∈a,x∈L0)(hn:base+n<=a.size)(hh:hint<n)(hs:((a.toList.drop base).take n).Pairwise (leF f))
  {st:SortSt} (hk:kindOf st=κ) {Q:Option Nat->SortSt->Prop} (h:∀k,k<=n->(∀x∈(a.toList.drop base).take k,xF f left key x=true)->(∀x∈((a.toList.drop base).take n).drop k,xF f left key x=false)->Q (some k) st):wpS M A E s (zi8 left key a base n hint) Q st:=by
 have J:((a.toList.drop base).take n).length=n:=by simp;lia
 have q:∀i,i<n->∃x,a[base+i]?=some x/\((a.toList.drop base).take n)[i]?=some x:=λi hi=>by show⟨a[base+i],aS (by lia),?_⟩;rw[bZ hi,fw,b5,aS (by lia)]
 show zmN R hy ha hn hh (B:=λi=>match a[base+i]? with | some x=>xF f left key x | none=>false) (λi x hi e=>by rw[e]) (λi j ad hj U=>?_) hk λk Y h1 h2=>h k Y (λx Z=>?_) (λx Z=>?_);obtain⟨x,F,I⟩:=q i (by lia);obtain⟨y,e3,O⟩:=q j hj;rw[F];rw[e3] at U;by_cases e:i=j;subst e;rw[F] at e3;cases e3;exact U;show zhB ?_ U;obtain⟨aa,q1⟩:=aj.mp I;obtain⟨ab,q2⟩:=aj.mp O;have:=bE.mp hs i j aa ab (by lia);rw[q1,q2] at this;exact this;obtain⟨i,hi,e⟩:=bU.mp Z;have ac:i<k:=by simp at hi;lia
 have:=h1 i ac;obtain⟨y,F,I⟩:=q i (by lia);rw[F] at this;rw[bZ (by lia)] at I;rw[fM] at e;obtain⟨_,O⟩:=aj.mp I;rw[<- e,O];exact this;obtain⟨i,hi,e⟩:=bU.mp Z;rw[eG,J] at hi;have:=h2 (k+i) (by lia) (by lia);obtain⟨y,F,I⟩:=q (k+i) (by lia);rw[F] at this;rw[List.getElem_drop] at e;obtain⟨_,O⟩:=aj.mp I;rw[<- e,O];exact this
end
structure Mg (R:Keyed->Keyed->Prop)(T out ra rb:List Keyed):Prop where
 perm:(out++(ra++rb)).Perm T
 up:out.Pairwise R
 le:∀x∈out,∀y∈ra++rb,R x y
 ua:ra.Pairwise R
 ub:rb.Pairwise R
section
variable {R:Keyed->Keyed->Prop}{T out ra rb c:List Keyed}
def Mg.a (h:Mg R T out (c++ra) rb)(k:∀x∈c,∀y∈rb,R x y):Mg R T (out++c) ra rb:=by
 have F:=br.mp h.ua;show⟨?_,br.mpr ⟨h.up,F.1,λx B y q=>h.le x B y (by simp[q])⟩,λx B y q=>?_,F.2.1,h.ub⟩;have:=h.perm;simpa only[aC] using this
 ·rcases au.mp B with B | B
  ·exact h.le x B y (by rcases au.mp q with q | q <;> simp[q])
  rcases au.mp q with q | q;exact F.2.2 x B y q;exact k x B y q
def Mg.b (h:Mg R T out ra (c++rb))(k:∀x∈c,∀y∈ra,R x y):Mg R T (out++c) ra rb:=by
 have F:=br.mp h.ub;show⟨?_,br.mpr ⟨h.up,F.1,λx B y q=>h.le x B y (by simp[q])⟩,λx B y q=>?_,h.ua,F.2.1⟩;show List.Perm.trans ?_ h.perm;rw[aC];show eu _ ?_;rw[<- aC,<- aC];exact List.Perm.append_right _ List.perm_append_comm
 ·rcases au.mp B with B | B
  ·exact h.le x B y (by rcases au.mp q with q | q <;> simp[q])
  rcases au.mp q with q | q;exact k x B y q;exact F.2.2 x B y q
def zcW (R:Keyed->Keyed->Prop)(T out:List Keyed):Prop:=out.Perm T/\out.Pairwise R
def Mg.told (h:Mg R T out [] []):zcW R T out:=⟨by have:=h.perm;simpa using this,h.up⟩
def Mg.doneA (h:Mg R T out ra []):zcW R T (out++ra):=(Mg.a (c:=ra) (ra:=[]) (by simpa using h) (λ_ _ _ q=>by simp at q)).told
def Mg.doneB (h:Mg R T out [] rb):zcW R T (out++rb):=(Mg.b (c:=rb) (rb:=[]) (by simpa using h) (λ_ _ _ q=>by simp at q)).told
def Mg.last(h:Mg R T out [z] rb)(k:∀y∈rb,R y z):zcW R T (out++rb++[z]):=(Mg.b (c:=rb) (rb:=[]) (by simpa using h) (λx q y B=>by rw[aq.mp B];exact k x q)).doneA
def Mg.lastB(h:Mg R T out ra [z])(k:∀y∈ra,R y z):zcW R T (out++ra++[z]):=(Mg.a (c:=ra) (ra:=[]) (by simpa using h) (λx q y B=>by rw[aq.mp B];exact k x q)).doneB
end
def zhG{a:Array Keyed}(h:i<a.size):∃x,a[i]?=some x/\x∈a/\a.toList.drop i=x::a.toList.drop (i+1):=
 ⟨a[i],aS h,dq h,by rw[bW (by simpa using h)];rfl⟩
def zdx (a:Array Keyed)(i:Nat):(a.extract i a.size).toList=a.toList.drop i:=by simp[bj]
def ziE (l:List Keyed)(i k:Nat):(l.drop i).take k++l.drop (i+k)=l.drop i:=by rw[<- em,aX]
def zgM (a:Array Keyed)(i k:Nat):(a.extract i (i+k)).toList=(a.toList.drop i).take k:=by simp
structure Like (st st':SortSt):Prop where
 kind:kindOf st'=kindOf st
 arr:arrOf st'=arrOf st
 pend:pendingOf st'=pendingOf st
 fail:failedOf st'=failedOf st
section
variable {M:Model}{A:Ae}{E:AA}{s:AZ}{κ:SortKind}{L0:List Keyed}{f:Keyed->Int}
structure LoI (f:Keyed->Int)(T:List Keyed)(a b:Array Keyed)(out:Array Keyed)(ia ib:Nat):Prop where
 mg:Mg (leF f) T out.toList (a.toList.drop ia) (b.toList.drop ib)
 la:ia+1<a.size
 lb:ib<b.size
def zg0 {T:List Keyed}{a b out:Array Keyed}{q B:Nat}(mg:Mg (leF f) T out.toList (a.toList.drop q) (b.toList.drop B))(e:(q+1==a.size)=true)(F:∀x∈b,∀y,a[a.size - 1]?=some y->f x<=f y):zcW (leF f) T (out++b.extract B b.size++a.extract q a.size).toList:=by
 have e:=cg e;obtain⟨z,I,Y,J⟩:=zhG (a:=a) (i:=q) (by lia);have O:a.toList.drop (q+1)=[]:=by rw[eK];simp;lia
 rw[bn,bn,zdx,zdx];rw[J,O] at mg ⊢;show mg.last λy U=>F y ?_ z ?_;have:=cF U;simpa using this;rw[<- I];congr 1;lia
def zeH {T:List Keyed}{a b out:Array Keyed}{q B:Nat}(mg:Mg (leF f) T out.toList (a.toList.drop q) (b.toList.drop B))(e:B=b.size\/q=a.size):zcW (leF f) T (out++a.extract q a.size++b.extract B b.size).toList:=by
 rw[bn,bn,zdx,zdx];rcases e with e | e;have F:b.toList.drop B=[]:=by rw[eK];simp;lia
 rw[F] at mg ⊢;rw[cY];exact mg.doneA;have F:a.toList.drop q=[]:=by rw[eK];simp;lia
 rw[F] at mg ⊢;rw[cY];exact mg.doneB
def zkP (R:zbv M A s κ L0 f){a b:Array Keyed}(ha:∀x∈a,x∈L0)(hb:∀x∈b,x∈L0)(sa:a.toList.Pairwise (leF f))(sb:b.toList.Pairwise (leF f))(na:1<=a.size)(nb:1<=b.size)
  (hf:∀x∈a,∀y,b[0]?=some y->f y<=f x) (hl:∀x∈b,∀y,a[a.size - 1]?=some y->f x<=f y) {st:SortSt} (hk:kindOf st=κ) {Q:Array Keyed->SortSt->Prop}
  (h:∀out Y,Like st Y->zcW (leF f) (a.toList++b.toList) out.toList->Q out Y):wpS M A E s (zl0 a b) Q st:=by
 show wpS_bind (wpS_lift (cU ⟨rfl,?_⟩));obtain⟨y,y1,y2,y3⟩:=zhG (a:=b) (i:=0) (by lia);show wpS_bind (yo y1 ?_)
 have m0:Mg (leF f) (a.toList++b.toList) (#[y]:Array Keyed).toList (a.toList.drop 0) (b.toList.drop 1):=by
  have h0:Mg (leF f) (a.toList++b.toList) [] a.toList ([y]++b.toList.drop 1):=by have e:b.toList=[y]++b.toList.drop 1:=y3;rw[<- e];exact⟨by simp,.nil,λ_ hx=>by simp at hx,sa,sb⟩
  exact h0.b λx hx z hz=>by rw[aq.mp hx];exact hf z (by simpa using hz) y y1
 dsimp only;by_cases e1:(1==b.size)=true;rw[if_pos e1];exact wpS_pure (h _ _ ⟨rfl,rfl,rfl,rfl⟩ (zeH m0 (.inl (cg e1))));rw[if_neg e1];by_cases e2:(0+1==a.size)=true;rw[if_pos e2];exact wpS_pure (h _ _ ⟨rfl,rfl,rfl,rfl⟩ (zg0 m0 e2 hl));rw[if_neg e2];have a7:1≠b.size:=λz=>e1 (by rw[<- z];rfl);have ba:1≠a.size:=λz=>e2 (by rw[<- z];rfl);show wpS_bind (wpS_get ?_);show wpS_bind (wpS_mono (bM (I:=λx c Y=>Like st Y/\∃out ia ib g,c=(none,out,ia,ib,g)/\LoI f (a.toList++b.toList) a b out ia ib/\x+1<=ia+ib) (Q:=λc Y=>Like st Y/\∃r out ia ib g,c=(some r,out,ia,ib,g)/\zcW (leF f) (a.toList++b.toList) r.toList) ?_ ?_ ⟨⟨rfl,rfl,rfl,rfl⟩,_,0,1,_,rfl,⟨m0,by lia,by lia⟩,by lia⟩) ?_)
 ·rintro x c ap _ hx ⟨l1,out,ia,ib,g,rfl,I,hp⟩;dsimp only
  show wpS_bind (wpS_mono (bM (I:=λx c Y=>Like st Y/\∃F O U ac bc,c=(none,F,O,U,ac,bc)/\LoI f (a.toList++b.toList) a b F O U/\x+(ia+ib)<=O+U)
   (Q:=λc Y=>Like st Y/\((∃r F O U ac bc,c=(some r,F,O,U,ac,bc)/\zcW (leF f) (a.toList++b.toList) r.toList)\/∃F O U ac bc,c=(none,F,O,U,ac,bc)/\LoI f (a.toList++b.toList) a b F O U/\ia+ib+1<=O+U)) ?_ ?_ ⟨l1,_,_,_,_,_,rfl,I,by lia⟩) ?_)
  rintro x2 c as _ bb ⟨l2,o2,aa,ab,ac,bc,rfl,I2,a0⟩;dsimp only;have la:=I2.la;have lb:=I2.lb;obtain⟨y,y1,y2,y3⟩:=zhG lb;obtain⟨z,z1,z2,z3⟩:=zhG (a:=a) (i:=aa) (by lia);show wpS_bind (yo y1 (wpS_bind (yo z1 (wpS_bind (ztg R (hb _ y2) (ha _ z2) (l2.kind.trans hk) ?_)))));have mg:=I2.mg;by_cases a1:f y<f z;rw[bi a1];dsimp only;rw[if_pos rfl];show wpS_bind (yo y1 ?_);have ua:=mg.ua;rw[z3] at ua;have ua:=a9.mp ua
  have m2:Mg (leF f) (a.toList++b.toList) (o2.push y).toList (a.toList.drop aa) (b.toList.drop (ab+1)):=by
   rw[y3] at mg;rw[bR];show Mg.b (c:=[y]) mg λx hx w Z=>?_;rw[aq.mp hx];rw[z3] at Z;change f y<=f w;rcases aG.mp Z with rfl | Z;lia;have h9:f z<=f w:=ua.1 w Z;lia
  by_cases e3:(ab+1==b.size)=true;rw[if_pos e3];exact wpS_pure ⟨l2,.inl ⟨_,_,_,_,_,_,rfl,zeH m2 (.inl (cg e3))⟩⟩;rw[if_neg e3];have a2:ab+1≠b.size:=λq=>e3 (by rw[q];exact cA _);split;exact wpS_pure ⟨l2,.inr ⟨_,_,_,_,_,rfl,⟨m2,la,by lia⟩,by lia⟩⟩;exact wpS_pure ⟨l2,_,_,_,_,_,rfl,⟨m2,la,by lia⟩,by lia⟩;rw[a8 a1];dsimp only;rw[if_neg ay];show wpS_bind (yo z1 ?_);have ub:=mg.ub;rw[y3] at ub;have ub:=a9.mp ub
  have m2:Mg (leF f) (a.toList++b.toList) (o2.push z).toList (a.toList.drop (aa+1)) (b.toList.drop ab):=by
   rw[z3] at mg;rw[bR];show Mg.a (c:=[z]) mg λx hx w Z=>?_;rw[aq.mp hx];rw[y3] at Z;change f z<=f w;rcases aG.mp Z with rfl | Z;lia;have h9:f y<=f w:=ub.1 w Z;lia
  by_cases e3:(aa+1+1==a.size)=true;rw[if_pos e3];exact wpS_pure ⟨l2,.inl ⟨_,_,_,_,_,_,rfl,zg0 m2 e3 hl⟩⟩;rw[if_neg e3];have a2:aa+1+1≠a.size:=λq=>e3 (by rw[q];exact cA _);split;exact wpS_pure ⟨l2,.inr ⟨_,_,_,_,_,rfl,⟨m2,by lia,lb⟩,by lia⟩⟩;exact wpS_pure ⟨l2,_,_,_,_,_,rfl,⟨m2,by lia,lb⟩,by lia⟩;rintro c as ⟨l2,o2,aa,ab,ac,bc,rfl,I2,a0⟩;have la:=I2.la;have lb:=I2.lb;lia
  ·rintro c as ⟨l2,⟨r,o2,aa,ab,ac,bc,rfl,ht⟩ | ⟨o2,aa,ab,ac,bc,rfl,I2,a0⟩⟩;exact wpS_pure ⟨l2,_,_,_,_,_,rfl,ht⟩;dsimp only;show wpS_bind (wpS_lift (cU ⟨rfl,?_⟩))
   show wpS_bind (wpS_mono (bM (I:=λx c Y=>Like st Y/\∃F O U g ac bc,c=(none,F,O,U,g,ac,bc)/\LoI f (a.toList++b.toList) a b F O U/\aa+ab<=O+U)
    (Q:=λc Y=>Like st Y/\((∃r F O U g ac bc,c=(some r,F,O,U,g,ac,bc)/\zcW (leF f) (a.toList++b.toList) r.toList)\/∃F O U g ac bc,c=(none,F,O,U,g,ac,bc)/\LoI f (a.toList++b.toList) a b F O U/\aa+ab<=O+U)) ?_ ?_ ⟨l2,_,_,_,_,_,_,rfl,I2,ak _⟩) ?_)
   ·rintro x3 c ad _ bd ⟨l3,o3,J,B,g3,ag,al,rfl,I3,an⟩;dsimp only;have la:=I3.la;have lb:=I3.lb;have mg:=I3.mg;obtain⟨y,y1,y2,y3⟩:=zhG lb;have ub:=mg.ub;rw[y3] at ub;have ub:=a9.mp ub;by_cases g0:g3 > 1
    case' pos=>rw[if_pos g0]
    case' neg=>rw[if_neg g0]
    all_goals
     show wpS_bind (du ?_);have lk:∀g,Like st (SortSt.mk' (kindOf ad) (arrOf ad) (pendingOf ad) g (failedOf ad)):=λg=>⟨l3.kind,l3.arr,l3.pend,l3.fail⟩;show wpS_bind (yo y1 ?_);show wpS_bind (zh8 (n:=a.size - J) (left:=false) (hint:=0) R (hb _ y2) ha (by lia) (by lia) (mg.ua.sublist (cj _ _)) ((lk _).kind.trans hk) λk k1 k2 k3=>?_);dsimp only;have h4:∀w∈a.toList.drop (J+k),f y<=f w:=λw Z=>by have:=k3 w (by rw[bj (by simp),em];exact Z);unfold xF at this;rw[if_neg ay,fB,cm] at this;lia
     have m4:Mg (leF f) (a.toList++b.toList) (o3++a.extract J (J+k)).toList (a.toList.drop (J+k)) (b.toList.drop B):=by
      rw[bn,zgM];show Mg.a (by rw[ziE];exact mg) λx hx w Z=>?_;have h5:=k2 x hx;unfold xF at h5;rw[if_neg ay,ef,bQ] at h5;rw[y3] at Z;change f x<=f w;rcases aG.mp Z with rfl | Z;lia;have h9:f y<=f w:=ub.1 w Z;lia
     by_cases k0:k > 0
     case' pos=>
      rw[if_pos k0];by_cases e4:(J+k+1==a.size)=true;rw[if_pos e4];exact wpS_pure ⟨lk _,.inl ⟨_,_,_,_,_,_,_,rfl,zg0 m4 e4 hl⟩⟩;rw[if_neg e4];by_cases e5:(J+k==a.size)=true;rw[if_pos e5];exact wpS_pure ⟨lk _,.inl ⟨_,_,_,_,_,_,_,rfl,zeH m4 (.inr (cg e5))⟩⟩;rw[if_neg e5];have a3:J+k+1≠a.size:=λq=>e4 (by rw[q];exact cA _);have a4:J+k≠a.size:=λq=>e5 (by rw[q];exact cA _);have q1:J+k+1<a.size:=by lia
      have q2:J<=J+k:=by lia
      clear e4 e5 a3 a4 k1 k2 k3;generalize o3++a.extract J (J+k)=o4 at m4 ⊢;generalize J+k=ia4 at m4 h4 q1 q2 ⊢
     case' neg=>
      rw[if_neg k0];obtain rfl:k=0:=by lia
      have q1:J+1<a.size:=la;have q2:J<=J:=ak _;clear m4;have m4:=mg;rw[gh] at h4;clear k1 k2 k3;generalize ho:o3=o4 at m4 ⊢;generalize hi:J=ia4 at m4 h4 q1 ⊢;have q2:J<=ia4:=by lia
     all_goals
      show wpS_bind (yo y1 ?_);have m5:Mg (leF f) (a.toList++b.toList) (o4.push y).toList (a.toList.drop ia4) (b.toList.drop (B+1)):=by rw[y3] at m4;rw[bR];exact Mg.b (c:=[y]) m4 λx hx w Z=>by rw[aq.mp hx];exact h4 w Z
      by_cases e6:(B+1==b.size)=true;rw[if_pos e6];exact wpS_pure ⟨lk _,.inl ⟨_,_,_,_,_,_,_,rfl,zeH m5 (.inl (cg e6))⟩⟩;rw[if_neg e6];have be:B+1≠b.size:=λq=>e6 (by rw[q];exact cA _);obtain⟨z,z1,z2,z3⟩:=zhG (a:=a) (i:=ia4) (by lia);show wpS_bind (yo z1 ?_);have ua:=m5.ua;rw[z3] at ua;have ua:=a9.mp ua;show wpS_bind (zh8 (n:=b.size - (B+1)) (left:=true) (hint:=0) R (ha _ z2) hb (by lia) (by lia) (m5.ub.sublist (cj _ _)) ((lk _).kind.trans hk) λj j1 j2 j3=>?_);dsimp only;have h6:∀w∈b.toList.drop (B+1+j),f z<=f w:=λw Z=>by have:=j3 w (by rw[bj (by simp),em];exact Z);unfold xF at this;rw[if_pos rfl,bQ] at this;lia
      have m6:Mg (leF f) (a.toList++b.toList) (o4.push y++b.extract (B+1) (B+1+j)).toList (a.toList.drop ia4) (b.toList.drop (B+1+j)):=by
       rw[bn,zgM];show Mg.b (by rw[ziE];exact m5) λx hx w Z=>?_;have h5:=j2 x hx;unfold xF at h5;rw[if_pos rfl,cm] at h5;rw[z3] at Z;change f x<=f w;rcases aG.mp Z with rfl | Z;lia;have h9:f z<=f w:=ua.1 w Z;lia
      by_cases j0:j > 0
      case' pos=>
       rw[if_pos j0];by_cases e7:(B+1+j==b.size)=true;rw[if_pos e7];exact wpS_pure ⟨lk _,.inl ⟨_,_,_,_,_,_,_,rfl,zeH m6 (.inl (cg e7))⟩⟩;rw[if_neg e7];have a5:B+1+j≠b.size:=λq=>e7 (by rw[q];exact cA _);have q3:B+1+j<b.size:=by lia
       have q4:B<=B+1+j:=by lia
       clear e7 a5 j1 j2 j3;generalize o4.push y++b.extract (B+1) (B+1+j)=o5 at m6 ⊢;generalize B+1+j=ib4 at m6 h6 q3 q4 ⊢
      case' neg=>
       rw[if_neg j0];obtain rfl:j=0:=by lia
       have q3:B+1<b.size:=by lia
       have q4:B<=B+1:=by lia
       clear m6;have m6:=m5;rw[gh] at h6;clear j1 j2 j3;generalize o4.push y=o5 at m6 ⊢;generalize B+1=ib4 at m6 h6 q3 q4 ⊢
      all_goals
       show wpS_bind (yo z1 ?_);have m7:Mg (leF f) (a.toList++b.toList) (o5.push z).toList (a.toList.drop (ia4+1)) (b.toList.drop ib4):=by rw[z3] at m6;rw[bR];exact Mg.a (c:=[z]) m6 λx hx w Z=>by rw[aq.mp hx];exact h6 w Z
       by_cases e8:(ia4+1+1==a.size)=true;rw[if_pos e8];exact wpS_pure ⟨lk _,.inl ⟨_,_,_,_,_,_,_,rfl,zg0 m7 e8 hl⟩⟩;rw[if_neg e8];have bk:ia4+1+1≠a.size:=λq=>e8 (by rw[q];exact cA _);split;exact wpS_pure ⟨lk _,.inr ⟨_,_,_,_,_,_,rfl,⟨m7,by lia,q3⟩,by lia⟩⟩;exact wpS_pure ⟨lk _,_,_,_,_,_,_,rfl,⟨m7,by lia,q3⟩,by lia⟩
   rintro c ad ⟨l3,o3,J,B,g3,ag,al,rfl,I3,an⟩;exact⟨l3,.inr ⟨_,_,_,_,_,_,rfl,I3,an⟩⟩;rintro c ad ⟨l3,⟨r,o3,J,B,g3,ag,al,rfl,ht⟩ | ⟨o3,J,B,g3,ag,al,rfl,I3,an⟩⟩;exact wpS_pure ⟨l3,_,_,_,_,_,rfl,ht⟩;dsimp only;exact wpS_bind (du (wpS_pure ⟨⟨l3.kind,l3.arr,l3.pend,l3.fail⟩,_,_,_,_,rfl,I3,by lia⟩))
 rintro c ap ⟨l1,out,ia,ib,g,rfl,I,hp⟩;have:=I.la;have:=I.lb;lia;rintro c ap ⟨l1,r,out,ia,ib,g,rfl,ht⟩;exact wpS_pure (h _ _ l1 ht)
abbrev geF (f:Keyed->Int)(x y:Keyed):Prop:=f y<=f x
def zel(h:zcW (geF f) T l):zcW (leF f) T l.reverse:=⟨(dw l).trans h.1,ez.mpr h.2⟩
def zia{a:Array Keyed}(h1:1<=n)(h:n<=a.size):∃x,a[n - 1]?=some x/\x∈a/\(a.toList.take n).reverse=x::(a.toList.take (n - 1)).reverse:=by obtain⟨i,rfl⟩:∃i,n=i+1:=⟨n - 1,by lia⟩;show⟨a[i],aS (by lia),dq _,?_⟩;rw[List.take_succ_eq_append_getElem (by rw[aK];exact h),List.reverse_append];rfl
def zbH (a:Array Keyed)(n:Nat):(a.extract 0 n).toList=a.toList.take n:=by simp
def ziV (a:Array Keyed)(i n:Nat):(a.extract i n).reverse.toList=((a.toList.take n).drop i).reverse:=by simp[List.drop_take]
def ziF(l:List Keyed)(h:i<=n):((l.take n).drop i).reverse++(l.take i).reverse=(l.take n).reverse:=by
 rw[<- List.reverse_append];congr 1;have:l.take i=(l.take n).take i:=by rw[List.take_take,dU h]
 rw[this,aX]
structure HiI (f:Keyed->Int)(T:List Keyed)(a b:Array Keyed)(out:Array Keyed)(na nb:Nat):Prop where
 mg:Mg (geF f) T out.toList (a.toList.take na).reverse (b.toList.take nb).reverse
 la:1<=na
 ma:na<=a.size
 lb:2<=nb
 mb:nb<=b.size
def zdy{T:List Keyed}{a b out:Array Keyed}(mg:Mg (geF f) T out.toList (a.toList.take q).reverse (b.toList.take B).reverse)(e:(B==1)=true)(hn:1<=b.size)(I:∀x∈a,∀y,b[0]?=some y->f y<=f x):zcW (leF f) T (b.extract 0 B++a.extract 0 q++out.reverse).toList:=by
 have e:=cg e;subst e;obtain⟨z,J,Y,F⟩:=zia (a:=b) (n:=1) (ak _) hn;rw[bn,bn,zbH,zbH,Array.toList_reverse];rw[F] at mg;have mg:Mg (geF f) T out.toList (a.toList.take q).reverse [z]:=mg;have t:=zel (mg.lastB λy O=>I y (by have:=bF (cB.mp O);simpa using this) z J);have U:b.toList.take 1=[z]:=by rw[<- List.reverse_reverse (b.toList.take 1),F];rfl
 rw[U];simpa using t
def zeG{T:List Keyed}{a b out:Array Keyed}(mg:Mg (geF f) T out.toList (a.toList.take q).reverse (b.toList.take B).reverse)(e:q=0\/B=0):zcW (leF f) T (a.extract 0 q++b.extract 0 B++out.reverse).toList:=by
 rw[bn,bn,zbH,zbH,Array.toList_reverse];rcases e with rfl | rfl;have t:=zel (Mg.doneB (by simpa using mg));simpa using t;have t:=zel (Mg.doneA (by simpa using mg));simpa using t
def zkO (R:zbv M A s κ L0 f){a b:Array Keyed}(ha:∀x∈a,x∈L0)(hb:∀x∈b,x∈L0)(sa:a.toList.Pairwise (leF f))(sb:b.toList.Pairwise (leF f))(na:1<=a.size)(nb:1<=b.size)
  (hf:∀x∈a,∀y,b[0]?=some y->f y<=f x) (hl:∀x∈b,∀y,a[a.size - 1]?=some y->f x<=f y) {st:SortSt} (hk:kindOf st=κ) {Q:Array Keyed->SortSt->Prop}
  (h:∀out U,Like st U->zcW (leF f) (a.toList++b.toList) out.toList->Q out U):wpS M A E s (zlZ a b) Q st:=by
 show wpS_bind (wpS_lift (cU ⟨rfl,?_⟩));obtain⟨y,y1,y2,y3⟩:=zia na (ak _);show wpS_bind (yo y1 ?_)
 have m0:Mg (geF f) (a.toList++b.toList) (#[y]:Array Keyed).toList (a.toList.take (a.size - 1)).reverse (b.toList.take b.size).reverse:=by
  have ea:a.toList.take a.size=a.toList:=bj (by simp);have eb:b.toList.take b.size=b.toList:=bj (by simp)
  have h0:Mg (geF f) (a.toList++b.toList) [] ([y]++(a.toList.take (a.size - 1)).reverse) (b.toList.take b.size).reverse:=by
   have e:a.toList.reverse=[y]++(a.toList.take (a.size - 1)).reverse:=by rw[ea] at y3;exact y3
   rw[<- e,eb];exact⟨(dw _).append (dw _),.nil,λ_ hx=>by simp at hx,ez.mpr sa,ez.mpr sb⟩
  exact h0.a λx hx z hz=>by rw[aq.mp hx];exact hl z (by have:=bF (cB.mp hz);simpa using this) y y1
 dsimp only;by_cases e1:(a.size - 1==0)=true;rw[if_pos e1];exact wpS_pure (h _ _ ⟨rfl,rfl,rfl,rfl⟩ (zeG m0 (.inl (cg e1))));rw[if_neg e1];by_cases e2:(b.size==1)=true;rw[if_pos e2];exact wpS_pure (h _ _ ⟨rfl,rfl,rfl,rfl⟩ (zdy m0 e2 nb hf));rw[if_neg e2];have ba:a.size - 1≠0:=λz=>e1 (by rw[z];rfl);have bb:b.size≠1:=λz=>e2 (by rw[z];rfl);show wpS_bind (wpS_get ?_);show wpS_bind (wpS_mono (bM (I:=λx c U=>Like st U/\∃ia ib out g,c=(none,ia,ib,out,g)/\HiI f (a.toList++b.toList) a b out ia ib/\x+(ia+ib)+1<=a.size+b.size) (Q:=λc U=>Like st U/\∃r ia ib out g,c=(some r,ia,ib,out,g)/\zcW (leF f) (a.toList++b.toList) r.toList) ?_ ?_ ⟨⟨rfl,rfl,rfl,rfl⟩,_,_,_,_,rfl,⟨m0,by lia,by lia,by lia,by lia⟩,by lia⟩) ?_)
 ·rintro x c ap _ hx ⟨l1,ia,ib,out,g,rfl,I,hp⟩;dsimp only
  show wpS_bind (wpS_mono (bM (I:=λx c U=>Like st U/\∃F J B ac bc,c=(none,F,J,B,ac,bc)/\HiI f (a.toList++b.toList) a b B F J/\x+(F+J)<=ia+ib)
   (Q:=λc U=>Like st U/\((∃r F J B ac bc,c=(some r,F,J,B,ac,bc)/\zcW (leF f) (a.toList++b.toList) r.toList)\/∃F J B ac bc,c=(none,F,J,B,ac,bc)/\HiI f (a.toList++b.toList) a b B F J/\F+J+1<=ia+ib)) ?_ ?_ ⟨l1,_,_,_,_,_,rfl,I,by lia⟩) ?_)
  rintro x2 c as _ bd ⟨l2,aa,Z,o2,ac,bc,rfl,I2,a0⟩;dsimp only;have la:=I2.la;have lb:=I2.lb;have ma:=I2.ma;have mb:=I2.mb;obtain⟨y,y1,y2,y3⟩:=zia (a:=b) (n:=Z) (by lia) mb;obtain⟨z,z1,z2,z3⟩:=zia la ma;show wpS_bind (yo y1 (wpS_bind (yo z1 (wpS_bind (ztg R (hb _ y2) (ha _ z2) (l2.kind.trans hk) ?_)))));have mg:=I2.mg;by_cases a1:f y<f z;rw[bi a1];dsimp only;rw[if_pos rfl];show wpS_bind (yo z1 ?_);have ub:=mg.ub;rw[y3] at ub;have ub:=a9.mp ub
  have m2:Mg (geF f) (a.toList++b.toList) (o2.push z).toList (a.toList.take (aa - 1)).reverse (b.toList.take Z).reverse:=by
   rw[z3] at mg;rw[bR];show Mg.a (c:=[z]) mg λx hx w Y=>?_;rw[aq.mp hx];rw[y3] at Y;change f w<=f z;rcases aG.mp Y with rfl | Y;lia;have h9:f w<=f y:=ub.1 w Y;lia
  by_cases e3:(aa - 1==0)=true;rw[if_pos e3];exact wpS_pure ⟨l2,.inl ⟨_,_,_,_,_,_,rfl,zeG m2 (.inl (cg e3))⟩⟩;rw[if_neg e3];have a2:aa - 1≠0:=λq=>e3 (by rw[q];rfl);split;exact wpS_pure ⟨l2,.inr ⟨_,_,_,_,_,rfl,⟨m2,by lia,by lia,lb,mb⟩,by lia⟩⟩;exact wpS_pure ⟨l2,_,_,_,_,_,rfl,⟨m2,by lia,by lia,lb,mb⟩,by lia⟩;rw[a8 a1];dsimp only;rw[if_neg ay];show wpS_bind (yo y1 ?_);have ua:=mg.ua;rw[z3] at ua;have ua:=a9.mp ua
  have m2:Mg (geF f) (a.toList++b.toList) (o2.push y).toList (a.toList.take aa).reverse (b.toList.take (Z - 1)).reverse:=by
   rw[y3] at mg;rw[bR];show Mg.b (c:=[y]) mg λx hx w Y=>?_;rw[aq.mp hx];rw[z3] at Y;change f w<=f y;rcases aG.mp Y with rfl | Y;lia;have h9:f w<=f z:=ua.1 w Y;lia
  by_cases e3:(Z - 1==1)=true;rw[if_pos e3];exact wpS_pure ⟨l2,.inl ⟨_,_,_,_,_,_,rfl,zdy m2 e3 nb hf⟩⟩;rw[if_neg e3];have a2:Z - 1≠1:=λq=>e3 (by rw[q];rfl);split;exact wpS_pure ⟨l2,.inr ⟨_,_,_,_,_,rfl,⟨m2,la,ma,by lia,by lia⟩,by lia⟩⟩;exact wpS_pure ⟨l2,_,_,_,_,_,rfl,⟨m2,la,ma,by lia,by lia⟩,by lia⟩;rintro c as ⟨l2,aa,Z,o2,ac,bc,rfl,I2,a0⟩;have la:=I2.la;have lb:=I2.lb;lia
  ·rintro c as ⟨l2,⟨r,aa,Z,o2,ac,bc,rfl,ht⟩ | ⟨aa,Z,o2,ac,bc,rfl,I2,a0⟩⟩;exact wpS_pure ⟨l2,_,_,_,_,_,rfl,ht⟩;dsimp only;show wpS_bind (wpS_lift (cU ⟨rfl,?_⟩))
   show wpS_bind (wpS_mono (bM (I:=λx c U=>Like st U/\∃F J B g ac bc,c=(none,F,J,B,g,ac,bc)/\HiI f (a.toList++b.toList) a b B F J/\F+J<=aa+Z)
    (Q:=λc U=>Like st U/\((∃r F J B g ac bc,c=(some r,F,J,B,g,ac,bc)/\zcW (leF f) (a.toList++b.toList) r.toList)\/∃F J B g ac bc,c=(none,F,J,B,g,ac,bc)/\HiI f (a.toList++b.toList) a b B F J/\F+J<=aa+Z)) ?_ ?_ ⟨l2,_,_,_,_,_,_,rfl,I2,ak _⟩) ?_)
   ·rintro x3 c ad _ be ⟨l3,ab,O,o3,g3,ag,al,rfl,I3,an⟩;dsimp only;have la:=I3.la;have lb:=I3.lb;have ma:=I3.ma;have mb:=I3.mb;have mg:=I3.mg;obtain⟨y,y1,y2,y3⟩:=zia (a:=b) (n:=O) (by lia) mb;have ub:=mg.ub;rw[y3] at ub;have ub:=a9.mp ub;by_cases g0:g3 > 1
    case' pos=>rw[if_pos g0]
    case' neg=>rw[if_neg g0]
    all_goals
     show wpS_bind (du ?_);have lk:∀g,Like st (SortSt.mk' (kindOf ad) (arrOf ad) (pendingOf ad) g (failedOf ad)):=λg=>⟨l3.kind,l3.arr,l3.pend,l3.fail⟩;show wpS_bind (yo y1 ?_);show wpS_bind (zh8 (left:=false) (base:=0) (n:=ab) (hint:=ab - 1) R (hb _ y2) ha (by lia) (by lia) (sa.sublist ((cj _ _).trans (eh _ _))) ((lk _).kind.trans hk) λk k1 k2 k3=>?_);dsimp only;rw[dC] at k2 k3;have h4:∀w∈(a.toList.take k).reverse,f w<=f y:=λw Y=>by have h5:=k2 w (cB.mp Y);unfold xF at h5;rw[if_neg ay,ef,bQ] at h5;lia
     have m4:Mg (geF f) (a.toList++b.toList) (o3++(a.extract k ab).reverse).toList (a.toList.take k).reverse (b.toList.take O).reverse:=by
      rw[bn,ziV];show Mg.a (by rw[ziF _ k1];exact mg) λx hx w Y=>?_;have h5:=k3 x (cB.mp hx);unfold xF at h5;rw[if_neg ay,fB,cm] at h5;rw[y3] at Y;change f w<=f x;rcases aG.mp Y with rfl | Y;lia;have h9:f w<=f y:=ub.1 w Y;lia
     have q2:k<=a.size:=by lia
     have q5:k+O<=aa+Z:=by lia
     by_cases k0:ab - k > 0
     case' pos=>
      rw[if_pos k0];by_cases e4:(k==0)=true;rw[if_pos e4];exact wpS_pure ⟨lk _,.inl ⟨_,_,_,_,_,_,_,rfl,zeG m4 (.inl (cg e4))⟩⟩;rw[if_neg e4];have a3:k≠0:=λq=>e4 (by rw[q];rfl);have q1:1<=k:=by lia
      clear e4 a3 k1 k2 k3;generalize o3++(a.extract k ab).reverse=o4 at m4 ⊢
     case' neg=>
      rw[if_neg k0];have a4:k=ab:=by lia
      subst a4;have q1:1<=k:=la;clear m4;have m4:=mg;clear k1 k2 k3;generalize ho:o3=o4 at m4 ⊢
     all_goals
      show wpS_bind (yo y1 ?_);have m5:Mg (geF f) (a.toList++b.toList) (o4.push y).toList (a.toList.take k).reverse (b.toList.take (O - 1)).reverse:=by rw[y3] at m4;rw[bR];exact Mg.b (c:=[y]) m4 λx hx w Y=>by rw[aq.mp hx];exact h4 w Y
      by_cases e6:(O - 1==1)=true;rw[if_pos e6];exact wpS_pure ⟨lk _,.inl ⟨_,_,_,_,_,_,_,rfl,zdy m5 e6 nb hf⟩⟩;rw[if_neg e6];have bk:O - 1≠1:=λq=>e6 (by rw[q];rfl);obtain⟨z,z1,z2,z3⟩:=zia q1 q2;show wpS_bind (yo z1 ?_);have ua:=m5.ua;rw[z3] at ua;have ua:=a9.mp ua;show wpS_bind (zh8 (left:=true) (base:=0) (n:=O - 1) (hint:=O - 1 - 1) R (ha _ z2) hb (by lia) (by lia) (sb.sublist ((cj _ _).trans (eh _ _))) ((lk _).kind.trans hk) λj j1 j2 j3=>?_);dsimp only;rw[dC] at j2 j3;have h6:∀w∈(b.toList.take j).reverse,f w<=f z:=λw Y=>by have h5:=j2 w (cB.mp Y);unfold xF at h5;rw[if_pos rfl,cm] at h5;lia
      have m6:Mg (geF f) (a.toList++b.toList) (o4.push y++(b.extract j (O - 1)).reverse).toList (a.toList.take k).reverse (b.toList.take j).reverse:=by
       rw[bn,ziV];show Mg.b (by rw[ziF _ j1];exact m5) λx hx w Y=>?_;have h5:=j3 x (cB.mp hx);unfold xF at h5;rw[if_pos rfl,bQ] at h5;rw[z3] at Y;change f w<=f x;rcases aG.mp Y with rfl | Y;lia;have h9:f w<=f z:=ua.1 w Y;lia
      by_cases j0:O - 1 - j > 0
      case' pos=>
       rw[if_pos j0];by_cases e7:(j==1)=true;rw[if_pos e7];exact wpS_pure ⟨lk _,.inl ⟨_,_,_,_,_,_,_,rfl,zdy m6 e7 nb hf⟩⟩;rw[if_neg e7];by_cases e8:(j==0)=true;rw[if_pos e8];exact wpS_pure ⟨lk _,.inl ⟨_,_,_,_,_,_,_,rfl,zeG m6 (.inr (cg e8))⟩⟩;rw[if_neg e8];have a5:j≠1:=λq=>e7 (by rw[q];rfl);have a7:j≠0:=λq=>e8 (by rw[q];rfl);have q3:2<=j:=by lia
       clear e7 e8 a5 a7 j2 j3;generalize o4.push y++(b.extract j (O - 1)).reverse=o5 at m6 ⊢
      case' neg=>
       rw[if_neg j0];have hj:j=O - 1:=by lia
       have q3:2<=j:=by lia
       clear m6;have m6:=m5;rw[<- hj] at m6 ⊢;clear j2 j3;generalize o4.push y=o5 at m6 ⊢
      all_goals
       show wpS_bind (yo z1 ?_);have m7:Mg (geF f) (a.toList++b.toList) (o5.push z).toList (a.toList.take (k - 1)).reverse (b.toList.take j).reverse:=by rw[z3] at m6;rw[bR];exact Mg.a (c:=[z]) m6 λx hx w Y=>by rw[aq.mp hx];exact h6 w Y
       by_cases e9:(k - 1==0)=true;rw[if_pos e9];exact wpS_pure ⟨lk _,.inl ⟨_,_,_,_,_,_,_,rfl,zeG m7 (.inl (cg e9))⟩⟩;rw[if_neg e9];have bl:k - 1≠0:=λq=>e9 (by rw[q];rfl);split;exact wpS_pure ⟨lk _,.inr ⟨_,_,_,_,_,_,rfl,⟨m7,by lia,by lia,q3,by lia⟩,by lia⟩⟩;exact wpS_pure ⟨lk _,_,_,_,_,_,_,rfl,⟨m7,by lia,by lia,q3,by lia⟩,by lia⟩
   rintro c ad ⟨l3,ab,O,o3,g3,ag,al,rfl,I3,an⟩;exact⟨l3,.inr ⟨_,_,_,_,_,_,rfl,I3,an⟩⟩;rintro c ad ⟨l3,⟨r,ab,O,o3,g3,ag,al,rfl,ht⟩ | ⟨ab,O,o3,g3,ag,al,rfl,I3,an⟩⟩;exact wpS_pure ⟨l3,_,_,_,_,_,rfl,ht⟩;dsimp only;exact wpS_bind (du (wpS_pure ⟨⟨l3.kind,l3.arr,l3.pend,l3.fail⟩,_,_,_,_,rfl,I3,by lia⟩))
 rintro c ap ⟨l1,ia,ib,out,g,rfl,I,hp⟩;have:=I.la;have:=I.lb;lia;rintro c ap ⟨l1,r,ia,ib,out,g,rfl,ht⟩;exact wpS_pure (h _ _ l1 ht)
end
def kA (f:Keyed->Int)(a:Array Keyed)(i:Nat):Int:=match a[i]? with | some x=>f x | none=>0
def Seg (f:Keyed->Int)(a:Array Keyed)(lo hi:Nat):Prop:=∀i j,lo<=i->i<=j->j<hi->kA f a i<=kA f a j
def Gse (f:Keyed->Int)(a:Array Keyed)(lo hi:Nat):Prop:=∀i j,lo<=i->i<=j->j<hi->kA f a j<=kA f a i
structure Lk (lo:Nat)(st st':SortSt):Prop where
 kind:kindOf st'=kindOf st
 pend:pendingOf st'=pendingOf st
 fail:failedOf st'=failedOf st
 perm:(arrOf st').Perm (arrOf st)
 low:∀k,k<lo->(arrOf st')[k]?=(arrOf st)[k]?
section
variable {M:Model}{A:Ae}{E:AA}{s:AZ}{κ:SortKind}{L0:List Keyed}{f:Keyed->Int}
def zaB(h:a[i]?=b[j]?):kA f a i=kA f b j:=by unfold kA;rw[h]
def Lk.refl (lo:Nat)(st:SortSt):Lk lo st st:=⟨rfl,rfl,rfl,.refl _,λ_ _=>rfl⟩
def Lk.trans {lo:Nat}{st B q:SortSt}(h:Lk lo st B)(k:Lk lo B q):Lk lo st q:=⟨k.kind.trans h.kind,k.pend.trans h.pend,k.fail.trans h.fail,k.perm.trans h.perm,λi hi=>(k.low i hi).trans (h.low i hi)⟩
def Lk.size {lo:Nat}{st q:SortSt}(h:Lk lo st q):(arrOf q).size=(arrOf st).size:=h.perm.size_eq
def Lk.mem {lo:Nat}{st q:SortSt}(h:Lk lo st q)(k:∀x∈arrOf st,x∈L0):∀x∈arrOf q,x∈L0:=λx B=>k x (h.perm.mem_iff.mp B)
def zfp (R:zbv M A s κ L0 f){st:SortSt}{i j:Nat}(I:kindOf st=κ)(q:∀x∈arrOf st,x∈L0)(hi:i<(arrOf st).size)(J:j<(arrOf st).size){Q:Option Bool->SortSt->Prop}(h:Q (some (decide (kA f (arrOf st) i<kA f (arrOf st) j))) st):wpS M A E s (ltAt' i j) Q st:=by rw[ltAt'_eq];show wpS_bind (wpS_get ?_);have B:(arrOf st)[i]?=some (arrOf st)[i]:=aS hi;have F:(arrOf st)[j]?=some (arrOf st)[j]:=aS J;show wpS_bind (yo B (wpS_bind (yo F (ztg R (q _ (dq _)) (q _ (dq _)) I ?_))));unfold kA at h;rw[B,F] at h;exact h
def zmO{st:SortSt}{Q:Unit->SortSt->Prop}(h:Q () (setArr st (mirror (arrOf st) i j ((j - i) / 2)))):wpS M A E s (reverseSlice' i j) Q st:=by rw[reverseSlice'_eq];exact du h
def Lk.rev {lo:Nat}(st:SortSt){i j:Nat}(h1:lo<=i)(h2:j<=(arrOf st).size):Lk lo st (setArr st (mirror (arrOf st) i j ((j - i) / 2))):=⟨rfl,rfl,rfl,mirror_perm _ _ _ _,λk q=>by change (mirror (arrOf st) i j ((j - i) / 2))[k]?=_;rw[getElem?_mirror_all h2,if_neg (by lia)]⟩
def zb7(h2:j<=a.size)(k:Nat):kA f (mirror a i j ((j - i) / 2)) k=if i<=k/\k<j then kA f a (i+j - 1 - k) else kA f a k:=by
 have e:=getElem?_mirror_all (i:=i) h2 k;by_cases h:i<=k/\k<j;rw[if_pos h] at e ⊢;exact zaB e;rw[if_neg h] at e ⊢;exact zaB e
def uL {a:Array Keyed}{i j:Nat}(h2:j<=a.size)(h:∀k,i<=k->k<j->kA f a k=kA f a (j - 1))(k:Nat):kA f (mirror a i j ((j - i) / 2)) k=kA f a k:=by
 rw[zb7 h2];split;rw[h _ (by lia) (by lia),h k (by lia) (by lia)];rfl
def Gse.turn {a:Array Keyed}{i j:Nat}(h2:j<=a.size)(h:Gse f a i j):Seg f (mirror a i j ((j - i) / 2)) i j:=λp q B I F=>by rw[zb7 h2,zb7 h2,if_pos ⟨B,by lia⟩,if_pos ⟨by lia,F⟩];exact h _ _ (by lia) (by lia) (by lia)
def zh7 (R:zbv M A s κ L0 f){st:SortSt}{lo nrem:Nat}(hk:kindOf st=κ)(ha:∀x∈arrOf st,x∈L0)(h1:1<=nrem)(hz:lo+nrem<=(arrOf st).size){Q:Option Nat->SortSt->Prop}
  (h:∀m st',Lk lo st st'->1<=m->m<=nrem->Seg f (arrOf st') lo (lo+m)->Q (some m) st'):wpS M A E s (countRun' lo nrem) Q st:=by
 rw[countRun'_eq]
 have asc:∀ (n:Nat) (st1:SortSt),Lk lo st st1->1<=n->n<=nrem->Seg f (arrOf st1) lo (lo+n)->∀ {G:Option (Option Nat)×Nat->SortSt->Prop} {body:Nat->Option (Option Nat)×Nat->StateT SortSt Sem (ForInStep (Option (Option Nat)×Nat))},
   (∀m,n<=m->m<=nrem->Seg f (arrOf st1) lo (lo+m)->(m<nrem->kA f (arrOf st1) (lo+m)<kA f (arrOf st1) (lo+m - 1))->G (none,m) st1)->
   (∀x m (G':ForInStep (Option (Option Nat)×Nat)->SortSt->Prop),n<=m->m<nrem->(kA f (arrOf st1) (lo+m)<kA f (arrOf st1) (lo+m - 1)->G' (.done (none,m)) st1)->(¬ kA f (arrOf st1) (lo+m)<kA f (arrOf st1) (lo+m - 1)->G' (.yield (none,m+1)) st1)->wpS M A E s (body x (none,m)) G' st1)->
   wpS M A E s (forIn [n:nrem] (none,n) body) G st1:=by
  intro n st1 l1 hn1 hn2 hs G body hG hb;have hz1:=l1.size;show bM (I:=λx c st2=>st2=st1/\c=(none,x)/\n<=x/\Seg f (arrOf st1) lo (lo+x)) ?_ ?_ ⟨rfl,rfl,ak _,hs⟩;rintro x c st2 hx1 hx2 ⟨rfl,rfl,_,hs2⟩;show hb x x _ hx1 hx2 (λe=>hG x hx1 (by lia) hs2 λ_=>e) (λe=>?_);show⟨rfl,rfl,by lia,λi j p q r=>?_⟩;by_cases e1:j<lo+x;exact hs2 i j p q e1;obtain rfl:j=lo+x:=by lia
  by_cases e2:i=lo+x;subst e2;exact cT _;have:=hs2 i (lo+x - 1) p (by lia) (by lia);lia;rintro c st2 ⟨rfl,rfl,_,hs2⟩;have e:max n nrem=nrem:=by lia
  rw[e] at hs2 ⊢;exact hG nrem hn2 (ak _) hs2 λz=>by lia
 have step:∀ (st1:SortSt),Lk lo st st1->∀m,1<=m->m<nrem->∀ (G':ForInStep (Option (Option Nat)×Nat)->SortSt->Prop),(kA f (arrOf st1) (lo+m)<kA f (arrOf st1) (lo+m - 1)->G' (.done (none,m)) st1)->(¬ kA f (arrOf st1) (lo+m)<kA f (arrOf st1) (lo+m - 1)->G' (.yield (none,m+1)) st1)->
   ∀ {k:Option Bool->StateT SortSt Sem (ForInStep (Option (Option Nat)×Nat))},k (some true)=pure (.done (none,m))->k (some false)=pure (.yield (none,m+1))->wpS M A E s (ltAt' (lo+m) (lo+m - 1) >>= k) G' st1:=by
  intro st1 l1 m h2 h3 G' g1 g2 k k1 k2;have hz1:=l1.size;show wpS_bind (zfp R (l1.kind.trans hk) (l1.mem ha) (by lia) (by lia) ?_);by_cases e:kA f (arrOf st1) (lo+m)<kA f (arrOf st1) (lo+m - 1);rw[bi e,k1];exact wpS_pure (g1 e);rw[a8 e,k2];exact wpS_pure (g2 e)
 show wpS_bind (asc 1 st (Lk.refl _ _) (ak _) h1 (λi j p q r=>by rw[show i=j by lia];exact cT _) (λm hm1 hm2 hs hd=>?_) (λx m G' q1 q2 g1 g2=>step st (Lk.refl _ _) m (by lia) q2 G' g1 g2 rfl rfl))
 have fall:∀st1,Lk lo st st1->m<nrem->Gse f (arrOf st1) lo (lo+(m+1))->∀ {G:Option (Option Nat)×Nat×Nat->SortSt->Prop} {body:Nat->Option (Option Nat)×Nat×Nat->StateT SortSt Sem (ForInStep (Option (Option Nat)×Nat×Nat))},
   (∀n q st2,Lk lo st st2->m+1<=n->n<=nrem->q+1<=n->Gse f (arrOf st2) lo (lo+n)->(∀k,lo+n - (q+1)<=k->k<lo+n->kA f (arrOf st2) k=kA f (arrOf st2) (lo+n - 1))->G (none,n,q) st2)->
   (∀x n q st2 (G':ForInStep (Option (Option Nat)×Nat×Nat)->SortSt->Prop),Lk lo st st2->m+1<=n->n<nrem->q+1<=n->
    (kA f (arrOf st2) (lo+n)<kA f (arrOf st2) (lo+n - 1)->q > 0->G' (.yield (none,n+1,0)) (setArr st2 (mirror (arrOf st2) (lo+n - (q+1)) (lo+n) ((lo+n - (lo+n - (q+1))) / 2))))->(kA f (arrOf st2) (lo+n)<kA f (arrOf st2) (lo+n - 1)->¬ q > 0->G' (.yield (none,n+1,0)) st2)->
    (kA f (arrOf st2) (lo+n - 1)<kA f (arrOf st2) (lo+n)->G' (.done (none,n,q)) st2)->(kA f (arrOf st2) (lo+n)=kA f (arrOf st2) (lo+n - 1)->G' (.yield (none,n+1,q+1)) st2)->wpS M A E s (body x (none,n,q)) G' st2)->
   wpS M A E s (forIn [m+1:nrem] (none,m+1,0) body) G st1:=by
  intro st1 l1 hmn hg G body hG hb;show bM (I:=λx c st2=>∃q,c=(none,x,q)/\Lk lo st st2/\m+1<=x/\q+1<=x/\Gse f (arrOf st2) lo (lo+x)/\∀k,lo+x - (q+1)<=k->k<lo+x->kA f (arrOf st2) k=kA f (arrOf st2) (lo+x - 1)) ?_ ?_ ⟨0,rfl,l1,ak _,by lia,hg,λk p q=>by congr 1;lia⟩;rintro x c st2 hx1 hx2 ⟨q,rfl,l2,p1,p2,p3,p4⟩;have hz2:=l2.size
  have more:∀st3:SortSt,(∀k,kA f (arrOf st3) k=kA f (arrOf st2) k)->kA f (arrOf st2) (lo+x)<=kA f (arrOf st2) (lo+x - 1)->Gse f (arrOf st3) lo (lo+(x+1)):=λst3 e3 hle i j a1 a2 a3=>by
   rw[e3,e3];by_cases e1:j<lo+x;exact p3 i j a1 a2 e1;obtain rfl:j=lo+x:=by lia
   by_cases e2:i=lo+x;subst e2;exact cT _;have:=p3 i (lo+x - 1) a1 (by lia) (by lia);lia
  show hb x x q st2 _ l2 p1 hx2 p2 (λe hq=>?_) (λe hq=>?_) (λe=>?_) (λe=>?_);have e3:∀k,kA f (mirror (arrOf st2) (lo+x - (q+1)) (lo+x) ((lo+x - (lo+x - (q+1))) / 2)) k=kA f (arrOf st2) k:=uL (by lia) p4;exact⟨0,rfl,l2.trans (Lk.rev st2 (by lia) (by lia)),by lia,by lia,more _ e3 (by lia),λk a1 a2=>by congr 1;lia⟩;exact⟨0,rfl,l2,by lia,by lia,more _ (λ_=>rfl) (by lia),λk a1 a2=>by congr 1;lia⟩;exact hG x q st2 l2 p1 (by lia) p2 p3 p4;show⟨q+1,rfl,l2,by lia,by lia,more _ (λ_=>rfl) (by lia),λk a1 a2=>?_⟩;rw[show lo+(x+1) - 1=lo+x by lia];by_cases e1:k=lo+x;rw[e1];rw[p4 k (by lia) (by lia),e];rintro c st2 ⟨q,rfl,l2,p1,p2,p3,p4⟩;have e:max (m+1) nrem=nrem:=by lia
  rw[e] at p1 p2 p3 p4 ⊢;exact hG nrem q st2 l2 p1 (ak _) p2 p3 p4
 dsimp only;by_cases e1:(m==nrem)=true;rw[if_pos e1];exact wpS_pure (h m st (Lk.refl _ _) hm1 hm2 hs);rw[if_neg e1];have e1':m<nrem:=by have:m≠nrem:=λz=>e1 (by rw[z];exact cA _);lia
 have hd:=hd e1';by_cases e2:m > 1
 case' pos=>
  rw[if_pos e2];show wpS_bind (zfp R hk ha (by lia) (by lia) ?_);by_cases e3:kA f (arrOf st) lo<kA f (arrOf st) (lo+m - 1);rw[bi e3];exact wpS_pure (h m st (Lk.refl _ _) hm1 hm2 hs);rw[a8 e3];dsimp only;rw[if_neg ay];show wpS_bind (zmO ?_);have l1:=Lk.rev (lo:=lo) st (i:=lo) (j:=lo+m) (ak _) (by lia);have eq0:∀k,lo<=k->k<lo+m->kA f (arrOf st) k=kA f (arrOf st) (lo+m - 1):=λk a1 a2=>by have h3:=hs lo k (ak _) a1 a2;have h4:=hs k (lo+m - 1) a1 (by lia) (by lia);lia
  have eq1:=uL (i:=lo) (by lia) eq0
  have g1:Gse f (mirror (arrOf st) lo (lo+m) ((lo+m - lo) / 2)) lo (lo+(m+1)):=λi j a1 a2 a3=>by
   rw[eq1,eq1];by_cases ej:j<lo+m;rw[eq0 j (by lia) ej,eq0 i a1 (by lia)];exact cT _;obtain rfl:j=lo+m:=by lia
   by_cases ei:i=lo+m;rw[ei];exact cT _;rw[eq0 i a1 (by lia)];lia
  have g1:Gse f (arrOf (setArr st (mirror (arrOf st) lo (lo+m) ((lo+m - lo) / 2)))) lo (lo+(m+1)):=g1;generalize setArr st (mirror (arrOf st) lo (lo+m) ((lo+m - lo) / 2))=st1 at l1 g1 ⊢
 case' neg=>
  rw[if_neg e2]
  obtain⟨st1,l1,g1,hst⟩:∃st1,Lk lo st st1/\Gse f (arrOf st1) lo (lo+(m+1))/\st1=st:=⟨st,Lk.refl _ _,λi j a1 a2 a3=>by
   by_cases e:i=j;rw[e];exact cT _;rw[show i=lo+m - 1 by lia,show j=lo+m by lia];lia,rfl⟩
  rw[<- hst]
 all_goals
  show wpS_bind (wpS_lift (cU ⟨rfl,?_⟩));show wpS_bind (fall st1 l1 e1' g1 (λn q st2 l2 n1 n2 q1 g2 g3=>?_) (λx n q st2 G' l2 n1 n2 q1 b1 b2 b3 b4=>?_))
  ·dsimp only;have hz2:=l2.size;by_cases e4:q > 0
   case' pos=>
    rw[if_pos e4];show wpS_bind (zmO ?_);have l3:=l2.trans (Lk.rev (lo:=lo) st2 (i:=lo+n - (q+1)) (j:=lo+n) (by lia) (by lia));have eq3:=uL (i:=lo+n - (q+1)) (by lia) g3;have g4:Gse f (arrOf (setArr st2 (mirror (arrOf st2) (lo+n - (q+1)) (lo+n) ((lo+n - (lo+n - (q+1))) / 2)))) lo (lo+n):=λi j a1 a2 a3=>by have:=g2 i j a1 a2 a3;rw[<- eq3 i,<- eq3 j] at this;exact this
    generalize setArr st2 (mirror (arrOf st2) (lo+n - (q+1)) (lo+n) ((lo+n - (lo+n - (q+1))) / 2))=st3 at l3 g4 ⊢
   case' neg=>
    rw[if_neg e4];obtain⟨st3,l3,g4,hst3⟩:∃st3,Lk lo st st3/\Gse f (arrOf st3) lo (lo+n)/\st3=st2:=⟨st2,l2,g2,rfl⟩;rw[<- hst3]
   all_goals
    show wpS_bind (zmO ?_);have hz3:=l3.size;have l4:=l3.trans (Lk.rev (lo:=lo) st3 (i:=lo) (j:=lo+n) (ak lo) (by lia));have g5:=Gse.turn (by lia) g4;show wpS_bind (asc n _ l4 (by lia) n2 g5 (λm' a1 a2 a3 a4=>?_) (λx m' G' q1 q2 c1 c2=>step _ l4 m' (by lia) q2 G' c1 c2 rfl rfl));exact wpS_pure (h m' _ l4 (by lia) a2 a3)
  dsimp only;have hz2:=l2.size;show wpS_bind (zfp R (l2.kind.trans hk) (l2.mem ha) (by lia) (by lia) ?_);by_cases e5:kA f (arrOf st2) (lo+n)<kA f (arrOf st2) (lo+n - 1);rw[bi e5];dsimp only;rw[if_pos rfl];by_cases e6:q > 0;rw[if_pos e6];exact wpS_bind (zmO (wpS_pure (b1 e5 e6)));rw[if_neg e6];exact wpS_pure (b2 e5 e6);rw[a8 e5];dsimp only;rw[if_neg ay];show wpS_bind (zfp R (l2.kind.trans hk) (l2.mem ha) (by lia) (by lia) ?_);by_cases e6:kA f (arrOf st2) (lo+n - 1)<kA f (arrOf st2) (lo+n);rw[bi e6];exact wpS_pure (b3 e6);rw[a8 e6];exact wpS_pure (b4 (by lia))
def zth{st:SortSt}{Q:Unit->SortSt->Prop}(h:Q () (setArr st (bubble (arrOf st) i (i - j)))):wpS M A E s (moveDown' i j) Q st:=by rw[moveDown'_eq];exact du h
def Lk.move {lo:Nat}(st:SortSt){i j:Nat}(h1:lo<=j)(h2:i<(arrOf st).size)(q:j<=i):Lk lo st (setArr st (bubble (arrOf st) i (i - j))):=⟨rfl,rfl,rfl,bubble_perm _ _ _,λk B=>by change (bubble (arrOf st) i (i - j))[k]?=_;rw[getElem?_bubble h2 _ (by lia),if_neg (by lia),if_neg (by lia)]⟩
def zeU(h2:i<a.size)(F:j<=i)(k:Nat):kA f (bubble a i (i - j)) k=if k=j then kA f a i else if j<k/\k<=i then kA f a (k - 1) else kA f a k:=by
 have e:=getElem?_bubble h2 (i - j) (by lia) k;rw[show i - (i - j)=j by lia] at e;by_cases q:k=j;rw[if_pos q] at e ⊢;exact zaB e;rw[if_neg q] at e ⊢;by_cases B:j<k/\k<=i;rw[if_pos B] at e ⊢;exact zaB e;rw[if_neg B] at e ⊢;exact zaB e
def zfo (R:zbv M A s κ L0 f){st:SortSt}{lo n U:Nat}(hk:kindOf st=κ)(ha:∀x∈arrOf st,x∈L0)(h1:U<=n)(hn:1<=n)(hz:lo+n<=(arrOf st).size)(hs:Seg f (arrOf st) lo (lo+U)){Q:Bool->SortSt->Prop}
  (h:∀q,Lk lo st q->Seg f (arrOf q) lo (lo+n)->Q true q):wpS M A E s (binarySort' lo n U) Q st:=by
 rw[binarySort'_eq];show wpS_bind (wpS_mono (bM (I:=λx c q=>c=(none,())/\Lk lo st q/\Seg f (arrOf q) lo (lo+x)) (Q:=λc q=>c=(none,())/\Lk lo st q/\Seg f (arrOf q) lo (lo+n)) ?_ ?_ ⟨rfl,Lk.refl _ _,?_⟩) ?_);rintro k c B ab ac ⟨rfl,O,J⟩;have ad:=O.size;dsimp only
 show wpS_bind (wpS_mono (bM (I:=λx c q=>q=B/\∃l r,c=(none,l,r)/\l<=r/\r<=k/\(∀i,i<l->kA f (arrOf B) (lo+i)<=kA f (arrOf B) (lo+k))/\(∀i,r<=i->i<k->kA f (arrOf B) (lo+k)<kA f (arrOf B) (lo+i))/\r - l+x<=k)
  (Q:=λc q=>q=B/\∃l,c=(none,l,l)/\l<=k/\(∀i,i<l->kA f (arrOf B) (lo+i)<=kA f (arrOf B) (lo+k))/\(∀i,l<=i->i<k->kA f (arrOf B) (lo+k)<kA f (arrOf B) (lo+i))) ?_ ?_ ⟨rfl,0,k,rfl,by lia,by lia,λi hi=>by lia,λi a1 a2=>by lia,by lia⟩) ?_)
 rintro x c F _ hx ⟨rfl,l,r,rfl,p1,p2,p3,p4,p5⟩;dsimp only;by_cases e:l ≥ r;rw[if_pos e];obtain rfl:l=r:=by lia
 exact wpS_pure ⟨rfl,l,rfl,p2,p3,p4⟩;rw[if_neg e];show wpS_bind (zfp R (O.kind.trans hk) (O.mem ha) (by lia) (by lia) ?_);by_cases e2:kA f (arrOf F) (lo+k)<kA f (arrOf F) (lo+(l+r) / 2);rw[bi e2];show wpS_pure ⟨rfl,l,(l+r) / 2,rfl,by lia,by lia,p3,λi a1 a2=>?_,by lia⟩;have:=J (lo+(l+r) / 2) (lo+i) (by lia) (by lia) (by lia);lia;rw[a8 e2];show wpS_pure ⟨rfl,(l+r) / 2+1,r,rfl,by lia,p2,λi a1=>?_,p4,by lia⟩;have:=J (lo+i) (lo+(l+r) / 2) (by lia) (by lia) (by lia);lia;rintro c F ⟨rfl,l,r,rfl,p1,p2,p3,p4,p5⟩;obtain rfl:l=r:=by lia
 exact⟨rfl,l,rfl,p2,p3,p4⟩;rintro c F ⟨rfl,l,rfl,p2,p3,p4⟩;dsimp only;show wpS_bind (zth (wpS_pure ⟨rfl,O.trans (Lk.move F (by lia) (by lia) (by lia)),λi j a1 a2 a3=>?_⟩));change kA f (bubble (arrOf F) (lo+k) (lo+k - (lo+l))) i<=kA f (bubble (arrOf F) (lo+k) (lo+k - (lo+l))) j;rw[zeU (by lia) (by lia),zeU (by lia) (by lia)];have up:=λx y b1 b2 b3=>J x y b1 b2 b3;by_cases ei:i=lo+l;rw[if_pos ei];by_cases Y:j=lo+l;rw[if_pos Y];exact cT _;rw[if_neg Y,if_pos ⟨by lia,by lia⟩];have:=p4 (j - 1 - lo) (by lia) (by lia);rw[show lo+(j - 1 - lo)=j - 1 by lia] at this;lia;rw[if_neg ei];by_cases Z:lo+l<i/\i<=lo+k;rw[if_pos Z,if_neg (by lia),if_pos ⟨by lia,by lia⟩];exact J _ _ (by lia) (by lia) (by lia);rw[if_neg Z];by_cases Y:j=lo+l;rw[if_pos Y];have:=p3 (i - lo) (by lia);rw[show lo+(i - lo)=i by lia] at this;exact this;rw[if_neg Y];by_cases aa:lo+l<j/\j<=lo+k;rw[if_pos aa];exact J _ _ (by lia) (by lia) (by lia);rw[if_neg aa];exact J _ _ (by lia) (by lia) (by lia);rintro c B ⟨rfl,O,J⟩;have e:max (max U 1) n=n:=by lia
 rw[e] at J;exact⟨rfl,O,J⟩;by_cases e:1<=U;rw[show max U 1=U by lia];exact hs;intro i j a1 a2 a3;rw[show i=j by lia];exact cT _;rintro c B ⟨rfl,O,J⟩;exact wpS_pure (h B O J)
end
def zk1 (base:Nat):∀ (l:List Keyed) (n:Nat) (a:Array Keyed),base+n+l.length<=a.size->((l.zipIdx n).foldl (λa (p:Keyed×Nat)=>a.setIfInBounds (base+p.2) p.1) a).toList=a.toList.take (base+n)++(l++a.toList.drop (base+n+l.length))
 | [],n,a,_=>by simp
 | p::l,n,a,h=>by
  rw[aO] at h;rw[List.zipIdx_cons,List.foldl_cons,zk1 base l (n+1) _ (by rw[Array.size_setIfInBounds];lia),Array.toList_setIfInBounds,List.set_eq_take_append_cons_drop,if_pos (by rw[aK];lia)];have e:a.toList.take (base+n)++p::a.toList.drop (base+n+1)=(a.toList.take (base+n)++[p])++a.toList.drop (base+n+1):=by simp
  have q:(a.toList.take (base+n)++[p]).length=base+n+1:=by simp;lia
  change List.take (base+(n+1)) (a.toList.take (base+n)++p::a.toList.drop (base+n+1))++(l++List.drop (base+(n+1)+l.length) (a.toList.take (base+n)++p::a.toList.drop (base+n+1)))=_;rw[e,eU (by rw[q];lia),<- em,List.drop_left' (by rw[q];lia),em,aO];rw[aC,show base+n+1+l.length=base+n+(l.length+1) by lia];rfl
def zlt{P A S:List Keyed}(h:P.length=n):(P++(A++S)).drop n=A++S:=List.drop_left' h
def u8{P A S:List Keyed}(h:P.length=n)(k:A.length=m):((P++(A++S)).drop n).take m=A:=by rw[zlt h,eU k]
section
variable {M:Model}{A:Ae}{E:AA}{s:AZ}{κ:SortKind}{L0:List Keyed}{f:Keyed->Int}
def ziU {a:Array Keyed}{P X S:List Keyed}{i j:Nat}(e:a.toList=P++(X++S))(h:P.length=i)(k:X.length+i=j):(a.extract i j).toList=X:=by
 have:(a.extract i j).toList=(a.toList.drop i).take (j - i):=by simp
 rw[this,e,u8 h (by lia)]
def zm3{a:Array Keyed}{P S:List Keyed}(e:a.toList=P++x::S)(h:P.length=i):a[i]?=some x:=by rw[<- b5,e,<- h,bp (ak _)];simp
def zmZ {st st':SortSt}{Q:PUnit->SortSt->Prop}(h:Q ⟨⟩ st'):wpS M A E s (set st':StateT SortSt Sem PUnit) Q st:=by unfold wpS;rw[StateT.run_set];exact ah ⟨rfl,h⟩
def zkN (R:zbv M A s κ L0 f){st:SortSt}{i:Nat}{Z pv:List (Nat×Nat×Nat)}{P U V S:List Keyed}{p1 p2:Nat}(hk:kindOf st=κ)(ac:failedOf st=none)(ha:∀x∈arrOf st,x∈L0)
  (B:(arrOf st).toList=P++(U++(V++S))) (ad:pendingOf st=(Z++(P.length,U.length,p1)::(P.length+U.length,V.length,p2)::pv).toArray) (hi:i=Z.length) (nu:U≠[]) (nv:V≠[]) (su:U.Pairwise (leF f)) (sv:V.Pairwise (leF f)) {Q:Bool->SortSt->Prop}
  (h:∀ (I:SortSt) (C:List Keyed),kindOf I=κ->failedOf I=none->(arrOf I).toList=P++(C++S)->C.Perm (U++V)->C.Pairwise (leF f)->pendingOf I=(Z++(P.length,U.length+V.length,p1)::pv).toArray->Q true I):wpS M A E s (mergeAt' i) Q st:=by
 subst hi;show wpS_bind (wpS_get ?_);have g1:(pendingOf st)[Z.length]?=some (P.length,U.length,p1):=by rw[ad];simp
 have g2:(pendingOf st)[Z.length+1]?=some (P.length+U.length,V.length,p2):=by rw[ad];simp
 have g3:((pendingOf st).setIfInBounds Z.length (P.length,U.length+V.length,p1)).eraseIdxIfInBounds (Z.length+1)=(Z++(P.length,U.length+V.length,p1)::pv).toArray:=by rw[ad];simp[List.eraseIdx_append_of_length_le]
 rw[g1,g2];dsimp only;show wpS_bind (zmZ ?_);rw[g3]
 obtain⟨y,V',rfl⟩:∃y V',V=y::V':=by
  cases V with
  | nil=>exact absurd rfl nv
  | cons y V'=>exact⟨y,V',rfl⟩
 obtain⟨U',z,rfl⟩:∃U' z,U=U'++[z]:=⟨U.dropLast,U.getLast nu,(bu nu).symm⟩;have hy:(arrOf st)[P.length+(U'++[z]).length]?=some y:=zm3 (P:=P++(U'++[z])) (S:=V'++S) (by rw[B];simp) (by simp);have hz:(arrOf st)[P.length+(U'++[z]).length - 1]?=some z:=zm3 (P:=P++U') (S:=y::V'++S) (by rw[B];simp) (by simp);have hsz:(arrOf st).size=P.length+((U'++[z]).length+((y::V').length+S.length)):=by rw[<- aK,B];simp only[ao]
 have al:∀x∈U'++[z],x∈L0:=λx F=>ha x (by rw[<- bT,B];simp only[au] at F ⊢;rcases F with F | F <;> simp[F]);have inV:∀x∈y::V',x∈L0:=λx F=>ha x (by rw[<- bT,B];exact aI _ (aI _ (aT _ F)));have cu:((arrOf st).toList.drop P.length).take (U'++[z]).length=U'++[z]:=by rw[B];exact u8 rfl rfl
 have cv:((arrOf st).toList.drop (P.length+(U'++[z]).length)).take (y::V').length=y::V':=by rw[B,<- aC];exact u8 (by simp) rfl
 have hV:∀w∈y::V',f y<=f w:=λw J=>by
  rcases aG.mp J with rfl | J;exact cT _;exact (a9.mp sv).1 w J
 have hU:∀w∈U'++[z],f w<=f z:=λw J=>by
  rcases au.mp J with J | J;exact (br.mp su).2.2 w J z (by simp);rw[aq.mp J];exact cT _
 generalize aa:U'++[z]=U at *;generalize ag:y::V'=V at *;have yV:y∈V:=by rw[<- ag];exact am
 have zU:z∈U:=by rw[<- aa];simp
 have bd:1<=U.length:=by rw[<- aa];simp
 have be:1<=V.length:=by rw[<- ag];simp
 have ab:kindOf (SortSt.mk' (kindOf st) (arrOf st) (Z++(P.length,U.length+V.length,p1)::pv).toArray (gallopOf st) (failedOf st))=κ:=hk;show wpS_bind (yo hy ?_);show wpS_bind (zh8 (left:=false) (base:=P.length) (n:=U.length) (hint:=0) R (inV _ yV) ha (by lia) (by lia) (by rw[cu];exact su) ab λk k1 k2 k3=>?_);dsimp only;have an:∀x∈U.take k,f x<=f y:=λx F=>by have O:=k2 x (by rw[<- cu,List.take_take,dU k1] at F;exact F);unfold xF at O;rw[if_neg ay,ef,bQ] at O;lia
 have a5:∀x∈U.drop k,f y<f x:=λx F=>by have O:=k3 x (by rw[cu];exact F);unfold xF at O;rw[if_neg ay,fB,cm] at O;exact O
 clear k2 k3;by_cases e1:(U.length - k==0)=true;rw[if_pos e1];have e1:=cg e1;show wpS_pure (h _ (U++V) hk ac (by rw[aC];exact B) (en _) (br.mpr ⟨su,sv,λa F b hb=>?_⟩) rfl);have h6:=an a (by rw[bj (by lia)];exact F);have h7:=hV b hb;change f a<=f b;lia;rw[if_neg e1];have bk:U.length - k≠0:=λq=>e1 (by rw[q];rfl);rw[show P.length+k+(U.length - k) - 1=P.length+U.length - 1 by lia];show wpS_bind (yo hz ?_);show wpS_bind (zh8 (left:=true) (base:=P.length+U.length) (n:=V.length) (hint:=V.length - 1) R (al _ zU) ha (by lia) (by lia) (by rw[cv];exact sv) ab λj j1 j2 j3=>?_);dsimp only;have a7:∀x∈V.take j,f x<f z:=λx F=>by have O:=j2 x (by rw[<- cv,List.take_take,dU j1] at F;exact F);unfold xF at O;rw[if_pos rfl,cm] at O;exact O
 have ap:∀x∈V.drop j,f z<=f x:=λx F=>by have O:=j3 x (by rw[cv];exact F);unfold xF at O;rw[if_pos rfl,bQ] at O;lia
 clear j2 j3;by_cases e2:(j==0)=true;rw[if_pos e2];have e2:=cg e2;subst e2;show wpS_pure (h _ (U++V) hk ac (by rw[aC];exact B) (en _) (br.mpr ⟨su,sv,λa F b hb=>?_⟩) rfl);have h6:=ap b hb;have h7:=hU a F;change f a<=f b;lia;rw[if_neg e2];have bl:j≠0:=λq=>e2 (by rw[q];rfl);have ex:((arrOf st).extract (P.length+k) (P.length+U.length)).toList=U.drop k:=ziU (P:=P++U.take k) (S:=V++S) (by rw[B,aC,<- aC (U.take k),aX]) (by simp;lia) (by simp;lia);have ey:((arrOf st).extract (P.length+U.length) (P.length+U.length+j)).toList=V.take j:=ziU (P:=P++U) (S:=V.drop j++S) (by rw[B,<- aC (V.take j),aX,aC]) (by simp) (by simp;lia);generalize hX:(arrOf st).extract (P.length+k) (P.length+U.length)=X at ex ⊢;generalize hY:(arrOf st).extract (P.length+U.length) (P.length+U.length+j)=Y at ey ⊢;have ba:X.size=U.length - k:=by rw[<- aK,ex];simp
 have bo:Y.size=j:=by rw[<- aK,ey];simp;lia
 have mX:∀x∈X,x∈U.drop k:=λx F=>by rw[<- ex];exact bT.mpr F
 have mY:∀x∈Y,x∈V.take j:=λx F=>by rw[<- ey];exact bT.mpr F
 have as:∀x∈X,∀w,Y[0]?=some w->f w<=f x:=λx F w J=>by
  have h8:w=y:=by rw[<- b5,ey,bZ (by lia),<- ag] at J;exact (cL J).symm
  have:=a5 x (mX x F);rw[h8];lia
 have a0:∀x∈Y,∀w,X[X.size - 1]?=some w->f x<=f w:=λx F w J=>by
  have h8:w=z:=by
   have ul:U.length=U'.length+1:=by rw[<- aa];simp
   rw[<- b5,ex,fw,ba,show k+(U.length - k - 1)=U'.length by lia,<- aa] at J;simpa using J.symm
  have:=a7 x (mY x F);rw[h8];lia
 have fin:∀ (out:Array Keyed),zcW (leF f) (X.toList++Y.toList) out.toList->(U.take k++(out.toList++V.drop j)).Perm (U++V)/\(U.take k++(out.toList++V.drop j)).Pairwise (leF f)/\(out.toList.zipIdx.foldl (λa (p:Keyed×Nat)=>a.setIfInBounds (P.length+k+p.2) p.1) (arrOf st)).toList=P++((U.take k++(out.toList++V.drop j))++S):=λout tl=>by
  rw[ex,ey] at tl;have a1:out.toList.length=U.length - k+j:=by rw[tl.1.length_eq];simp;lia
  show⟨?_,?_,?_⟩;have h9:(U.take k++(out.toList++V.drop j)).Perm (U.take k++((U.drop k++V.take j)++V.drop j)):=(tl.1.append_right _).append_left _;have bb:U.take k++((U.drop k++V.take j)++V.drop j)=U++V:=by rw[aC (U.drop k),aX,<- aC,aX]
  rw[bb] at h9;exact h9;have Z:=br.mp (by rw[aX];exact su:(U.take k++U.drop k).Pairwise (leF f));have pv:=br.mp (by rw[aX];exact sv:(V.take j++V.drop j).Pairwise (leF f));show br.mpr ⟨Z.1,br.mpr ⟨tl.2,pv.2.1,λa h1 b h2=>?_⟩,λa h1 b h2=>?_⟩;rcases au.mp (tl.1.mem_iff.mp h1) with h1 | h1;have q1:=hU a (cF h1);have q2:=ap b h2;change f a<=f b;lia;exact pv.2.2 a h1 b h2;have q1:=an a h1;change f a<=f b;rcases au.mp h2 with h2 | h2;rcases au.mp (tl.1.mem_iff.mp h2) with h2 | h2;exact Z.2.2 a h1 b h2;have q2:=hV b (bF h2);lia;have q2:=hV b (cF h2);lia;have h9:=zk1 (P.length+k) out.toList 0 (arrOf st) (by lia);rw[gh] at h9;rw[h9,B];have q1:P++(U++(V++S))=(P++U.take k)++(U.drop k++(V++S)):=by rw[aC,<- aC (U.take k),aX]
  have q2:P++(U++(V++S))=(P++(U++V.take j))++(V.drop j++S):=by rw[aC,aC,<- aC (V.take j),aX]
  have q3:List.take (P.length+k) (P++(U++(V++S)))=P++U.take k:=by rw[q1];exact eU (by simp;lia)
  have q4:List.drop (P.length+k+out.toList.length) (P++(U++(V++S)))=V.drop j++S:=by rw[q2,a1];exact List.drop_left' (by simp;lia)
  rw[q3,q4];simp
 have a2:∀x∈X,x∈L0:=λx F=>al x (cF (mX x F));have a3:∀x∈Y,x∈L0:=λx F=>inV x (bF (mY x F));have sX:X.toList.Pairwise (leF f):=by rw[ex];exact su.sublist (eh _ _)
 have sY:Y.toList.Pairwise (leF f):=by rw[ey];exact sv.sublist (cj _ _)
 by_cases e3:U.length - k<=j
 case' pos=>
  rw[if_pos e3];show wpS_bind (zkP R a2 a3 sX sY (by lia) (by lia) as a0 ab λout I lk tl=>?_)
 case' neg=>
  rw[if_neg e3];show wpS_bind (zkO R a2 a3 sX sY (by lia) (by lia) as a0 ab λout I lk tl=>?_)
 all_goals
  obtain⟨r1,r2,r3⟩:=fin out tl;have bc:arrOf I=arrOf st:=lk.arr;have a4:failedOf I=none:=lk.fail.trans ac;show wpS_bind (du (wpS_bind (wpS_get ?_)));have h9:=h (SortSt.mk' (kindOf I) (out.toList.zipIdx.foldl (λa (p:Keyed×Nat)=>a.setIfInBounds (P.length+k+p.2) p.1) (arrOf I)) (pendingOf I) (gallopOf I) (failedOf I)) _ (lk.kind.trans hk) a4 (by rw[<- r3,<- bc]) r1 r2 lk.pend;show wpS_pure ?_;change Q (failedOf I).isNone _;rw[a4];exact h9
end
def zbM:Nat->List (List Keyed×Nat)->List (Nat×Nat×Nat)
 | _,[]=>[]
 | s,(l,p)::r=>(s,l.length,p)::zbM (s+l.length) r
def zQ (q:List (List Keyed×Nat)):List Keyed:=q.flatMap (·.1)
def zH (r:List Keyed×Nat)(v:List (List Keyed×Nat)):zQ (r::v)=r.1++zQ v:=by simp[zQ]
def yw (u v:List (List Keyed×Nat)):zQ (u++v)=zQ u++zQ v:=by simp[zQ]
def um:∀ (u v:List (List Keyed×Nat)) (s:Nat),zbM s (u++v)=zbM s u++zbM (s+(zQ u).length) v
 | [],v,s=>by simp[zbM,zQ]
 | (l,p)::u,v,s=>by rw[eF,zbM,zbM,um u v,zH,ao,Nat.add_assoc];rfl
def zbN:∀ (u:List (List Keyed×Nat)) (s:Nat),(zbM s u).length=u.length
 | [],_=>rfl
 | (l,p)::u,s=>by rw[zbM,aO,zbN u,aO]
structure SI (κ:SortKind)(f:Keyed->Int)(T:List Keyed)(rs:List (List Keyed×Nat))(zy:List Keyed)(st:SortSt):Prop where
 kind:kindOf st=κ
 fail:failedOf st=none
 arr:(arrOf st).toList=zQ rs++zy
 perm:(zQ rs++zy).Perm T
 pend:pendingOf st=(zbM 0 rs).toArray
 ne:∀r∈rs,r.1≠[]
 up:∀r∈rs,r.1.Pairwise (leF f)
section
variable {M:Model}{A:Ae}{E:AA}{s:AZ}{κ:SortKind}{T:List Keyed}{f:Keyed->Int}
def SI.size {q:List (List Keyed×Nat)}{zy:List Keyed}{st:SortSt}(h:SI κ f T q zy st):(arrOf st).size=T.length:=by rw[<- aK,h.arr,h.perm.length_eq]
def SI.len {q:List (List Keyed×Nat)}{zy:List Keyed}{st:SortSt}(h:SI κ f T q zy st):(zQ q).length+zy.length=T.length:=by rw[<- h.perm.length_eq,ao]
def SI.mem {q:List (List Keyed×Nat)}{zy:List Keyed}{st:SortSt}(h:SI κ f T q zy st):∀x∈arrOf st,x∈T:=λx B=>h.perm.mem_iff.mp (by rw[<- h.arr];exact bT.mpr B)
def SI.psz {q:List (List Keyed×Nat)}{zy:List Keyed}{st:SortSt}(h:SI κ f T q zy st):(pendingOf st).size=q.length:=by rw[h.pend,aW,zbN]
def t_mg (R:zbv M A s κ T f){B:List (List Keyed×Nat)}{zy:List Keyed}{st:SortSt}(h:SI κ f T B zy st){i:Nat}(hi:i+1<B.length){Q:Bool->SortSt->Prop}(k:∀O I,SI κ f T O zy I->O.length+1=B.length->Q true I):wpS M A E s (mergeAt' i) Q st:=by
 obtain⟨u,U,p1,V,p2,v,rfl,hu⟩:∃u U p1 V p2 v,B=u++(U,p1)::(V,p2)::v/\i=u.length:=by show⟨B.take i,B[i].1,B[i].2,B[i+1].1,B[i+1].2,B.drop (i+2),?_,by simp;lia⟩;have e1:B.drop i=B[i]::B.drop (i+1):=bW (by lia);have e2:B.drop (i+1)=B[i+1]::B.drop (i+2):=bW hi;change B=B.take i++B[i]::B[i+1]::B.drop (i+2);rw[<- e2,<- e1,aX]
 have J:=h.arr;have Y:=h.pend;rw[yw,zH,zH,aC,aC,aC] at J;rw[um,zbM,zbM,gk] at Y;show zkN R h.kind h.fail h.mem J Y (by rw[zbN];exact hu) (h.ne (U,p1) (by simp)) (h.ne (V,p2) (by simp)) (h.up (U,p1) (by simp)) (h.up (V,p2) (by simp)) λI C c1 c2 c3 Z c5 c6=>k (u++(C,p1)::v) I ⟨c1,c2,?_,?_,?_,?_,?_⟩ (by simp;lia);rw[yw,zH,aC,aC];exact c3;show List.Perm.trans ?_ h.perm;rw[yw,yw,zH,zH,zH];show List.Perm.append_right _ (eu _ ?_);rw[<- aC];exact Z.append_right _;rw[c6,um,zbM,gk,Z.length_eq,ao,Nat.add_assoc];intro r F;rcases au.mp F with F | F;exact h.ne r (by simp[F]);rcases aG.mp F with rfl | F;intro z;have z:C=[]:=z;have q:=Z.length_eq;rw[z,ao] at q;have n1:U≠[]:=h.ne (U,p1) (by simp);have q:0=U.length+V.length:=q;exact n1 (aY (by lia));exact h.ne r (by simp[F]);intro r F;rcases au.mp F with F | F;exact h.up r (by simp[F]);rcases aG.mp F with rfl | F;exact c5;exact h.up r (by simp[F])
def zmD {a:Array Keyed}{lo n:Nat}(h:Seg f a lo (lo+n))(I:lo+n<=a.size):((a.toList.drop lo).take n).Pairwise (leF f):=by
 rw[bE];intro i j hi q B;have F:j<n:=by simp at q;lia
 have:=h (lo+i) (lo+j) (by lia) (by lia) (by lia);unfold kA at this;rw[aS (by lia),aS (by lia)] at this;simpa [fM,List.getElem_drop] using this
def SI.next {F:List (List Keyed×Nat)}{zy:List Keyed}{st B:SortSt}(h:SI κ f T F zy st)(l:Lk (zQ F).length st B){n:Nat}(hn:1<=n)(hz:(zQ F).length+n<=T.length)(U:Seg f (arrOf B) (zQ F).length ((zQ F).length+n)) :
  ∃L I,SI κ f T F (L++I) B/\L.length=n/\L.Pairwise (leF f)/\L≠[]:=by
 have hs:=h.size;have Y:=l.size
 have Z:(arrOf B).toList.take (zQ F).length=zQ F:=by
  have q:(arrOf B).toList.take (zQ F).length=(arrOf st).toList.take (zQ F).length:=by
   show fL λi=>?_;rw[List.getElem?_take,List.getElem?_take];split
   ·rename_i hi;have:=l.low i hi;rw[b5,b5];exact this
   rfl
  rw[q,h.arr,eU rfl]
 have O:(arrOf B).toList=zQ F++(((arrOf B).toList.drop (zQ F).length).take n++(arrOf B).toList.drop ((zQ F).length+n)):=by have q:=aX (zQ F).length (arrOf B).toList;rw[Z] at q;rw[ziE];exact q.symm
 have J:(((arrOf B).toList.drop (zQ F).length).take n).length=n:=by simp;lia
 show⟨_,_,⟨l.kind.trans h.kind,l.fail.trans h.fail,O,?_,l.pend.trans h.pend,h.ne,h.up⟩,J,zmD U (by lia),λz=>by rw[z] at J;simp at J;lia⟩;rw[<- O];have q:=l.perm.toList;show q.trans ?_;rw[h.arr];exact h.perm
def SI.push {B:List (List Keyed×Nat)}{L zy:List Keyed}{st:SortSt}(h:SI κ f T B (L++zy) st)(F:L≠[])(hs:L.Pairwise (leF f)){lo n:Nat}(h1:(zQ B).length=lo)(h2:L.length=n) :
  SI κ f T (B++[(L,0)]) zy (setPending st ((pendingOf st).push (lo,n,0))):=by
 have e:zQ (B++[(L,0)])++zy=zQ B++(L++zy):=by rw[yw,zH];simp[zQ]
 show⟨h.kind,h.fail,by rw[e];exact h.arr,by rw[e];exact h.perm,?_,λr q=>?_,λr q=>?_⟩;change (pendingOf st).push (lo,n,0)=_;rw[h.pend,um,zbM,zbM,gk,h1,h2];simp;rcases au.mp q with q | q;exact h.ne r q;rw[aq.mp q];exact F;rcases au.mp q with q | q;exact h.up r q;rw[aq.mp q];exact hs
def SI.pow {I:List (List Keyed×Nat)}{zy:List Keyed}{st:SortSt}(h:SI κ f T I zy st)(hn:1<=I.length)(g:Nat×Nat×Nat->Nat×Nat×Nat)(J:Nat)(Y:∀a b c,g (a,b,c)=(a,b,J)) :
  ∃O,SI κ f T O zy (setPending st ((pendingOf st).modify ((pendingOf st).size - 1) g)):=by
 obtain⟨u,U,p,rfl⟩:∃u U p,I=u++[(U,p)]:=by
  rcases eA I with rfl | ⟨u,r,rfl⟩;simp at hn;exact⟨u,r.1,r.2,by simp⟩
 have F:∀q,zQ (u++[(U,q)])=zQ u++U:=λq=>by rw[yw,zH];simp[zQ]
 show⟨u++[(U,J)],h.kind,h.fail,by rw[F,<- F p];exact h.arr,by rw[F,<- F p];exact h.perm,?_,λr B=>?_,λr B=>?_⟩;change (pendingOf st).modify ((pendingOf st).size - 1) g=_;rw[h.psz,h.pend,um,um,zbM,zbM,zbM,zbM,gk];apply eI.mp;rw[Array.toList_modify];have e:(u++[(U,p)]).length - 1=(zbM 0 u).length:=by rw[zbN];simp
 rw[e];change List.modify (zbM 0 u++[((zQ u).length,U.length,p)]) (zbM 0 u).length g=zbM 0 u++[((zQ u).length,U.length,J)];rw[List.modify_eq_take_cons_drop (by simp)];simp[Y];rcases au.mp B with B | B;exact h.ne r (by simp[B]);rw[aq.mp B];exact h.ne (U,p) (by simp);rcases au.mp B with B | B;exact h.up r (by simp[B]);rw[aq.mp B];exact h.up (U,p) (by simp)
def zh9 {st:SortSt}(R:zbv M A s κ (arrOf st).toList f)(hk:kindOf st=κ)(hfl:failedOf st=none)(hp:pendingOf st = #[])(h2:1<=(arrOf st).size){Q:Unit->SortSt->Prop}
  (h:∀st',failedOf st'=none->(arrOf st').toList.Perm (arrOf st).toList->(arrOf st').toList.Pairwise (leF f)->Q () st'):wpS M A E s sortRuns' Q st:=by
 rw[sortRuns'_eq];show wpS_bind (wpS_get ?_);dsimp only;have S0:SI κ f (arrOf st).toList [] (arrOf st).toList st:=⟨hk,hfl,rfl,en _,hp,λ_ hr=>by simp at hr,λ_ hr=>by simp at hr⟩;have hT:(arrOf st).toList.length=(arrOf st).size:=aK;generalize (arrOf st).toList=T at R h S0 hT;generalize (arrOf st).size=N at h2 hT ⊢;generalize minRun' N N 0=mr;clear hk hfl hp;show wpS_bind (wpS_mono (bM (I:=λx c st'=>∃rs zy,c=(none,(zQ rs).length)/\SI κ f T rs zy st'/\x<=(zQ rs).length) (Q:=λc st'=>∃rs lo,c=(none,lo)/\SI κ f T rs [] st') ?_ ?_ ⟨[],T,rfl,S0,aM _⟩) ?_)
 ·rintro x c st1 _ hx ⟨rs,zy,rfl,S1,hx2⟩;have hz1:=S1.size;have hl1:=S1.len;dsimp only;by_cases e1:(zQ rs).length ≥ N;rw[if_pos e1];have:zy=[]:=aY (by lia);subst this;exact wpS_pure ⟨rs,_,rfl,S1⟩;rw[if_neg e1];show wpS_bind (zh7 R S1.kind S1.mem (by lia) (by lia) λm st2 l2 m1 m2 sg=>?_);dsimp only;have hz2:=l2.size;by_cases e2:m<mr
  case' pos=>
   rw[if_pos e2];show wpS_bind (wpS_lift (cU ⟨rfl,?_⟩));show wpS_bind (zfo R (n:=min (N - (zQ rs).length) mr) (l2.kind.trans S1.kind) (l2.mem S1.mem) (by lia) (by lia) (by lia) sg λst3 l3 sg3=>?_);rw[if_neg (by simp)];obtain⟨L,rest',S3,hL,sL,nL⟩:=S1.next (l2.trans l3) (n:=min (N - (zQ rs).length) mr) (by lia) (by lia) sg3;generalize hn:min (N - (zQ rs).length) mr=n at hL ⊢;have hn1:1<=n:=by lia
  case' neg=>
   rw[if_neg e2];obtain⟨L,rest',S3,hL,sL,nL⟩:=S1.next l2 (n:=m) (by lia) (by lia) sg;generalize hn:m=n at hL ⊢;have hn1:1<=n:=by lia
   generalize st2=st3 at S3 ⊢
  all_goals
   show wpS_bind (wpS_get ?_);rcases eA rs with hrs | ⟨u,r,hrs⟩;have hb:(pendingOf st3).back?=none:=by rw[S3.pend,hrs];rfl
   rw[hb];dsimp only;have S4:=S3.push nL sL rfl hL;exact wpS_bind (du (wpS_pure ⟨_,rest',by rw[yw,ao,zH,ao,hL];rfl,S4,by rw[yw,ao,zH,ao,hL];lia⟩))
   obtain⟨⟨b1,b2,b3⟩,hb⟩:∃b,(pendingOf st3).back?=some b:=by
    rw[S3.pend,hrs,List.concat_eq_append,um];cases r;exact⟨_,by simp[zbM];rfl⟩
   rw[hb];dsimp only;generalize power' N (2 * b1+b2) (2 * b1+b2+b2+n) N=pw;show wpS_bind (wpS_mono (bM (I:=λx c st'=>∃rs',c=(none,())/\SI κ f T rs' (L++rest') st'/\1<=rs'.length) (Q:=λc st'=>∃rs',c=(none,())/\SI κ f T rs' (L++rest') st'/\1<=rs'.length) ?_ (λc st' q=>q) ⟨rs,rfl,S3,by rw[hrs];simp⟩) ?_);rintro x2 c st4 _ _ ⟨rs',rfl,S4,n4⟩;show wpS_bind (wpS_get ?_);by_cases e3:(pendingOf st4).size > 1;rw[if_pos e3];obtain⟨⟨c1,c2,c3⟩,hc⟩:∃b,(pendingOf st4)[(pendingOf st4).size - 2]?=some b:=⟨_,aS (by lia)⟩;rw[hc];dsimp only;by_cases e4:c3<=pw;rw[if_pos e4];exact wpS_pure ⟨rs',rfl,S4,n4⟩;rw[if_neg e4];rw[S4.psz] at e3;show wpS_bind (t_mg R S4 (by rw[S4.psz];lia) λrs2 st5 S5 h5=>?_);exact wpS_pure ⟨rs2,rfl,S5,by lia⟩;rw[if_neg e3];exact wpS_pure ⟨rs',rfl,S4,n4⟩;rintro c st4 ⟨rs',rfl,S4,n4⟩;dsimp only;show wpS_bind (du ?_);obtain⟨rs2,S5⟩:=S4.pow n4 (λx=>match x with | (st,len,_)=>(st,len,pw)) pw (λa b c=>rfl);have hl3:=S3.len;have hl5:=S5.len;have S6:=S5.push nL sL (lo:=(zQ rs).length) (by lia) hL;exact wpS_bind (du (wpS_pure ⟨_,rest',by rw[yw,ao,zH,ao,hL,show (zQ rs2).length=(zQ rs).length by lia];rfl,S6,by rw[yw,ao,zH,ao,hL];lia⟩))
 rintro c st1 ⟨rs,zy,rfl,S1,hx2⟩;have hl1:=S1.len;have:zy=[]:=aY (by lia);subst this;exact⟨rs,_,rfl,S1⟩
 ·rintro c st1 ⟨rs,lo,rfl,S1⟩;dsimp only;have hl1:=S1.len
  have hlen:rs.length<=(zQ rs).length:=by
   have:∀ (rs:List (List Keyed×Nat)),(∀r∈rs,r.1≠[])->rs.length<=(zQ rs).length:=λrs=>by
    induction rs with
    | nil=>intro _;exact aM _
    | cons r v ih=>
     intro hn;have h1:=ih λr hr=>hn r (ar _ hr);have h2:=List.length_pos_iff.mpr (hn r am);rw[zH,ao,aO];lia
   exact this rs S1.ne
  have hne:1<=rs.length:=by
   cases rs with
   | nil=>simp[zQ] at hl1;lia
   | cons r v=>simp
  rw[List.length_nil,gh] at hl1;show wpS_bind (wpS_mono (bM (I:=λx c st'=>∃rs,c=(none,())/\SI κ f T rs [] st'/\1<=rs.length/\(rs.length<=1\/rs.length+x<=N)) (Q:=λc st'=>∃rs,c=(none,())/\SI κ f T rs [] st'/\rs.length=1) ?_ ?_ ⟨rs,rfl,S1,hne,.inr (by lia)⟩) ?_)
  ·rintro x c st2 _ hx ⟨rs,rfl,S2,n1,n2⟩;show wpS_bind (wpS_get ?_);by_cases e1:(pendingOf st2).size<=1;rw[if_pos e1];exact wpS_pure ⟨rs,rfl,S2,by rw[S2.psz] at e1;lia⟩;rw[if_neg e1];rw[S2.psz] at e1;show wpS_bind (t_mg R S2 ?_ λrs' st3 S3 h3=>?_)
   ·rw[S2.psz];have le1:∀ (b:Bool),(if b=true then rs.length - 2 - 1 else rs.length - 2)+1<rs.length:=λb=>by cases b <;> simp <;> lia
    exact le1 _
   exact wpS_pure ⟨rs',rfl,S3,by lia,by lia⟩
  rintro c st2 ⟨rs,rfl,S2,n1,n2⟩;exact⟨rs,rfl,S2,by lia⟩;rintro c st2 ⟨rs,rfl,S2,n1⟩;obtain⟨r,rfl⟩:∃r,rs=[r]:=List.length_eq_one_iff.mp n1;have ha:=S2.arr;have hq:=S2.perm;rw[cY] at ha hq;rw[<- ha] at hq;rw[zH] at ha;exact wpS_pure (h st2 S2.fail hq (by rw[ha];simpa [zQ] using S2.up r (by simp)))
end
open PySem.Calls PySem.W
def zd1 {α O:Type}(g:α->O):∀ {out m:List O},out.Perm m->∀l:List α,m=l.map g->∃l':List α,l'.Perm l/\out=l'.map g:=by
 intro out m h
 induction h with
 | nil=>intro l e;exact⟨l,.refl _,e⟩
 | cons x h U=>
  intro l e
  match l,e with
  | a::l,e=>
   obtain⟨B,F⟩:=List.cons.inj e;obtain⟨l',p,q⟩:=U l F;exact⟨a::l',.cons a p,by rw[aB,<- q,B]⟩
 | swap x y l0=>
  intro l e
  match l,e with
  | a::b::l,e=>
   obtain⟨B,F⟩:=List.cons.inj e;obtain⟨Y,Z⟩:=List.cons.inj F;exact⟨b::a::l,.swap _ _ _,by rw[aB,aB,B,Y,Z]⟩
 | trans h1 h2 I J=>
  intro l e;obtain⟨l2,p2,q2⟩:=J l e;obtain⟨l1,p1,q1⟩:=I l2 q2;exact⟨l1,p1.trans p2,q1⟩
def Ask (prog:Aa)(w:Ab)(A:Ae)(κ:SortKind)(vs:AN)(G:Array Nat->Prop)(s:AZ):Prop:=
 ∃f:Nat->Int,zil vs.length f/\(∀i j,i<vs.length->j<vs.length->vs.getD i .none=vs.getD j .none->i=j)/\
  (∀i j,i<vs.length->j<vs.length->∀ (Q:Bool->AZ->Prop) (E:AA),Q (decide (f i<f j)) s->Ag prog w A (keyLt' κ (vs.getD i .none) (vs.getD j .none)) Q E s)/\∀p:Array Nat,Up vs.length f p vs.length->G p
section
variable {prog:Aa}{w:Ab}{A:Ae}{E:AA}{s:AZ}{h₀:Heap}{L a:Addr}{m:AI}{news:AB}{vs:AN}{κ:SortKind}
def zqm(h2:2<=vs.length)(h:Ask prog w A κ vs G s) :
  Ag prog w A ((sortRuns').run (SortSt.mk' κ (vs.toArray.zip vs.toArray) #[] 7 none)) (λr s'=>s'=s/\∃p:Array Nat,p.size=vs.length/\(arrOf r.2).map (·.2)=List.toArray (p.toList.map λi=>vs.getD i .none)/\failedOf r.2=none/\G p) E s:=by
 obtain⟨f,hu,J,hc,hG⟩:=h
 have O:(vs.toArray.zip vs.toArray).toList=(List.range vs.length).map λi=>(vs.getD i .none,vs.getD i .none):=by
  show fL λi=>?_;by_cases hi:i<vs.length;simp[hi];simp[hi,Nat.le_of_not_lt hi]
 let F:Keyed->Int:=λx=>f (Classical.epsilon λi=>i<vs.length/\vs.getD i .none=x.1)
 have U:∀i,i<vs.length->F (vs.getD i .none,vs.getD i .none)=f i:=λi hi=>by have q:(Classical.epsilon λj=>j<vs.length/\vs.getD j .none=vs.getD i .none)<vs.length/\vs.getD (Classical.epsilon λj=>j<vs.length/\vs.getD j .none=vs.getD i .none) .none=vs.getD i .none:=Classical.epsilon_spec (p:=λj=>j<vs.length/\vs.getD j .none=vs.getD i .none) ⟨i,hi,rfl⟩;change f (Classical.epsilon λj=>j<vs.length/\vs.getD j .none=vs.getD i .none)=f i;rw[J _ _ q.1 hi q.2]
 show zh9 (E:=E) (st:=SortSt.mk' κ (vs.toArray.zip vs.toArray) #[] 7 none) (f:=F) (κ:=κ) (Q:=λ_ B=>∃p:Array Nat,p.size=vs.length/\(arrOf B).map (·.2)=List.toArray (p.toList.map λi=>vs.getD i .none)/\failedOf B=none/\G p) ?_ rfl rfl rfl ?_ ?_;intro x y Y Z Q E hq;have Y:x∈(vs.toArray.zip vs.toArray).toList:=Y;have Z:y∈(vs.toArray.zip vs.toArray).toList:=Z;rw[O] at Y Z;obtain⟨i,hi,rfl⟩:=aD.mp Y;obtain⟨j,hj,rfl⟩:=aD.mp Z;have hi:=aQ.mp hi;have hj:=aQ.mp hj;rw[U i hi,U j hj] at hq;exact hc i j hi hj Q E hq;change 1<=(vs.toArray.zip vs.toArray).size;simp;lia;intro B h1 h3 h4;have h3:(arrOf B).toList.Perm (vs.toArray.zip vs.toArray).toList:=h3;obtain⟨p,hp,he⟩:=zd1 _ h3 _ O;have I:∀i∈p,i<vs.length:=λi hi=>aQ.mp (hp.mem_iff.mp hi);have aa:p.length=vs.length:=by rw[hp.length_eq,aE]
 show⟨p.toArray,by simpa using aa,?_,h1,hG _ ⟨?_,ak _,λk hk=>?_⟩⟩;apply eI.mp;rw[gc,he,aF];rfl;change p.toArray.Perm (List.range vs.length).toArray;exact List.Perm.toArray hp;have ab:p.Nodup:=hp.nodup_iff.mpr dF;rw[he] at h4;have h5:=bE.mp h4 k (k+1) (by simp;lia) (by simp;lia) (by lia);rw[ce,ce] at h5;have g1:p.toArray.getD k 0=p[k]:=by simp[Array.getD,show k<p.length by lia]
 have g2:p.toArray.getD (k+1) 0=p[k+1]:=by simp[Array.getD,show k+1<p.length by lia]
 have h5:F (vs.getD p[k] .none,vs.getD p[k] .none)<=F (vs.getD p[k+1] .none,vs.getD p[k+1] .none):=h5;rw[U _ (I _ (bP _)),U _ (I _ (bP _))] at h5;unfold key;rw[g1,g2];have h6:f p[k]≠f p[k+1]:=λz=>by have:=hu _ _ (I _ (bP _)) (I _ (bP _)) z;have:=(dg ab).mp this;lia
 lia
def zaV {n:Nat}{P:PySem.Fin->AZ->Prop}(F:Fr h₀ L s.heap m)(N:News h₀ L s.heap news)(ho:s.heap.get? a=some (seqObj "list" vs.toArray n))(haL:a≠L)(ha0:h₀.get? a=none)(hna:∀p∈news,p.1≠a)
  (h2:2<=vs.length) (hz:vs.length<=sizeLine)
  (h:∀e1 h',Fr h₀ L h' m->News h₀ L h' ((a,seqObj "list" #[] e1)::news)->
   Ag prog w A (keyKind' vs.toArray) (λκ s'=>Ask prog w A κ vs (λp=>KasFin h₀ L m a e1 (p.toList.map λi=>vs.getD i Value.none) (λs3=>P (.done (.ret .none)) s3) s') s') (λ_ _=>False) { s with heap:=h' }) :
  Ag prog w A (Builtin.«list.sort» ⟨[.ref a],[]⟩) P E s:=by
 have s1:=bw s.heap a (Obj.mapSeq λ_=>(#[]:AK));obtain⟨e1,ho1⟩:∃e1,(s.heap.update a (Obj.mapSeq λ_=>(#[]:AK))).get? a=some (seqObj "list" #[] e1):=⟨_,get?_update_seq ho λ_=>#[]⟩;have keep2:∀b x,(s.heap.update a (Obj.mapSeq λ_=>(#[]:AK))).get? b=some x->(((s.heap.update a (Obj.mapSeq λ_=>(#[]:AK))).push (seqObj "tuple" vs.toArray 0)).push (seqObj "list" #[] 0)).get? b=some x:=λb x e=>ai _ (ai _ e)
 have ask:=h e1 _ (((kas_fr F s1 haL ha0).push (seqObj "tuple" vs.toArray 0)).push (seqObj "list" #[] 0)) (λp hp=>by
  rcases aG.mp hp with rfl | hp;exact⟨keep2 _ _ ho1,haL,ha0⟩;exact (kas_news N s1 hna).grown keep2 p hp)
 rw[list_sort_plain];show ae (listItems_at ho rfl (ae (fV ho rfl ?_ (by rw[aW];exact hz) (aM _))));show ae (seqEpoch_at ho1 rfl (ae (wpAny_newTuple ?_ (by change vs.length<=_;exact hz))));show ae (fW (bt ?_) (aM _));change Ag prog w A _ P E { s with heap:=((s.heap.update a (Obj.mapSeq λ_=>(#[]:AK))).push (seqObj "tuple" vs.toArray 0)).push (seqObj "list" #[] 0) };dsimp only;have hn2:¬ vs.toArray.size<2:=by rw[aW];lia
 rw[if_neg hn2,if_neg hn2];show ae (bH ask (λκ s0 hk=>?_) λ_ _ x=>x.elim);show ae (bH (zqm h2 hk) ?_ λ_ _ e=>e);rintro⟨⟨⟩,st'⟩ s' ⟨rfl,p,hp,hout,hf,news',g,F',N',U,k⟩;dsimp only;obtain⟨pre,post,e0,hg,x1,x2⟩:=U.split;rw[e0] at N';have na:=N' (a,seqObj "list" #[] e1) (aI _ (.head _));have hsz:(List.toArray (p.toList.map λi=>vs.getD i Value.none)).size=vs.length:=by rw[aW,af,aK,hp]
 rw[hout];have s2:=bw s'.heap a (Obj.mapSeq λ_=>List.toArray (p.toList.map λi=>vs.getD i Value.none));obtain⟨c2,hc2⟩:∃c2,(s'.heap.update a (Obj.mapSeq λ_=>List.toArray (p.toList.map λi=>vs.getD i Value.none))).get? a=some (seqObj "list" (List.toArray (p.toList.map λi=>vs.getD i Value.none)) c2):=⟨_,get?_update_seq na.1 λ_=>List.toArray (p.toList.map λi=>vs.getD i Value.none)⟩;show ae (seqEpoch_at na.1 rfl ?_);show ae (fV na.1 rfl ?_ (aM _) (aA (Nat.le_of_eq hsz) (Nat.le_succ_of_le hz)));rw[hf];simp only[fN,aP,if_false];show ah (k _ c2 (kas_fr F' s2 na.2.1 na.2.2) ?_);rw[hg];exact news_set N' x1 x2 s2 hc2
def zib(F:Fr h₀ L s.heap m)(N:News h₀ L s.heap news)(hl:s.heap.IsList l vs.toArray)(h2:2<=vs.length)(J:vs.length<=sizeLine)(h:∀D Y h',Fr h₀ L h' m->News h₀ L h' ((D,seqObj "list" #[] Y)::news)->(∀q∈news,q.1<D)->
   wpAny (model prog w) A.in1.in1 (keyKind' vs.toArray) (λκ s'=>Ask prog w A.in1.in1 κ vs (λp=>KasFin h₀ L m D Y (p.toList.map λi=>vs.getD i Value.none) (λs3=>Q (.ref D) s3) s') s') (λ_ _=>False) { s with heap:=h' }) :
  Ag prog w A (call (.builtin "sorted") [.ref l]) Q E s:=by
 show Calls.call_function_entry kind_sorted plain_sorted entry_sorted (args_sorted1 _) ?_;unfold Builtin.«sorted»;show ae (m:=checkCount "sorted" 1 1 _) (ah ?_);show ae (collect_list hl ?_ (by first | exact J | (rw[aW];exact J)));show ae (fW ?_ (by first | exact J | (rw[aW];exact J)));generalize O:(s.heap.push (seqObj "list" #[] 0)).update s.heap.objs.size (Obj.mapSeq (·++vs.toArray))=hm;have hsz:hm.objs.size=s.heap.objs.size+1:=by rw[<- O,Heap.size_update,size_push']
 have U:(hm.push (seqObj "list" vs.toArray 0)).get? (s.heap.objs.size+1)=some (seqObj "list" vs.toArray 0):=by rw[<- hsz];exact aw _ rfl
 have B:∀b o,s.heap.get? b=some o->(hm.push (seqObj "list" vs.toArray 0)).get? b=some o:=λb o q=>by have I:b<s.heap.objs.size:=az q;rw[ek _ _ _ (by rw[hsz];exact aV (c8 I)),<- O,dJ _ _ _ _ (aV I),ek _ _ _ (aV I)];exact q
 have hL:L<s.heap.objs.size:=F.ns.lt;change wpAny _ _ _ _ _ { s with heap:=hm.push (seqObj "list" vs.toArray 0) };rw[hsz];show ae (bt (bf fE ⟨_,U,rfl⟩ eV ?body (fF _)))
 case body=>
  show zaV (s:={ s with heap:=hm.push (seqObj "list" vs.toArray 0) })
   (F.kept B) (N.grown B) U (ff (c8 hL)) (eJ (aA F.above (Nat.le_succ_of_le (cH hL))))
   (λp Z=>aV (c8 (az (N p Z).1))) h2 J λY h' F' N'=>?_
  show bH (h _ Y h' F' N' λq hq=>c8 (az (N q hq).1)) (λκ s' hk=>?_) λ_ _ x=>x;obtain⟨f,k1,k2,k3,k4⟩:=hk;exact⟨f,k1,k2,k3,λp Z=>(k4 p Z).mono λs3 hq=>⟨_,rfl,ah ⟨_,rfl,hq⟩⟩⟩
end
def zdI {prog:Aa}{w:Ab}{A:Ae}{s:AZ}{b:Bool}{Q:Bool->AZ->Prop}:∀ {ns B:AG} {xs ys:AN} (i:Nat),zT (ns.map V.int) xs->zT (B.map V.int) ys->ns.length=B.length->Q (HT.lexLt ns B) s->W.KatLex prog w A b false Q (xs.zip ys) i s
 | [],[],_,_,i,I,J,_,q=>by cases I;cases J;exact W.kat_nil q
 | [],_::_,_,_,_,_,_,h,_=>by simp at h
 | _::_,[],_,_,_,_,_,h,_=>by simp at h
 | a::ns,c::B,_,_,i,I,J,Y,q=>by
  cases I with
  | cons Z O=>
   cases J with
   | cons r2 U=>
    obtain⟨t,rfl⟩:=Z;obtain⟨u,rfl⟩:=r2;rw[List.zip_cons_cons];have F:Q (if a=c then HT.lexLt ns B else decide (a<c)) s:=q;show W.kat_cons (wpAny_eqBool_int ?_);by_cases e:a=c;rw[show (a==c)=true from by lia];rw[if_pos e] at F;exact W.kat_yes (zdI (i+1) O U (by simpa using Y) F);rw[show (a==c)=false from beq_false_of_ne e];rw[if_neg e] at F;show W.kat_no ?_
    cases (b&&i==0) with
    | true=>exact oneLt_int F
    | false=>exact W.kat_one _ _ (P.lt_int F)
def yL:∀s:AG,HT.lexLt s s=false
 | []=>rfl
 | a::s=>by change (if a=a then HT.lexLt s s else _)=false;rw[if_pos rfl];exact yL s
def zaE:∀ {a b c:AG},a.length=b.length->b.length=c.length->HT.lexLt a b=true->HT.lexLt b c=true->HT.lexLt a c=true
 | [],[],[],_,_,h,_=>h
 | x::a,y::b,z::c,h1,h2,J,O=>by
  have q:(if x=y then HT.lexLt a b else decide (x<y))=true:=J;have B:(if y=z then HT.lexLt b c else decide (y<z))=true:=O;change (if x=z then HT.lexLt a c else decide (x<z))=true;by_cases F:x=y;by_cases I:y=z;rw[if_pos F] at q;rw[if_pos I] at B;rw[if_pos (F.trans I)];exact zaE (by simpa using h1) (by simpa using h2) q B;grind;grind
 | [],_::_,_,h,_,_,_=>by simp at h
 | _::_,[],_,h,_,_,_=>by simp at h
 | [],[],_::_,_,h,_,_=>by simp at h
 | _::_,_::_,[],_,h,_,_=>by simp at h
def uN:∀ {a b:AG},a.length=b.length->a=b\/HT.lexLt a b=true\/HT.lexLt b a=true
 | [],[],_=>.inl rfl
 | [],_::_,h=>by simp at h
 | _::_,[],h=>by simp at h
 | x::a,y::b,h=>by
  change _\/(if x=y then HT.lexLt a b else decide (x<y))=true\/(if y=x then HT.lexLt b a else decide (y<x))=true;by_cases e:x=y
  ·subst e;rw[if_pos rfl,if_pos rfl];rcases uN (a:=a) (b:=b) (by simpa using h) with h1 | h1 | h1
   all_goals right
  ·rw[if_neg e,if_neg (Ne.symm e)];rcases Int.lt_or_gt_of_ne e with h1 | h1
   all_goals right
def zgF {α:Type}{p q:α->Bool}:∀ {l:List α},(∀x∈l,p x=true->q x=true)->(∃x∈l,p x=false/\q x=true)->l.countP p<l.countP q
 | [],_,h=>by right
 | y::l,h,k=>by
  have J:l.countP p<=l.countP q:=List.countP_mono_left λx B F=>h x (ar _ B) F;rw[List.countP_cons,List.countP_cons];obtain⟨x,B,F,I⟩:=k;rcases aG.mp B with rfl | B;rw[F,I];simp;lia;have U:=zgF (l:=l) (λz O=>h z (ar _ O)) ⟨x,B,F,I⟩;grind
def zca (sts:AF)(i:Nat):Int:=(sts.countP λc=>HT.lexLt c (sts.getD i [])  : Nat)
def yT{sts:AF}(q:∀st∈sts,st.length=m)(hi:i<sts.length)(I:j<sts.length):decide (zca sts i<zca sts j)=HT.lexLt (sts.getD i []) (sts.getD j []):=by
 have J:sts.getD i []∈sts:=by rw[bq,ax hi];exact bP hi
 have O:sts.getD j []∈sts:=by rw[bq,ax I];exact bP I
 have U:∀ {a b:AG},a∈sts->b∈sts->HT.lexLt a b=true->(sts.countP λc=>HT.lexLt c a)<(sts.countP λc=>HT.lexLt c b):=λ{a b} F Y B=>
  zgF (λx Z hp=>zaE ((q x Z).trans (q a F).symm) ((q a F).trans (q b Y).symm) hp B) ⟨a,F,yL a,B⟩
 unfold zca;generalize sts.getD i []=a at J;generalize sts.getD j []=b at O;rcases uN (a:=a) (b:=b) ((q a J).trans (q b O).symm) with h | h | h;subst h;rw[yL];right
 all_goals grind
def zaM (h:Heap)(L:Addr):AB:=(List.range h.objs.size).filterMap λb=>if b=L then none else (h.get? b).map λo=>(b,o)
def zD:(b,o)∈zaM h L↔b≠L/\h.get? b=some o:=by
 unfold zaM;rw[dh];constructor;rintro⟨c,F,e⟩;by_cases q:c=L;right;rw[if_neg q] at e;obtain⟨o',B,I⟩:=aL.mp e;grind;rintro⟨q,B⟩;exact⟨b,aQ.mpr (az B),by right⟩
def zrM {h:Heap}{L:Addr}{m q:AI}(a:h.Ns L m)(b:h.Ns L q):m=q:=by
 obtain⟨o,es,U,Y,Z,hk,hf⟩:=a;obtain⟨o',es',B,F,I,J,O⟩:=b;grind
section
variable {X:Cx}
def uP(x:ya P w H h a o):∃u,h.get? a=some u:=by
 cases o with
 | lst xs=>obtain⟨_,_,_,_,e⟩:=x;exact⟨_,e⟩
 | tup xs=>obtain⟨_,_,_,p⟩:=x;obtain⟨o,e,_⟩:=p;exact⟨o,e⟩
 | dK kvs=>obtain⟨_,_,_,_,o,_,_,e,_⟩:=x;exact⟨_,e⟩
 | dT kvs=>obtain⟨_,_,_,_,o,_,_,e,_⟩:=x;exact⟨_,e⟩
 | set S n=>obtain⟨o,_,_,_,e,_⟩:=x;exact⟨_,e⟩
 | ins C dx fs=>obtain⟨_,_,_,e,_⟩:=x;exact⟨_,e⟩
 | own y=>exact x
 | xd fs=>obtain⟨_,⟨_,_,_,e,_⟩,_⟩:=x;exact⟨_,e⟩
 | met f y=>exact⟨_,x⟩
 | rng lo hi=>obtain⟨_,_,_,e⟩:=x;exact⟨_,e⟩
 | frz o u=>obtain⟨e,_⟩:=x;exact⟨_,e⟩
 | tbl ps=>exact⟨_,x⟩
 | ext q=>obtain⟨_,e,_⟩:=x;exact e
def zb4{pins:AB}{σ:St}{H:Hp}{s:AZ}(I:Inv X pins σ H s)(hm:s.heap.Ns X.env.locals m){h':Heap}{D:Addr}{ys:AT}{B:AN}(Z:∀b o,b≠X.env.locals->s.heap.get? b=some o->h'.get? b=some o)(O:h'.Ns X.env.locals m)(aa:s.heap.get? D=none)(U:H D=none)(ho:h'.get? D=some { cls:=.type "list",data:=.seq B.toArray c })(hv:zT ys B)(hz:ys.length<=sizeLine)(tk:Nat):Inv X pins σ (upd H D (.lst ys)) { s with heap:=h',toks:=tk }:=by
 have nD:∀b o,s.heap.get? b=some o->b≠D:=λb o e z=>by rw[z,aa] at e;cases e
 have nL:∀b u,H b=some u->b≠X.env.locals:=λb u e=>zf e I.free;show Inv.step (ch:=[]) (g':=s.gens) (d':=s.drawn) (t':=tk) I (λb J=>by simp at J) (λb o h1 _ _ F _=>Z b o h1 F) (λb o h1 _ _ F _=>⟨o.slots,Z b o h1 F⟩) (λb o _ F h5=>by rw[ze (nD b o F)];exact h5) (λb o _ F=>?_) (λb ys q=>by rw[ze (zf q U)];exact q) (λb o u q=>by rw[ze (zf q U)];exact q) (λb ps q=>⟨#[],by rw[ze (zf q U),Array.append_empty];exact q⟩) (λm' ab=>by rw[<- zrM hm ab];exact O) (λb u J=>?_) I.bare;by_cases hL:b=X.env.locals;obtain⟨o',_,_,h1,_⟩:=O;right;exact⟨o,Z b o hL F⟩;by_cases Y:b=D;subst Y;rw[zg] at J;cases J;exact⟨hz,B,c,hv,ho⟩;rw[ze Y] at J;show (I.hok b u J).stay (λc v ac q=>Z c v ?_ q) (λc q=>by rw[ze (zf q U)];exact q) (λc ys q=>by rw[ze (zf q U)];exact q);grind
def zcs {pins:AB}{σ:St}{H:Hp}{s:AZ}(I:Inv X pins σ H s):∀ {sts:AF} {vs:AT} {q:AN},IsL H (sts.map stD) vs->zT vs q->∀ {i:Nat},i<sts.length->∃ (a:Addr) (items:AN),vs.getD i .non = .ref a/\q.getD i .none = .ref a/\IsTup s.heap a items.toArray/\zT ((sts.getD i []).map V.int) items/\a≠X.env.locals
 | [],_,_,_,_,i,hi=>by simp at hi
 | st::sts,_,_,h,J,i,hi=>by
  obtain⟨x,r,rfl,⟨a,xs,rfl,F,B⟩,O⟩:=h;obtain rfl:=B.of_ints
  cases J with
  | cons U rr=>
   cases U
   cases i with
   | zero=>
    obtain⟨items,Y,Z,_⟩:=I.tuple (.of F);exact⟨a,items,rfl,rfl,Z,Y,zf F I.free⟩
   | succ i=>
    obtain⟨a',items,e1,e2,e3,e4,e5⟩:=zcs I (sts:=sts) O rr (i:=i) (by simpa using hi);exact⟨a',items,by simpa using e1,by simpa using e2,e3,by simpa using e4,e5⟩
def zkQ {pins:AB}{σ:St}{H:Hp}{s:AZ}(I:Inv X pins σ H s){h':Heap}(U:∀b o,b≠X.env.locals->s.heap.get? b=some o->h'.get? b=some o):∀ {sts:AF} {vs:AT} {q:AN},IsL H (sts.map stD) vs->zT vs q->(∀st∈sts,1<=st.length)->∃fs,W.KatTups h' q fs/\fs.length=sts.length/\∀f∈fs,∃a t,f = .int a t
 | [],_,_,h,B,_=>by cases h;cases B;exact⟨[],trivial,rfl,λ_ h=>by simp at h⟩
 | st::sts,_,_,h,B,h1=>by
  obtain⟨x,r,rfl,⟨a,xs,rfl,Y,F⟩,hr⟩:=h;obtain rfl:=F.of_ints
  cases B with
  | cons r1 rr=>
   cases r1;obtain⟨items,J,pt,_⟩:=I.tuple (.of Y);obtain⟨o,ho,hc,n,hd⟩:=pt;obtain⟨fs,f1,f2,f3⟩:=zkQ I U (sts:=sts) hr rr λz hz=>h1 z (ar _ hz);have O:=h1 st am
   match st,J,O with
   | z::zs,J,_=>
    cases J with
    | cons q1 qq=>
     obtain⟨t,rfl⟩:=q1;show⟨_::fs,⟨⟨a,o,_,n,rfl,U a o (zf Y I.free) ho,hc,hd,rfl⟩,f1⟩,by right,λf Z=>?_⟩;rcases aG.mp Z with rfl | Z
     all_goals right
def zsD:AT->Hp->VK->Prop:=λxs H Q=>∃ (l:Addr) (vs:AT) (sts:AF) (m:Nat),xs=[.ref l]/\H l=some (.lst vs)/\IsL H (sts.map stD) vs/\2<=sts.length/\1<=m/\(∀st∈sts,st.length=m)/\sts.Nodup/\
 ∀ (ys:AT) (q:AF),IsL H (q.map stD) ys->q.Perm sts->(q.Pairwise λa b=>HT.lexLt a b=true)->New H (.lst ys) Q
def zgW {H:Hp}{sts:AF}{vs:AT}(h:IsL H (sts.map stD) vs):∀ {p:AR},(∀i∈p,i<sts.length)->IsL H ((p.map λi=>sts.getD i []).map stD) (p.map λi=>vs.getD i .non)
 | [],_=>rfl
 | i::p,q=>by
  have hi:=q i am;obtain⟨x,F,I⟩:=h.getD (i:=i) (d:=stD (sts.getD i [])) (by simp[hi]);show⟨vs.getD i .non,_,rfl,?_,zgW h λj B=>q j (ar _ B)⟩;right
def zft(h:zT vs q):∀ (p:AR),(∀i∈p,i<vs.length)->zT (p.map λi=>vs.getD i .non) (p.map λi=>q.getD i .none)
 | [],_=>.nil
 | i::p,B=>by
  have hi:=B i am;obtain⟨u,I,J⟩:=h.get (i:=i) (x:=vs[i]) (ax hi);show .cons ?_ (zft h p λj F=>B j (ar _ F));right
def u9 {α:Type}(d:α)(l:List α):(List.range l.length).map (λi=>l.getD i d)=l:=by show dG (by simp) λi h1 h2=>?_;simp[h2]
def zbj:∀ {a b:AG} {q:AN},zT (a.map V.int) q->zT (b.map V.int) q->a=b
 | [],[],_,_,_=>rfl
 | [],_::_,_,h,k=>by cases h;cases k
 | _::_,[],_,h,k=>by cases k;cases h
 | x::a,y::b,_,h,k=>by
  cases h with
  | cons B rr=>
   cases k with
   | cons F I=>
    obtain⟨t,rfl⟩:=B;obtain⟨t',e⟩:=F;cases e;rw[zbj rr I]
def zlo:CallQ X (.builtin "sorted") zsD:=⟨by
 intro pins s σ H xs us Q I r h;obtain⟨l,vs,sts,m,rfl,hl,B,h2,a4,hm,ap,q⟩:=h;obtain⟨u,rfl,ru⟩:=zaY r;cases ru;obtain⟨a5,rv,pl,hz⟩:=I.list (.of hl);have a7:=B.length;rw[af] at a7;have bo:=rv.length;obtain⟨m0,as,_⟩:=id I.loc;show zib (h₀:=(⟨#[],{}⟩:Heap)) (L:=X.env.locals) (m:=m0) (news:=zaM s.heap X.env.locals) ⟨as,λb o e=>?_,aM _⟩ (λp hp=>?_) pl.isList (by lia) (by lia) λD e1 h' F N aa=>?_;have:=az e;simp at this;obtain⟨b,o⟩:=p;have:=zD.mp hp;show⟨this.2,this.1,?_⟩
 cases e:(⟨#[],{}⟩:Heap).get? b with
 | none=>rfl
 | some o'=>
  have:=az e;simp at this
 ·have kp:∀b o,b≠X.env.locals->s.heap.get? b=some o->h'.get? b=some o:=λb o hb e=>(N (b,o) (ar _ (zD.mpr ⟨hb,e⟩))).1;obtain⟨fs,k1,k2,k3⟩:=zkQ I kp B rv λst ba=>by rw[hm st ba];exact a4
  show W.kat_kind (T:=.type "int") (s:={ s with heap:=h' }) k1 (by lia) (λf hf=>?_) (by ext) ?_;obtain⟨a,t,rfl⟩:=k3 f hf;intro A' Q' E' s' _ hq;exact dO (typeIs_int s' a t) hq
  ·have hu:zil sts.length (zca sts):=λi j hi J e=>by
    have e1:=yT hm hi J;have e2:=yT hm J hi;rw[e,a8 (fX _)] at e1;rw[e,a8 (fX _)] at e2;have gi:sts.getD i []=sts[i]:=by simp[hi]
    have gj:sts.getD j []=sts[j]:=by simp[J]
    rcases uN (a:=sts.getD i []) (b:=sts.getD j []) (by right) with h | h | h;rw[gi,gj] at h;exact (dg ap).mp h
    all_goals grind
   have O:a5.length=sts.length:=by lia
   show⟨zca sts,by rw[O];exact hu,λi j hi J e=>?_,λi j hi J C E hC=>?_,λp U=>?_⟩;rw[O] at hi J;obtain⟨a1,ab,_,b1,c1,d1,_⟩:=zcs I B rv hi;obtain⟨a2,ac,_,b2,c2,d2,_⟩:=zcs I B rv J;rw[b1,b2] at e;cases e;obtain⟨o1,ad,_,n1,ag⟩:=c1;obtain⟨o2,Y,_,n2,Z⟩:=c2;rw[ad] at Y;cases Y;rw[ag] at Z;have ei:ab=ac:=by injection Z with q1;exact List.toArray_inj q1
   subst ei;have es:=zbj d1 d2;have gi:sts.getD i []=sts[i]:=by simp[hi]
   have gj:sts.getD j []=sts[j]:=by simp[J]
   rw[gi,gj] at es;exact (dg ap).mp es;rw[O] at hi J;obtain⟨a1,ab,_,b1,c1,d1,f1⟩:=zcs I B rv hi;obtain⟨a2,ac,_,b2,c2,d2,f2⟩:=zcs I B rv J;obtain⟨o1,ad,_,n1,ag⟩:=c1;obtain⟨o2,Y,_,n2,Z⟩:=c2;rw[b1,b2];have gi:(sts.getD i []).length=m:=by right
   have gj:(sts.getD j []).length=m:=by right
   have l1:=d1.length;have l2:=d2.length;rw[af] at l1 l2;show W.kat_lt (s:={ s with heap:=h' }) (kp _ _ f1 ad) ag (kp _ _ f2 Y) Z ?_;rw[show decide (ab.toArray.size<ac.toArray.size)=false from a8 (by simp;lia)];show zdI 0 d1 d2 (by rw[gi,gj]) ?_;rw[yT hm hi J] at hC;exact hC;rw[O] at U;have al:p.toList.Perm (List.range sts.length):=by have:=U.perm.toList;simpa using this
   have an:∀i∈p.toList,i<sts.length:=λi hi=>aQ.mp ((al.mem_iff).mp hi);show W.KasFin.intro F N (W.UpdF.head λq' bb=>?_) λbc c F'' N''=>?_;exact aV (aa q' bb);have bd:∀b o,b≠X.env.locals->s.heap.get? b=some o->bc.get? b=some o:=λb o hb e=>(N'' (b,o) (ar _ (zD.mpr ⟨hb,e⟩))).1;have be:D≠X.env.locals:=(N'' (D,_) am).2.1
   have bk:s.heap.get? D=none:=by
    cases e:s.heap.get? D with
    | none=>rfl
    | some o=>exact absurd (aa (D,o) (zD.mpr ⟨be,e⟩)) (cG _)
   have a0:H D=none:=by
    cases e:H D with
    | none=>rfl
    | some o=>
     obtain⟨o',bs⟩:=uP (I.hok D o e);grind
   have a3:=(N'' (D,_) am).1;have I':=zb4 I as (ys:=p.toList.map λi=>vs.getD i .non) bd F''.ns bk a0 a3 (zft rv p.toList λi hi=>by right) (by rw[af,al.length_eq,aE];lia) s.toks;show⟨.ref D,_,I',rfl,(q _ (p.toList.map λi=>sts.getD i []) (zgW B an) ?_ ?_).at a0⟩;have:=al.map λi=>sts.getD i [];rwa[u9] at this;have bx:p.size=sts.length:=ze9 U.perm;rw[bE];intro i j hi J bl;rw[af,aK] at hi J;have hk:=U.lt_of bl (by lia);rw[ce,ce,dB,dB];have e1:p.getD i 0=p[i]:=by simp[hi]
   have e2:p.getD j 0=p[j]:=by simp[J]
   unfold key at hk;rw[e1,e2] at hk;rw[<- yT hm (an _ (by simp)) (an _ (by simp))];exact bi hk⟩
end
open PySem.Calls PySem.W
def u5 {prog:Aa}{w:Ab}{A:Ae}{E:AA}{s:AZ}{a:Addr}{vs:AN}{n:Nat}{P:PySem.Fin->AZ->Prop}(ho:s.heap.get? a=some (seqObj "list" vs.toArray n))(h2:vs.length<2)
  (h:∀h' c,(∀b o,b≠a->s.heap.get? b=some o->h'.get? b=some o)->h'.get? a=some (seqObj "list" vs.toArray c)->P (.done (.ret .none)) { s with heap:=h' }) :
  Ag prog w A (Builtin.«list.sort» ⟨[.ref a],[]⟩) P E s:=by
 obtain⟨e1,ho1⟩:∃e1,(s.heap.update a (Obj.mapSeq λ_=>(#[]:AK))).get? a=some (seqObj "list" #[] e1):=⟨_,get?_update_seq ho λ_=>#[]⟩;rw[list_sort_plain];show ae (listItems_at ho rfl ?_);show ae (fV ho rfl ?_ (by rw[aW,b8];lia) (aM _));show ae (seqEpoch_at ho1 rfl ?_);show ae (wpAny_newTuple ?_ (by change vs.length<=_;rw[b8];lia));show ae (fW ?_ (aM _));show bt ?_;change Ag prog w A _ P E { s with heap:=((s.heap.update a (Obj.mapSeq λ_=>(#[]:AK))).push (seqObj "tuple" vs.toArray 0)).push (seqObj "list" #[] 0) };dsimp only;have hn2:vs.toArray.size<2:=by rw[aW];lia
 rw[if_pos hn2,if_pos hn2];show ae (ah ?_);show ae (m:=(pure ():StateT SortSt _ _).run _) (ah ?_);have hsnd:(arrOf (SortSt.mk' general' (vs.toArray.zip vs.toArray) #[] 7 none)).map (λx=>x.snd)=vs.toArray:=by change (vs.toArray.zip vs.toArray).map (λx=>x.snd)=vs.toArray;apply eI.mp;rw[gc,Array.toList_zip];exact List.map_snd_zip (ak _)
 have ha:a<s.heap.objs.size:=az ho;have g3:(((s.heap.update a (Obj.mapSeq λ_=>(#[]:AK))).push (seqObj "tuple" vs.toArray 0)).push (seqObj "list" #[] 0)).get? a=some (seqObj "list" #[] e1):=ai _ (ai _ ho1);show ae (seqEpoch_at g3 rfl ?_);show ae (fV g3 rfl ?_ (aM _) ?_);change wpAny _ _ _ _ _ _;dsimp only;rw[hsnd];simp only[fN,aP,if_false];show ah (h _ _ (λb o hb e=>?_) (get?_update_seq g3 λ_=>vs.toArray));rw[dJ _ _ _ _ hb];show ai _ (ai _ ?_);rw[dJ _ _ _ _ hb];exact e;dsimp only;rw[hsnd,aW,b8];lia
def zfj {prog:Aa}{w:Ab}{A:Ae}{E:AA}{s:AZ}{l:Addr}{vs:AN}{Q:AA}(J:s.heap.IsList l vs.toArray)(h2:vs.length<2)
  (h:∀D h' c,(∀b o,s.heap.get? b=some o->h'.get? b=some o)->s.heap.get? D=none->h'.get? D=some (seqObj "list" vs.toArray c)->Q (.ref D) { s with heap:=h' }) :
  Ag prog w A (call (.builtin "sorted") [.ref l]) Q E s:=by
 show Calls.call_function_entry kind_sorted plain_sorted entry_sorted (args_sorted1 _) ?_;unfold Builtin.«sorted»;show ae (m:=checkCount "sorted" 1 1 _) (ah ?_);show ae (collect_list J ?_ (by rw[b8];lia));show ae (fW ?_ (by rw[b8];lia));have hsz:((s.heap.push (seqObj "list" #[] 0)).update s.heap.objs.size (Obj.mapSeq (·++vs.toArray))).objs.size=s.heap.objs.size+1:=by right
 have F:(((s.heap.push (seqObj "list" #[] 0)).update s.heap.objs.size (Obj.mapSeq (·++vs.toArray))).push (seqObj "list" vs.toArray 0)).get? (s.heap.objs.size+1)=some (seqObj "list" vs.toArray 0):=by rw[<- hsz];exact aw _ rfl
 have I:∀b o,s.heap.get? b=some o->(((s.heap.push (seqObj "list" #[] 0)).update s.heap.objs.size (Obj.mapSeq (·++vs.toArray))).push (seqObj "list" vs.toArray 0)).get? b=some o:=λb o q=>by have B:b<s.heap.objs.size:=az q;rw[ek _ _ _ (by rw[hsz];exact aV (c8 B)),dJ _ _ _ _ (aV B),ek _ _ _ (aV B)];exact q
 change wpAny _ _ _ _ _ { s with heap:=((s.heap.push (seqObj "list" #[] 0)).update s.heap.objs.size (Obj.mapSeq (·++vs.toArray))).push (seqObj "list" vs.toArray 0) };rw[hsz];show ae (bt (bf fE ⟨_,F,rfl⟩ eV ?body (fF _)))
 case body=>
  show u5 (s:={ s with heap:=((s.heap.push (seqObj "list" #[] 0)).update s.heap.objs.size (Obj.mapSeq (·++vs.toArray))).push (seqObj "list" vs.toArray 0) }) F h2 λh' c O U=>?_;show⟨_,rfl,ah ⟨_,rfl,h _ _ _ (λb o e=>O b o (aV (c8 (az e))) (I b o e)) ?_ U⟩⟩;exact eJ (Nat.le_succ _)
section
variable {X:Cx}
def zpP:AT->Hp->VK->Prop:=λxs H Q=>∃ (l:Addr) (vs:AT) (sts:AF) (m:Nat),xs=[.ref l]/\H l=some (.lst vs)/\IsL H (sts.map stD) vs/\1<=m/\(∀st∈sts,st.length=m)/\sts.Nodup/\
 ∀ (ys:AT) (q:AF),IsL H (q.map stD) ys->q.Perm sts->(q.Pairwise λa b=>HT.lexLt a b=true)->New H (.lst ys) Q
def ziB:CallQ X (.builtin "sorted") zpP:=⟨by
 intro pins s σ H xs us Q I r h;obtain⟨l,vs,sts,m,rfl,hl,B,O,hm,U,q⟩:=h;by_cases h2:2<=sts.length;exact zlo.run _ _ _ _ _ _ _ I r ⟨l,vs,sts,m,rfl,hl,B,h2,O,hm,U,q⟩;obtain⟨u,rfl,ru⟩:=zaY r;cases ru;obtain⟨aa,rv,pl,hz⟩:=I.list (.of hl);have Y:=B.length;rw[af] at Y;have ab:=rv.length;obtain⟨m0,F,_⟩:=id I.loc;show zfj pl.isList (by lia) λD h' c kp Z hD=>?_
 have J:H D=none:=by
  cases e:H D with
  | none=>rfl
  | some o=>
   obtain⟨o',ac⟩:=uP (I.hok D o e);grind
 have I':=zb4 I F (ys:=vs) (λb o _ e=>kp b o e) (by obtain⟨o,es,ep,g,k⟩:=F;exact⟨o,es,ep,kp _ _ g,k⟩) Z J hD rv (by grind) s.toks;show⟨.ref D,_,I',rfl,(q _ sts B (en _) ?_).at J⟩
 match sts,h2 with
 | [],_=>exact .nil
 | [_],_=>exact dS _ _
 | _::_::_,h2=>exact absurd (by simp) h2⟩
end
def Ris (xs:Array Nat):Prop:=∀i j:Nat,i<j->j<xs.size->xs.getD i 0<xs.getD j 0
def zdq {xs:Array Nat}(F:Ris xs){j:Nat}:∀ (B lo hi:Nat),lo<=hi->hi<=xs.size->hi - lo<=B->(∀i,i<lo->xs.getD i 0<j)->(∀i,hi<=i->i<xs.size->j<=xs.getD i 0)->
  ∃p,SetTable.below.go xs j B lo hi=p/\p<=xs.size/\(∀i,i<p->xs.getD i 0<j)/\(∀i,p<=i->i<xs.size->j<=xs.getD i 0)
 | 0,lo,hi,h1,h2,h3,I,J=>by
  have:lo=hi:=by lia
  subst this;exact⟨lo,rfl,h2,I,J⟩
 | B+1,lo,hi,h1,h2,h3,I,J=>by
  change ∃p,(if lo<hi then if xs.getD ((lo+hi) / 2) j<j then SetTable.below.go xs j B ((lo+hi) / 2+1) hi else SetTable.below.go xs j B lo ((lo+hi) / 2) else lo)=p/\_;by_cases Y:lo<hi;rw[if_pos Y];have Z:(lo+hi) / 2<xs.size:=by lia
  have e:xs.getD ((lo+hi) / 2) j=xs.getD ((lo+hi) / 2) 0:=by simp[Z]
  rw[e];by_cases O:xs.getD ((lo+hi) / 2) 0<j;rw[if_pos O];show zdq F B _ hi (by lia) h2 (by lia) (λi U=>?_) J;by_cases q:i=(lo+hi) / 2;rw[q];exact O;have:=F i ((lo+hi) / 2) (by lia) Z;lia;rw[if_neg O];show zdq F B lo _ (by lia) (by lia) (by lia) I (λi U hs=>?_);by_cases q:i=(lo+hi) / 2;rw[q];lia;have:=F ((lo+hi) / 2) i (by lia) hs;lia;rw[if_neg Y];have:lo=hi:=by lia
  subst this;exact⟨lo,rfl,h2,I,J⟩
def xQ(q:Ris xs)(j:Nat):SetTable.below xs j<=xs.size/\(∀i,i<SetTable.below xs j->xs.getD i 0<j)/\(∀i,SetTable.below xs j<=i->i<xs.size->j<=xs.getD i 0):=by obtain⟨p,e,h⟩:=zdq q (j:=j) xs.size 0 xs.size (aM _) (ak _) (ak _) (λi h=>absurd h (c9 _)) (λi h1 h2=>by lia);have B:SetTable.below xs j=p:=e;rw[B];exact h
def xH{xs:Array Nat}(h:xs[i]?=some j):i<xs.size/\xs.getD i 0=j:=by
 obtain⟨h1,h2⟩:=cP.mp h;right
def zfM{xs:Array Nat}(h:i<xs.size):xs[i]?=some (xs.getD i 0):=by simp[h]
def zle(B:Ris xs)(h:xs[i]?=some j):SetTable.below xs j=i:=by
 obtain⟨h1,h2⟩:=xH h;obtain⟨J,F,I⟩:=xQ B j;rcases cK (SetTable.below xs j) i with q | q | q;have:=I _ (ak _) (by lia);have:=B _ i q h1;lia;exact q;have:=F i q;lia
def zaR{t:SetTable}(q:Ris t.place)(h:t.place[i]?=some j):t.slot j = .live i:=by unfold SetTable.slot;rw[zle q h];simp[h]
def zkF {t:SetTable}(q:t.dummies = #[]){j:Nat}(h:∀i:Nat,t.place[i]?≠some j):t.slot j = .empty:=by
 unfold SetTable.slot;have e:(t.place[SetTable.below t.place j]?==some j)=false:=by grind
 have B:SetTable.has t.dummies j=false:=by rw[q];rfl
 right
def zp9 {t:SetTable}(q:Ris t.place)(B:t.dummies = #[])(j:Nat):(t.slot j = .empty/\∀i:Nat,t.place[i]?≠some j)\/∃i,t.slot j = .live i/\t.place[i]?=some j:=by
 by_cases h:∃i:Nat,t.place[i]?=some j;obtain⟨i,hi⟩:=h;exact .inr ⟨i,zaR q hi,hi⟩;have h':∀i:Nat,t.place[i]?≠some j:=λi e=>h ⟨i,e⟩;exact .inl ⟨zkF B h',h'⟩
def tm (q:Nat):SetTable:=⟨q,#[],#[],0,true,0,true⟩
def stp (q:Nat)(h:Int):Nat->SetTable.Probe
 | 0=>(tm q).probeStart h
 | n+1=>(tm q).advance (stp q h n)
def wk (q:Nat)(h:Int)(n:Nat):Nat:=(stp q h n).j
def zim (q:Nat)(p:SetTable.Probe):((tm q).advance p).dummy=p.dummy:=by unfold SetTable.advance;split <;> rfl
def zfn (q:Nat)(h:Int):∀n,(stp q h n).dummy=none
 | 0=>rfl
 | n+1=>by change ((tm q).advance _).dummy=none;rw[zim,zfn q h n]
def zgx (q:Nat)(p:SetTable.Probe)(h:0<p.more):(tm q).advance p={ p with j:=p.j+1,more:=p.more - 1 }:=by unfold SetTable.advance;rw[if_pos h]
def zdp (q:Nat)(p:SetTable.Probe)(h:p.more=0):(tm q).advance p={ p with j:=(p.i * 5+1+p.perturb / 32) % (q+1),more:=SetTable.runEnd q ((p.i * 5+1+p.perturb / 32) % (q+1)) - (p.i * 5+1+p.perturb / 32) % (q+1),i:=(p.i * 5+1+p.perturb / 32) % (q+1),perturb:=p.perturb / 32 }:=by unfold SetTable.advance;rw[if_neg (by lia)];rfl
def lp (q:Nat)(h:Int):Nat->Nat×Nat
 | 0=>(SetTable.bits h % (q+1),SetTable.bits h)
 | n+1=>SetTable.leap q (lp q h n).1 (lp q h n).2
def znH (q i:Nat):SetTable.runEnd q i - i<=9:=by unfold SetTable.runEnd;split <;> lia
def zej (B:Nat)(h:Int){T i q:Nat}(e:stp B h T=⟨i,SetTable.runEnd B i - i,i,q,none⟩):∀k,k<=SetTable.runEnd B i - i->stp B h (T+k)=⟨i+k,SetTable.runEnd B i - i - k,i,q,none⟩
 | 0,_=>e
 | k+1,F=>by
  change (tm B).advance (stp B h (T+k))=_;rw[zej B h e k (by lia),zgx B _ (by lia)];grind
def zjA (q:Nat)(h:Int):∀k,∃T,T<=10 * k/\stp q h T=⟨(lp q h k).1,SetTable.runEnd q (lp q h k).1 - (lp q h k).1,(lp q h k).1,(lp q h k).2,none⟩
 | 0=>⟨0,ak _,rfl⟩
 | k+1=>by obtain⟨T,B,e⟩:=zjA q h k;have F:=znH q (lp q h k).1;show⟨T+(SetTable.runEnd q (lp q h k).1 - (lp q h k).1)+1,by lia,?_⟩;change (tm q).advance (stp q h (T+_))=_;rw[zej q h e _ (ak _),zdp q _ (Nat.sub_self _)];rfl
def zc7 (q:Nat)(h:Int):∀k,(lp q h k).2=SetTable.bits h / 32 ^ k
 | 0=>by change SetTable.bits h=_;simp
 | k+1=>by change (lp q h k).2 / 32=_;rw[zc7 q h k,Nat.div_div_eq_div_mul,Nat.pow_succ]
def znW (h:Int):SetTable.bits h<2 ^ 64:=by
 unfold SetTable.bits;grind
def lcg (m i:Nat):Nat:=(i * 5+1) % m
def orb (m:Nat):Nat->Nat->Nat
 | 0,i=>i
 | k+1,i=>lcg m (orb m k i)
def zjH (q:Nat)(h:Int):∀k,(lp q h (13+k)).1=orb (q+1) k (lp q h 13).1
 | 0=>rfl
 | k+1=>by
  change ((lp q h (13+k)).1 * 5+1+(lp q h (13+k)).2 / 32) % (q+1)=lcg (q+1) (orb (q+1) k _);rw[<- zjH q h k,zc7];have B:=znW h
  have e:SetTable.bits h / 32 ^ (13+k)=0:=by
   show gb (a6 B ?_)
   calc 2 ^ 64<=32 ^ 13:=by ext
    _<=32 ^ (13+k):=dz (by ext) (by lia)
  rw[e];rfl
def zcl (m:Nat)(a:Nat):∀ (b i:Nat),orb m (a+b) i=orb m b (orb m a i)
 | 0,i=>rfl
 | b+1,i=>by change lcg m (orb m (a+b) i)=lcg m (orb m b _);rw[zcl m a b i]
def zqE (m:Nat):Nat->Nat->AR
 | 0,_=>[]
 | n+1,i=>i::zqE m n (lcg m i)
def zmb (m:Nat)(k i:Nat):orb m (k+1) i=orb m k (lcg m i):=by rw[Nat.add_comm,zcl];rfl
def zd0 (m:Nat):∀ (n i k:Nat),k<n->(zqE m n i)[k]?=some (orb m k i)
 | n+1,i,0,_=>rfl
 | n+1,i,k+1,h=>by rw[zmb];exact zd0 m n (lcg m i) k (by lia)
def zhd (m:Nat):∀ (n i:Nat),(zqE m n i).length=n
 | 0,_=>rfl
 | n+1,i=>by change (zqE m n _).length+1=n+1;rw[zhd m n]
structure Ring (m:Nat):Prop where
 pos:0<m
 all:∀v,v<m->v∈zqE m m 0
 back:orb m m 0=0
def Ring.reach(r:Ring m)(hi:i<m)(J:j<m):∃k,k<m/\orb m k i=j:=by
 obtain⟨a,F,U⟩:=bU.mp (r.all i hi);obtain⟨b,I,Y⟩:=bU.mp (r.all j J);rw[zhd] at F I
 have q:orb m a 0=i:=by
  have:=zd0 m m 0 a F;right
 have B:orb m b 0=j:=by
  have:=zd0 m m 0 b I;right
 by_cases O:a<=b;show⟨b - a,by lia,?_⟩;rw[<- q,<- zcl,show a+(b - a)=b by lia];exact B;show⟨b+m - a,by lia,?_⟩;rw[<- q,<- zcl,show a+(b+m - a)=m+b by lia,zcl,r.back];exact B
def zsM (m:Nat):Bool:=((List.range m).all λv=>(zqE m m 0).contains v)&&orb m m 0==0
def zd9(q:0<m)(h:zsM m=true):Ring m:=by
 unfold zsM at h;rw[bI] at h;show⟨q,λv B=>?_,cg h.2⟩;right
def zvu:Ring 8:=zd9 (by ext) (by decide +kernel)
def zsL:Ring 32:=zd9 (by ext) (by decide +kernel)
def zpT:Ring 128:=zd9 (by ext) (by decide +kernel)
def zpU:Ring 512:=zd9 (by ext) (by decide +kernel)
def zmY(r:Ring (q+1))(h:Int)(B:j<=q):∃n,n<10 * SetTable.turns q/\wk q h n=j:=by have F:(lp q h 13).1<q+1:=fO _ (fD _);obtain⟨k,J,e⟩:=r.reach F (fP B);obtain⟨T,O,I⟩:=zjA q h (13+k);show⟨T,by unfold SetTable.turns;lia,?_⟩;change (stp q h T).j=j;rw[I];change (lp q h (13+k)).1=j;rw[zjH,e]
def zpW {xs:Array Nat}(B:Ris xs){i j a b:Nat}(hi:xs[i]?=some a)(F:xs[j]?=some b)(h:a<b):i<j:=by
 obtain⟨h1,h2⟩:=xH hi;obtain⟨I,J⟩:=xH F;rcases cK i j with q | q | q;exact q;subst q;lia;have:=B j i q h1;lia
def zhq(q:Ris xs):∀ (M:Nat),(∀j,j<M->∃i:Nat,xs[i]?=some j)->∀ (j i:Nat),j<M->xs[i]?=some j->j<=i
 | _,_,0,_,_,_=>aM _
 | M,h,j+1,i,I,e=>by obtain⟨F,B⟩:=h j (by lia);have h1:=zpW q B e (eE j);have h2:=zhq q M h j F (by lia) B;lia
def zpV(q:Ris xs)(h:xs.size<M):∃j,j<M/\∀i:Nat,xs[i]?≠some j:=by show bX λhn=>?_;have all:∀j,j<M->∃i:Nat,xs[i]?=some j:=λj B=>bX λF=>hn ⟨j,B,λi e=>F ⟨i,e⟩⟩;obtain⟨i,e⟩:=all (M - 1) (by lia);have h1:=zhq q M all (M - 1) i (by lia) e;have h2:=(xH e).1;lia
section
variable {t:SetTable}{hashAt:Nat->Int}{h:Int}
def zhi (F:Ris t.place)(I:t.dummies = #[]):∀ (q n:Nat),(∃N,n<=N/\N<n+q/\∀i:Nat,t.place[i]?≠some (wk t.mask h N))->
  ∃N,n<=N/\(∀m,n<=m->m<N->∃i,t.place[i]?=some (wk t.mask h m)/\hashAt i≠h)/\
   (((∀i:Nat,t.place[i]?≠some (wk t.mask h N))/\SetTable.probe.go t hashAt h q (stp t.mask h n)=some (.empty (wk t.mask h N) none))\/
    ∃i,t.place[i]?=some (wk t.mask h N)/\hashAt i=h/\SetTable.probe.go t hashAt h q (stp t.mask h n)=some (.candidate (wk t.mask h N) i (stp t.mask h (N+1))))
 | 0,n,⟨N,h1,h2,_⟩=>by lia
 | q+1,n,⟨N,h1,h2,J⟩=>by
  rcases zp9 F I (wk t.mask h n) with ⟨e,hn⟩ | ⟨i,e,hi⟩;show⟨n,ak _,λm a b=>by lia,.inl ⟨hn,?_⟩⟩;change (match t.slot (wk t.mask h n) with | .empty=>some (SetTable.Met.empty (wk t.mask h n) (stp t.mask h n).dummy) | .dummy=>_ | .live i=>_)=_;rw[e,zfn];by_cases B:hashAt i=h;show⟨n,ak _,λm a b=>by lia,.inr ⟨i,hi,B,?_⟩⟩;change (match t.slot (wk t.mask h n) with | .empty=>_ | .dummy=>_ | .live i=>if hashAt i==h then some (SetTable.Met.candidate (wk t.mask h n) i (t.advance (stp t.mask h n))) else _)=_;rw[e];change (if (hashAt i==h)=true then _ else _)=_;rw[if_pos (beq_iff_eq.mpr B)];rfl;have Z:n≠N:=λz=>by subst z;exact J i hi
  obtain⟨N',a1,O,a3⟩:=zhi F I q (n+1) ⟨N,by lia,by lia,J⟩;have e2:SetTable.probe.go t hashAt h (q+1) (stp t.mask h n)=SetTable.probe.go t hashAt h q (stp t.mask h (n+1)):=by change (match t.slot (wk t.mask h n) with | .empty=>_ | .dummy=>_ | .live i=>if hashAt i==h then _ else SetTable.probe.go t hashAt h q (t.advance (stp t.mask h n)))=_;rw[e];change (if (hashAt i==h)=true then _ else _)=_;rw[if_neg (λz=>B (beq_iff_eq.mp z))];rfl
  show⟨N',by lia,λm b1 U=>?_,?_⟩;by_cases Y:m=n;subst Y;exact⟨i,hi,B⟩;exact O m (by lia) U;right
variable {prog:Aa}{w:Ab}
abbrev tk (prog:Aa)(w:Ab):HeapKind prog w (List Key):=tupleKind (zS prog w)
def zt1 (t:SetTable)(h:Int)(i:Nat):Prop:=∃n,n<10 * SetTable.turns t.mask/\t.place[i]?=some (wk t.mask h n)/\∀m,m<n->∃q:Nat,t.place[q]?=some (wk t.mask h m)
def zai (m:Nat):Prop:=m=7\/m=31\/m=127\/m=511
def zai.ring(h:zai m):Ring (m+1):=by
 rcases h with rfl | rfl | rfl | rfl;exact zvu;exact zsL;exact zpT;exact zpU
def zai.le(h:zai m):7<=m/\m<=511:=by rcases h with rfl | rfl | rfl | rfl <;> lia
def zai.odd(h:zai m):(m % 2==0)=false:=by rcases h with rfl | rfl | rfl | rfl <;> rfl
structure Tb (prog:Aa)(w:Ab)(t:SetTable)(es:Array (Int×Value))(xs:List (List Key×Addr)):Prop where
 eq:es.toList=xs.map λq=>((tk prog w).hash q.1,Value.ref q.2)
 nd:(xs.map (·.1)).Nodup
 dm:t.dummies = #[]
 ris:Ris t.place
 le:∀ (i j:Nat),t.place[i]?=some j->j<=t.mask
 sz:t.place.size=xs.length
 msk:zai t.mask
 few:xs.length<=t.mask
 plain:t.plain=true
 led:t.led = !w.params.followText "set-order"
 reach:∀ (i:Nat) (q:List Key×Addr),xs[i]?=some q->zt1 t ((tk prog w).hash q.1) i
variable {es:Array (Int×Value)}{xs:List (List Key×Addr)}
def Tb.size (T:Tb prog w t es xs):es.size=xs.length:=by rw[<- aK,T.eq,af]
def Tb.get (T:Tb prog w t es xs){i:Nat}{q:List Key×Addr}(h:xs[i]?=some q):es[i]?=some ((tk prog w).hash q.1,Value.ref q.2):=by rw[<- b5,T.eq,aN,h];rfl
def Tb.at' (T:Tb prog w t es xs){i j:Nat}(h:t.place[i]?=some j):∃q,xs[i]?=some q:=by
 have:=(xH h).1;rw[T.sz] at this;right
def Tb.fits (T:Tb prog w t es xs):t.fits es.size=true:=by unfold SetTable.fits SetTable.fill;rw[T.size,T.sz,T.dm];have:=T.few;simp;lia
def Tb.empty (T:Tb prog w t es xs)(h:Int):∃N,N<10 * SetTable.turns t.mask/\∀i:Nat,t.place[i]?≠some (wk t.mask h N):=by have:=T.few;obtain⟨j,q,hn⟩:=zpV T.ris (M:=t.mask+1) (by rw[T.sz];lia);obtain⟨N,h1,h2⟩:=zmY T.msk.ring h (da q);exact⟨N,h1,by rw[h2];exact hn⟩
variable {A:Ae}{E:AA}{s:AZ}
def zfB(h:(zS prog w).is k v=true):(∃i t,v = .int i t)\/∃x t,v = .str x t:=by
 rcases zR h with ⟨i,t,_,e⟩ | ⟨x,t,_,e⟩;exact .inl ⟨i,t,e⟩;exact .inr ⟨x,t,e⟩
def zb5:∀ {ks:List Key} {vs:AN},ItemsAre (zS prog w) ks vs->∀v∈vs,(∃i t,v = .int i t)\/∃x t,v = .str x t
 | _,_,.nil,v,h=>by simp at h
 | _,_,.cons h1 h2,v,h=>by
  rcases aG.mp h with rfl | h;exact zfB h1;exact zb5 h2 v h
def zda(J:(tk prog w).is s.heap k b)(h:Q false s):Ag prog w A (ofAClassStatement 8 (.ref b)) Q E s:=by
 have B:IsTupleKey (zS prog w) s.heap k b:=J;have O:=B.typeIs;obtain⟨o,items,n,U,_,Y,hi⟩:=B;unfold ofAClassStatement;show ae (dO O ?_);dsimp only;rw[if_pos (by ext)];show ae (ah ?_);simp only[fY,aP,if_false];show ae (cI U Y ?_);show ae ?_;change wpAny _ _ (forIn items _ _) _ _ s;rw[<- Array.forIn_toList];show gd _ (λzy r s'=>r.1=none/\s'=s/\∀v∈zy,(∃i t,v=Value.int i t)\/∃x t,v=Value.str x t) _ ?_ ?_ _ _ ⟨rfl,rfl,zb5 hi⟩
 ·rintro v zy r s' ⟨F,rfl,q⟩;have e:ofAClassStatement 7 v=pure false:=by rcases q v am with ⟨i,t,rfl⟩ | ⟨x,t,rfl⟩ <;> rfl
  rw[e];show ae (ah ?_);simp only[aP,if_false];exact ah ⟨rfl,rfl,λu I=>q u (ar _ I)⟩
 rintro⟨Z,r2⟩ s' ⟨F,rfl,_⟩;simp only at F;subst F;exact ah h
def ztp(U:(tk prog w).is s.heap k b):∀ (l:AN),(∀v∈l,∃F q,v = .ref q/\(tk prog w).is s.heap F q)->Q false s->Ag prog w A (searchCouldBeSeen (.ref b) l) Q E s:=by
 intro l Y h;unfold searchCouldBeSeen;show ae ?_;show gd _ (λzy r s'=>r.1=none/\s'=s/\∀v∈zy,∃F q,v=Value.ref q/\(tk prog w).is s.heap F q) _ ?_ ?_ _ _ ⟨rfl,rfl,Y⟩
 ·rintro v zy r s' ⟨J,rfl,B⟩;obtain⟨F,q,rfl,I⟩:=B v am;have next:∀u∈zy,∃F q,u=Value.ref q/\(tk prog w).is s'.heap F q:=λu O=>B u (ar _ O);dsimp only;split
  ·exact ah ⟨rfl,rfl,next⟩
  ·show ae ((tk prog w).quiet U ?_);simp only[fY,aP,if_false];show ae ((tk prog w).quiet I ?_);simp only[fY,aP,if_false];show ae (zda U ?_);simp only[aP,if_false];show ae (zda I ?_);simp only[aP,if_false];exact ah ⟨rfl,rfl,next⟩
 rintro⟨Z,r2⟩ s' ⟨J,rfl,_⟩;simp only at J;subst J;exact ah h
def zew (t:SetTable)(xs:List (List Key×Addr))(h:Int)(k:List Key)(n:Nat):Prop:=∀m,m<n->∃ (i:Nat) (q:List Key×Addr),t.place[i]?=some (wk t.mask h m)/\xs[i]?=some q/\q.1≠k
def zfi {a b:Addr}{o:Obj}{ep:Nat}{k:List Key}{adding:Bool}{Q:SetFound->AZ->Prop}(hu:A.units<cLine)(T:Tb prog w t es xs)(hk:(tk prog w).is s.heap k b)(hel:∀q∈xs,(tk prog w).is s.heap q.1 q.2)
  (ho:s.heap.get? a=some o) (hd:o.data = .set es ep t)
  (found:∀r i q,xs[i]?=some q->q.1=k->(r=none/\adding=true\/r=some i)->Q (.there r) s)
  (free:∀N,N<10 * SetTable.turns t.mask->(∀i:Nat,t.place[i]?≠some (wk t.mask ((tk prog w).hash k) N))->zew t xs ((tk prog w).hash k) k N->Q (.free (wk t.mask ((tk prog w).hash k) N) false) s) :
  ∀ (fuel n:Nat) (stand:Option SetTable.Probe),stand.getD (t.probeStart ((tk prog w).hash k))=stp t.mask ((tk prog w).hash k) n->10 * SetTable.turns t.mask<n+fuel->n<=10 * SetTable.turns t.mask->zew t xs ((tk prog w).hash k) k n->
   Ag prog w A (setSearchFrom a (.ref b) ((tk prog w).hash k) adding fuel stand) Q E s
 | 0,n,stand,_,h2,h3,_=>by lia
 | fuel+1,n,stand,h1,h2,h3,h4=>by
  unfold setSearchFrom;show ae (bJ ho hd T.fits ?_);dsimp only;rw[show t.gaveWay=false from T.msk.odd];simp only[aP,if_false];rw[h1];obtain⟨N0,hN0,eN0⟩:=T.empty ((tk prog w).hash k)
  have hn0:n<=N0:=by
   rcases Nat.lt_or_ge N0 n with q | q;obtain⟨i,_,e,_⟩:=h4 N0 q;exact absurd e (eN0 i);exact q
  have pass:∀N,n<=N->(∀m,n<=m->m<N->∃i:Nat,t.place[i]?=some (wk t.mask ((tk prog w).hash k) m)/\(es[i]?.map (·.1)).getD 0≠(tk prog w).hash k)->zew t xs ((tk prog w).hash k) k N:=λN hN hh m hm=>by
   rcases Nat.lt_or_ge m n with q | q;exact h4 m q;obtain⟨i,e1,e2⟩:=hh m q hm;obtain⟨q,hq⟩:=T.at' e1;show⟨i,q,e1,hq,λz=>e2 ?_⟩;rw[T.get hq,<- z];rfl
  obtain⟨N,hN,hp,hc⟩:=zhi (t:=t) (hashAt:=λi=>(es[i]?.map (·.1)).getD 0) (h:=(tk prog w).hash k) T.ris T.dm (10 * SetTable.turns t.mask) n ⟨N0,hn0,by lia,eN0⟩
  have hNle:N<=N0:=by
   rcases Nat.lt_or_ge N0 N with q | q;obtain⟨i,e,_⟩:=hp N0 hn0 q;exact absurd e (eN0 i);exact q
  rcases hc with ⟨he,hg⟩ | ⟨i,hi,hh,hg⟩;have hg':t.probe (λi=>(es[i]?.map (·.1)).getD 0) ((tk prog w).hash k) (stp t.mask ((tk prog w).hash k) n)=some (.empty (wk t.mask ((tk prog w).hash k) N) none):=hg;have fin:=free N (by lia) he (pass N hN hp);generalize hm:SetTable.probe t _ _ _=met;have:met=some (.empty (wk t.mask ((tk prog w).hash k) N) none):=hm.symm.trans hg';rw[this];dsimp only;exact ah fin;have hg':t.probe (λi=>(es[i]?.map (·.1)).getD 0) ((tk prog w).hash k) (stp t.mask ((tk prog w).hash k) n)=some (.candidate (wk t.mask ((tk prog w).hash k) N) i (stp t.mask ((tk prog w).hash k) (N+1))):=hg;generalize hm:SetTable.probe t _ _ _=met;have:met=some (.candidate (wk t.mask ((tk prog w).hash k) N) i (stp t.mask ((tk prog w).hash k) (N+1))):=hm.symm.trans hg';rw[this];dsimp only;obtain⟨q,hq⟩:=T.at' hi;have hqe:=T.get hq;have hqk:=hel q (aJ hq);have stl:t.slot (wk t.mask ((tk prog w).hash k) N) = .live i:=zaR T.ris hi
  have core:Ag prog w A (do
    let some (_,y):=es[i]? | unsupported "internal:set-entry"
    let equal <- holding [y] (eqBool y (.ref b))
    let (es',_,t') <- setState a
    if adding&&equal then return .there none
    let some smem:=t'.sameMemory t.moves t.mask | unsupported "set.changed-during-lookup:is-the-new-block-at-the-old-address"
    let still <- match (if smem then t'.slot (wk t.mask ((tk prog w).hash k) N) else .empty) with
     | .live i'=>match es'[i']? with
      | some (_,y')=>do pure (if <- isSame y' y then some i' else none)
      | none=>pure none
     | _=>pure none
    match still with
    | none=>rule "set.search.anew";setSearchFrom a (.ref b) ((tk prog w).hash k) adding fuel none
    | some i'=>if equal then return .there (some i') else setSearchFrom a (.ref b) ((tk prog w).hash k) adding fuel (some (stp t.mask ((tk prog w).hash k) (N+1)))) Q E s:=by
   rw[hqe];dsimp only;show ae (bt ((tk prog w).eqBool hu hqk hk ?_));show ae (bJ ho hd T.fits ?_);dsimp only;by_cases hkk:q.1=k;rw[bi hkk]
   cases adding with
   | true=>
    simp only[Bool.and_self,if_true];exact ah (found none i q hq hkk (.inl ⟨rfl,rfl⟩))
   | false=>
    simp only[Bool.false_and,aP,if_false];have e1:t.sameMemory t.moves t.mask=some true:=by unfold SetTable.sameMemory;simp
    rw[e1];dsimp only;simp only[if_true];rw[stl];dsimp only;rw[hqe];dsimp only;show ae (wpAny_isSame_ref_self (ae (ah ?_)));simp only[if_true];exact ah (found (some i) i q hq hkk (.inr rfl))
   rw[a8 hkk];simp only[Bool.and_false,aP,if_false];have e1:t.sameMemory t.moves t.mask=some true:=by unfold SetTable.sameMemory;simp
   rw[e1];dsimp only;simp only[if_true];rw[stl];dsimp only;rw[hqe];dsimp only;show ae (wpAny_isSame_ref_self (ae (ah ?_)));simp only[if_true];show zfi hu T hk hel ho hd found free fuel (N+1) _ rfl (by lia) (by lia) λm hm=>?_;rcases Nat.lt_succ_iff_lt_or_eq.mp hm with z | z;exact pass N hN hp m z;subst z;exact⟨i,q,hi,hq,hkk⟩
  split;show ae (ztp hk _ (λv hv=>?_) ?_);obtain⟨e,he,rfl⟩:=aD.mp hv;have he':e∈es.toList:=by have:=bT.mp he;exact bT.mpr (Array.mem_filter.mp this).1
  rw[T.eq] at he';obtain⟨q',hq',rfl⟩:=aD.mp he';exact⟨_,_,rfl,hel q' hq'⟩;simp only[aP,if_false];exact core;exact core
end
def zeP {α:Type}(l:List α)(p:Nat)(x:α):List α:=l.take p++x::l.drop p
def zfR {α:Type}{l:List α}{p i:Nat}{x:α}(q:p<=l.length)(h:i<p):(zeP l p x)[i]?=l[i]?:=by unfold zeP;rw[bD (by grind),bZ h]
def zfP{α:Type}{l:List α}{x:α}(q:p<=l.length):(zeP l p x)[p]?=some x:=by
 unfold zeP;right
def zfQ {α:Type}{l:List α}{p i:Nat}{x:α}(q:p<=l.length)(h:p<=i):(zeP l p x)[i+1]?=l[i]?:=by unfold zeP;rw[bp (by grind),bm,show i+1 - min p l.length=(i - p)+1 by lia,dX,fw,show p+(i - p)=i by lia]
def zdz {α:Type}{l:List α}{p:Nat}{x:α}(q:p<=l.length):(zeP l p x).length=l.length+1:=by
 unfold zeP;grind
def zlF {α q:Type}(f:α->q)(l:List α)(p:Nat)(x:α):(zeP l p x).map f=zeP (l.map f) p (f x):=by
 unfold zeP;right
def zjd {α:Type}(l:List α)(p:Nat)(x:α):(zeP l p x).Perm (x::l):=by
 unfold zeP;show List.perm_middle.trans ?_;right
def yi{α:Type}(xs:Array α)(x:α):(SetTable.insertAt xs p x).toList=zeP xs.toList p x:=by
 unfold SetTable.insertAt zeP;rw[bn,bR,Array.toList_extract,Array.toList_extract,List.extract_eq_take_drop,List.extract_eq_take_drop];rw[Nat.sub_zero,dC,aC];congr 1;change x::_=_;congr 1;change []++List.take _ (List.drop p xs.toList)=_;rw[List.nil_append];show bj ?_;right
def zbT {α:Type}(xs:Array α)(i:Nat):xs[i]?=xs.toList[i]?:=by right
def zfS{xs:Array Nat}(B:p<=xs.size)(h:xs[i]?=some v):(SetTable.insertAt xs p j)[if i<p then i else i+1]?=some v:=by
 rw[zbT,yi];rw[zbT] at h;have q:p<=xs.toList.length:=by rw[aK];exact B
 split
 ·rename_i hi;rw[zfR q hi,h]
 ·rename_i hi;rw[zfQ q (by lia),h]
def zay{xs:Array Nat}(I:p<=xs.size)(h:(SetTable.insertAt xs p j)[i]?=some v):(i=p/\v=j)\/(i<p/\xs[i]?=some v)\/∃B,i=B+1/\p<=B/\xs[B]?=some v:=by
 rw[zbT,yi] at h;have F:p<=xs.toList.length:=by rw[aK];exact I
 rcases cK i p with q | q | q;rw[zfR F q,<- zbT] at h;right;subst q;rw[zfP F] at h;right;obtain⟨B,rfl⟩:∃B,i=B+1:=⟨i - 1,by lia⟩;rw[zfQ F (by lia),<- zbT] at h;exact .inr (.inr ⟨B,rfl,by lia,h⟩)
def zhZ(hr:Ris xs)(hn:∀i:Nat,xs[i]?≠some j):Ris (SetTable.insertAt xs (SetTable.below xs j) j):=by
 obtain⟨O,b2,b3⟩:=xQ hr j;intro i I Y h2;have e1:=zfM (xs:=SetTable.insertAt xs (SetTable.below xs j) j) (i:=i) (by lia);have J:=zfM h2;generalize (SetTable.insertAt xs (SetTable.below xs j) j).getD i 0=v at e1;generalize (SetTable.insertAt xs (SetTable.below xs j) j).getD I 0=U at J
 have Z:∀i v,SetTable.below xs j<=i->xs[i]?=some v->j<v:=λi v h e=>by
  obtain⟨a1,a2⟩:=xH e;grind
 have F:∀i v,i<SetTable.below xs j->xs[i]?=some v->v<j:=λi v h e=>by obtain⟨a1,a2⟩:=xH e;have:=b2 i h;lia
 have B:∀i I v U,i<I->xs[i]?=some v->xs[I]?=some U->v<U:=λi I v U h e J=>by
  obtain⟨a1,a2⟩:=xH e;obtain⟨a3,a4⟩:=xH J;have:=hr i I h a3
  omega
 rcases zay O e1 with ⟨rfl,rfl⟩ | ⟨q,e⟩ | ⟨i',rfl,q,e⟩;rcases zay O J with ⟨rfl,rfl⟩ | ⟨q',e'⟩ | ⟨i'',rfl,q',e'⟩;lia;lia;exact Z _ _ q' e';rcases zay O J with ⟨rfl,rfl⟩ | ⟨q',e'⟩ | ⟨i'',rfl,q',e'⟩;exact F _ _ q e;exact B _ _ _ _ Y e e';exact B _ _ _ _ (by lia) e e';rcases zay O J with ⟨rfl,rfl⟩ | ⟨q',e'⟩ | ⟨i'',rfl,q',e'⟩;lia;lia;exact B _ _ _ _ (by lia) e e'
section
variable {prog:Aa}{w:Ab}{t:SetTable}{es:Array (Int×Value)}{xs:List (List Key×Addr)}
def zon:SetTable.has #[] j=false:=rfl
def Tb.put(T:Tb prog w t es xs)(hN:N<10 * SetTable.turns t.mask)(he:∀i:Nat,t.place[i]?≠some (wk t.mask ((tk prog w).hash k) N))(hp:zew t xs ((tk prog w).hash k) k N)(hk:k∉xs.map (·.1))(hf:xs.length+1<=t.mask)(aa:wk t.mask ((tk prog w).hash k) N<=t.mask) :
  ∃O,Tb prog w (t.put (wk t.mask ((tk prog w).hash k) N)).1 (SetTable.insertAt es (t.put (wk t.mask ((tk prog w).hash k) N)).2 ((tk prog w).hash k,.ref b)) O/\O.Perm ((k,b)::xs):=by
 generalize hj:wk t.mask ((tk prog w).hash k) N=j at *;obtain⟨U,b2,b3⟩:=xQ T.ris j;have ab:(t.put j).2=SetTable.below t.place j:=rfl
 have ht:(t.put j).1={ t with place:=SetTable.insertAt t.place (SetTable.below t.place j) j }:=by
  unfold SetTable.put;dsimp only;rw[T.dm,zon];grind
 generalize ac:SetTable.below t.place j=p at *;have F:p<=xs.length:=by rw[<- T.sz];exact U
 have B:∀ {i v:Nat},t.place[i]?=some v->∃I:Nat,(SetTable.insertAt t.place p j)[I]?=some v:=λ{i v} h=>⟨_,zfS U h⟩;have Y:=zjd xs p (k,b);show⟨zeP xs p (k,b),?_,Y⟩;rw[ab,ht];show⟨?_,?_,T.dm,?_,?_,?_,T.msk,?_,T.plain,T.led,?_⟩;rw[yi,T.eq,zlF];rw[(Y.map (·.1)).nodup_iff,aB,cZ];exact⟨hk,T.nd⟩;have:=zhZ T.ris he;right;intro i v e;rcases zay U e with ⟨_,rfl⟩ | ⟨_,e'⟩ | ⟨_,_,_,e'⟩;exact aa;exact T.le _ _ e';exact T.le _ _ e';change (SetTable.insertAt t.place p j).size=_;rw[<- aK,yi,zdz (by right),zdz F,aK,T.sz];change (zeP xs p (k,b)).length<=t.mask;rw[zdz F];exact hf;intro i q J;rcases cK i p with z | z | z;rw[zfR F z] at J;obtain⟨n,h1,h2,h3⟩:=T.reach i q J;show⟨n,h1,?_,λm Z=>?_⟩;have:=zfS (j:=j) U h2;right;obtain⟨I,e⟩:=h3 m Z;exact B e;subst z;rw[zfP F] at J;cases J;show⟨N,hN,?_,λm Z=>?_⟩;change (SetTable.insertAt t.place i j)[i]?=_;rw[zbT,yi,zfP (by right)];right;obtain⟨I,q',e,_⟩:=hp m Z;exact B e;obtain⟨I,rfl⟩:∃I,i=I+1:=⟨i - 1,by lia⟩;rw[zfQ F (by lia)] at J;obtain⟨n,h1,h2,h3⟩:=T.reach I q J;show⟨n,h1,?_,λm Z=>?_⟩;have:=zfS (j:=j) U h2;rw[if_neg (by lia)] at this;exact this;obtain⟨I,e⟩:=h3 m Z;exact B e
end
def zdQ:∀ (n:Nat) {l:AR},l.Nodup->(∀x∈l,x<n)->l.length<=n
 | 0,l,_,h=>by
  cases l with
  | nil=>exact ak _
  | cons a _=>exact absurd (h a am) (c9 _)
 | n+1,l,hn,h=>by
  by_cases B:n∈l
  have h1:=zdQ n (hn.erase n) λx q=>by
   grind
  grind
  have:=zdQ n hn λx q=>by
   grind
  lia
def zd2 {α:Type}[BEq α][LawfulBEq α]:∀ {l l':List α},l.Nodup->l'.Nodup->(∀x,x∈l↔x∈l')->l.Perm l'
 | [],l',_,_,h=>by
  cases l' with
  | nil=>exact .nil
  | cons a _=>exact absurd ((h a).mpr am) (by simp)
 | a::l,l',hn,q,h=>by grind
def St0 (q:Nat)(h:Int)(K:Nat):SetTable.Probe:=⟨(lp q h K).1,SetTable.runEnd q (lp q h K).1 - (lp q h K).1,(lp q h K).1,(lp q h K).2,none⟩
def zjB {q:Nat}{h:Int}{T K:Nat}(e:stp q h T=St0 q h K):stp q h (T+(SetTable.runEnd q (lp q h K).1 - (lp q h K).1)+1)=St0 q h (K+1):=by change (tm q).advance (stp q h (T+_))=_;rw[zej q h e _ (ak _),zdp q _ (Nat.sub_self _)];rfl
def zrA (q:Nat)(h:Int):∀K,(lp q h K).1<=q
 | 0=>da (fO _ (fD _))
 | K+1=>da (fO _ (fD _))
def zct {q i:Nat}(h:i<=q):SetTable.runEnd q i<=q/\i<=SetTable.runEnd q i:=by unfold SetTable.runEnd;split <;> lia
def zeO{h:Int}{owner:Array (Option Nat)}(hs:owner.size=q+1):∀ (B K T:Nat),T<=10 * K->stp q h T=St0 q h K->(∀m,m<T->∃F,owner[wk q h m]?=some (some F))->
  (∃K',K<=K'/\K'<K+B/\owner[(lp q h K').1]?=some none)->
  ∃N,SetTable.layClean.free q owner B (lp q h K).1 (lp q h K).2=some (wk q h N)/\N<10 * (K+B)/\wk q h N<=q/\owner[wk q h N]?=some none/\∀m,m<N->∃F,owner[wk q h m]?=some (some F)
 | 0,K,T,_,_,_,⟨K',h1,h2,_⟩=>by lia
 | B+1,K,T,hT,eT,ab,⟨K',h1,h2,h3⟩=>by
  have an:=zrA q h K;obtain⟨r1,r2⟩:=zct an;have r9:=znH q (lp q h K).1;have I:∀k,k<=SetTable.runEnd q (lp q h K).1 - (lp q h K).1->wk q h (T+k)=(lp q h K).1+k:=λk Y=>by change (stp q h (T+k)).j=_;rw[zej q h eT k Y]
  have inR:∀k,k<=SetTable.runEnd q (lp q h K).1 - (lp q h K).1->∃u,owner[(lp q h K).1+k]?=some u/\owner.getD ((lp q h K).1+k) (some 0)=u:=λk Y=>by
   have as:(lp q h K).1+k<owner.size:=by lia
   right
  change ∃N,(match (List.range (SetTable.runEnd q (lp q h K).1+1 - (lp q h K).1)).find? λk=>(owner.getD ((lp q h K).1+k) (some 0)).isNone with
   | some k=>some ((lp q h K).1+k)
   | none=>SetTable.layClean.free q owner B (lp q h (K+1)).1 (lp q h (K+1)).2)=some (wk q h N)/\_
  cases hf:(List.range (SetTable.runEnd q (lp q h K).1+1 - (lp q h K).1)).find? λk=>(owner.getD ((lp q h K).1+k) (some 0)).isNone with
  | some k=>
   obtain⟨hp,i,hi,ac,ad⟩:=List.find?_eq_some_iff_getElem.mp hf;rw[cx] at ac;subst ac;rw[aE] at hi;have Y:i<=SetTable.runEnd q (lp q h K).1 - (lp q h K).1:=by lia
   obtain⟨u,J,O⟩:=inR i Y;rw[O] at hp
   have ap:u=none:=by
    cases u with
    | none=>rfl
    | some z=>exact absurd hp (by simp)
   subst ap;show⟨T+i,by rw[I i Y],by lia,by rw[I i Y];lia,by rw[I i Y];exact J,λm hm=>?_⟩;by_cases aa:m<T;exact ab m aa;obtain⟨U,rfl⟩:∃U,m=T+U:=⟨m - T,by lia⟩;obtain⟨u,J,O⟩:=inR U (by lia);have:=ad U (by lia);rw[cx,O] at this;rw[I U (by lia),J]
   cases u with
   | none=>simp at this
   | some F=>exact⟨F,rfl⟩
  | none=>
   have ag:=List.find?_eq_none.mp hf
   have Z:∀k,k<=SetTable.runEnd q (lp q h K).1 - (lp q h K).1->∃F,owner[(lp q h K).1+k]?=some (some F):=λk Y=>by
    obtain⟨u,J,O⟩:=inR k Y;have:=ag k (aQ.mpr (by lia));rw[O] at this
    cases u with
    | none=>simp at this
    | some F=>exact⟨F,J⟩
   have a0:K≠K':=λz=>by
    subst z;obtain⟨F,e⟩:=Z 0 (aM _);grind
   have al:∀m,m<T+(SetTable.runEnd q (lp q h K).1 - (lp q h K).1)+1->∃F,owner[wk q h m]?=some (some F):=λm hm=>by
    by_cases aa:m<T;exact ab m aa;obtain⟨U,rfl⟩:∃U,m=T+U:=⟨m - T,by lia⟩;rw[I U (by lia)];exact Z U (by lia)
   obtain⟨N,a1,a2,a3⟩:=zeO hs B (K+1) _ (by lia) (zjB eT) al ⟨K',by lia,by lia,h3⟩;exact⟨N,a1,by lia,a3⟩
structure Own (mask:Nat)(hs:AG)(n:Nat)(owner:Array (Option Nat)):Prop where
 size:owner.size=mask+1
 lt:∀ (j i:Nat),owner[j]?=some (some i)->i<n
 inj:∀ (j j' i:Nat),owner[j]?=some (some i)->owner[j']?=some (some i)->j=j'
 reach:∀ (i:Nat) (h:Int),i<n->hs[i]?=some h->∃N,N<10 * SetTable.turns mask/\owner[wk mask h N]?=some (some i)/\∀m,m<N->∃i',owner[wk mask h m]?=some (some i')
def Own.gap{hs:AG}(o:Own q hs n owner)(hn:n<=q):∃j,j<=q/\owner[j]?=some none:=by
 show bX λJ=>?_
 have all:∀j,j<q+1->∃i,owner[j]?=some (some i):=λj F=>by
  have O:j<owner.size:=by rw[o.size];exact F
  cases e:owner[j] with
  | none=>exact absurd ⟨j,da F,by right⟩ J
  | some i=>exact⟨i,by right⟩
 have U:=zdQ n (l:=(List.range (q+1)).map λj=>((owner[j]?).join).getD 0) ?_ ?_;rw[af,aE] at U;lia;show bS.mpr (List.Pairwise.imp_of_mem ?_ dF);intro a b Y Z I e;show I ?_;obtain⟨i,hi⟩:=all a (aQ.mp Y);obtain⟨i',B⟩:=all b (aQ.mp Z);rw[hi,B] at e;have:i=i':=e;subst this;exact o.inj _ _ _ hi B;intro x hx;obtain⟨j,F,rfl⟩:=aD.mp hx;obtain⟨i,hi⟩:=all j (aQ.mp F);rw[hi];exact o.lt _ _ hi
def Own.step{hs:AG}{h:Int}(o:Own B hs n owner)(hr:Ring (B+1))(hn:n<=B)(hh:hs[n]?=some h) :
  ∃j,SetTable.layClean.free B owner (SetTable.turns B) (SetTable.bits h % (B+1)) (SetTable.bits h)=some j/\Own B hs (n+1) (owner.setIfInBounds j (some n)):=by
 obtain⟨g,hg,eg⟩:=o.gap hn;have hb:(lp B h 13).1<B+1:=fP (zrA B h 13);obtain⟨k,hk,e⟩:=hr.reach hb (fP hg);obtain⟨N,h1,h2,h3,h4,h5⟩:=zeO o.size (SetTable.turns B) 0 0 (ak _) (h:=h) rfl (λm Y=>absurd Y (c9 _)) ⟨13+k,aM _,by unfold SetTable.turns;lia,by rw[zjH,e];exact eg⟩;have hj:wk B h N<owner.size:=by rw[o.size];lia
 have I:(owner.setIfInBounds (wk B h N) (some n))[wk B h N]?=some (some n):=by right
 have F:∀j,j≠wk B h N->(owner.setIfInBounds (wk B h N) (some n))[j]?=owner[j]?:=λj aa=>by rw[Array.getElem?_setIfInBounds];rw[if_neg (λz=>aa z.symm)]
 have J:∀j i,owner[j]?=some (some i)->(owner.setIfInBounds (wk B h N) (some n))[j]?=some (some i):=λj i e=>by
  by_cases q:j=wk B h N;rw[q,h4] at e;cases e;rw[F j q];exact e
 show⟨wk B h N,h1,by simp[o.size],λj i e=>?_,λj j' i e U=>?_,λi h' hi O=>?_⟩;by_cases q:j=wk B h N;right;rw[F j q] at e;have:=o.lt _ _ e;lia;by_cases q:j=wk B h N;subst q;rw[I] at e;cases e;by_cases Z:j'=wk B h N;exact Z.symm;rw[F j' Z] at U;have:=o.lt _ _ U;lia;rw[F j q] at e;by_cases Z:j'=wk B h N;subst Z;rw[I] at U;cases U;have:=o.lt _ _ e;lia;rw[F j' Z] at U;exact o.inj _ _ _ e U;by_cases q:i=n;subst q;rw[hh] at O;cases O;show⟨N,by lia,I,λm Y=>?_⟩;obtain⟨i',e⟩:=h5 m Y;exact⟨i',J _ _ e⟩;obtain⟨M,m1,m2,m3⟩:=o.reach i h' (by lia) O;show⟨M,m1,J _ _ m2,λm Y=>?_⟩;obtain⟨i',e⟩:=m3 m Y;exact⟨i',J _ _ e⟩
def zmd (q:Nat)(hs:AG):Own q hs 0 (Array.replicate (q+1) none):=by
 have B:∀j i,(Array.replicate (q+1) (none:Option Nat))[j]?≠some (some i):=λj i e=>by
  rw[Array.getElem?_replicate] at e;grind
 exact⟨by simp,λj i e=>absurd e (B j i),λj F i e=>absurd e (B j i),λi h hi=>absurd hi (c9 _)⟩
def zgP(I:Ring (q+1)):∀ (zy pre:AG) (owner:Array (Option Nat)),(pre++zy).length<=q->Own q (pre++zy) pre.length owner->
  ∃B,zy.foldl (λ(acc:Option (Array (Option Nat)×Nat)) h=>acc.bind λx=>(SetTable.layClean.free q x.1 (SetTable.turns q) (SetTable.bits h % (q+1)) (SetTable.bits h)).bind λj=>some (x.1.setIfInBounds j (some x.2),x.2+1)) (some (owner,pre.length))=some (B,(pre++zy).length)/\Own q (pre++zy) (pre++zy).length B
 | [],pre,owner,_,o=>by right
 | h::zy,pre,owner,F,o=>by
  have O:pre.length+(zy.length+1)<=q:=by rw[ao,aO] at F;exact F
  obtain⟨j,e,o'⟩:=o.step I (by lia) (h:=h) (by simp);have J:pre++h::zy=(pre++[h])++zy:=by rw[aC];rfl
  have U:pre.length+1=(pre++[h]).length:=by rw[ao];rfl
  rw[J,U] at o';obtain⟨B,Y,Z⟩:=zgP I zy (pre++[h]) _ (by rw[<- J];exact F) o';grind
def zeY(B:Ring (q+1))(hs:Array Int)(F:hs.size<=q):∃owner,SetTable.layClean q hs=some owner/\Own q hs.toList hs.size owner:=by
 obtain⟨owner,h1,h2⟩:=zgP B hs.toList [] (Array.replicate (q+1) none) (by right) (zmd q _);rw[List.nil_append,aK] at h2;show⟨owner,?_,h2⟩;unfold SetTable.layClean;right
def yU (q:Nat)(owner:Array (Option Nat)):List (Nat×Nat):=(List.range (q+1)).filterMap λj=>(owner.getD j none).map (j,·)
def xw{hs:AG}(o:Own q hs n owner):(j,i)∈yU q owner↔owner[j]?=some (some i):=by
 unfold yU;rw[dh];constructor;rintro⟨O,F,e⟩;obtain⟨U,I,J⟩:=aL.mp e;cases J;have B:j<owner.size:=by rw[o.size];exact aQ.mp F
 right;intro e;obtain⟨B,I⟩:=cP.mp e;show⟨j,aQ.mpr (by rw[<- o.size];exact B),?_⟩;right
def zjE (q:Nat)(owner:Array (Option Nat)):(yU q owner).Pairwise λa b=>a.1<b.1:=by
 unfold yU;show List.pairwise_filterMap.mpr ((List.pairwise_lt_range).imp ?_);right
def zjD{hs:AG}(o:Own q hs hs.length owner):((yU q owner).map (·.2)).Perm (List.range hs.length):=by
 show zd2 ?_ dF λi=>?_;show bS.mpr (List.Pairwise.imp_of_mem ?_ (zjE q owner));intro a b B F I e;have h1:=(xw o).mp B;have h2:=(xw o).mp F;rw[e] at h1;have:=o.inj _ _ _ h1 h2;lia;rw[aQ];constructor;intro h;obtain⟨⟨j,J⟩,h1,rfl⟩:=aD.mp h;exact o.lt _ _ ((xw o).mp h1);intro h;obtain⟨N,_,e,_⟩:=o.reach i hs[i] h (ax h);exact aD.mpr ⟨(_,i),(xw o).mpr e,rfl⟩
def zcq {α:Type}(l:List α):(List.range l.length).filterMap (λi=>l[i]?)=l:=by
 have:∀ (n:Nat) (l:List α),n=l.length->(List.range n).filterMap (λi=>l[i]?)=l:=by
  intro n
  induction n with
  | zero=>intro l h;cases l with | nil=>rfl | cons _ _=>simp at h
  | succ n q=>
   intro l h
   cases l with
   | nil=>simp at h
   | cons a l=>
    rw[List.range_succ_eq_map,ci];change a::_=_;rw[fq];congr 1;exact q l (by simpa using h)
 exact this _ l rfl
section
variable {prog:Aa}{w:Ab}{t:SetTable}{es:Array (Int×Value)}{xs:List (List Key×Addr)}
def Tb.laid(T:Tb prog w t es xs)(hm:zai B)(hl:xs.length<=B)(O Y:Nat) :
  ∃t' F aa,SetTable.laid B O Y t.led true (es.map (·.1))=some (t',F)/\(F.filterMap (es[·]?)).size=es.size/\Tb prog w t' (F.filterMap (es[·]?)) aa/\aa.Perm xs/\t'.mask=B:=by
 obtain⟨owner,e,o⟩:=zeY hm.ring (es.map (·.1)) (by rw[Array.size_map,T.size];exact hl);have hh:(es.map (·.1)).toList=xs.map λq=>(tk prog w).hash q.1:=by rw[gc,T.eq,aF];rfl
 have hsz:(es.map (·.1)).size=xs.length:=by rw[Array.size_map,T.size]
 rw[hh,hsz] at o;have o':Own B (xs.map λq=>(tk prog w).hash q.1) (xs.map λq=>(tk prog w).hash q.1).length owner:=by rw[af];exact o
 have hp:=zjD o';rw[af] at hp;have ab:((((yU B owner).map (·.2)).toArray).filterMap (es[·]?)).toList=((yU B owner).map (·.2)).filterMap (es.toList[·]?):=by right
 have J:(((yU B owner).map (·.2)).filterMap (xs[·]?)).Perm xs:=by have:=hp.filterMap (xs[·]?);rw[zcq] at this;exact this
 have ac:((yU B owner).map (·.2)).filterMap (es.toList[·]?)=(((yU B owner).map (·.2)).filterMap (xs[·]?)).map λq=>((tk prog w).hash q.1,Value.ref q.2):=by rw[List.map_filterMap];congr 1;funext i;rw[T.eq,aN]
 have Z:∀ {c:Nat} {q:List Key×Addr},(((yU B owner).map (·.2)).filterMap (xs[·]?))[c]?=some q->∃j i,(yU B owner)[c]?=some (j,i)/\xs[i]?=some q:=by
  have an:∀ (l:List (Nat×Nat)),(∀p∈l,p.2<xs.length)->∀ {c:Nat} {q:List Key×Addr},((l.map (·.2)).filterMap (xs[·]?))[c]?=some q->∃j i,l[c]?=some (j,i)/\xs[i]?=some q:=by
   intro l
   induction l with
   | nil=>intro _ c q h;simp at h
   | cons p l ih=>
    intro ad c q h;have ap:=ad p am;rw[aB,ci,ax ap] at h
    cases c with
    | zero=>
     show⟨p.1,p.2,rfl,?_⟩;right
    | succ c=>exact ih (λp' as=>ad p' (ar _ as)) (by simpa using h)
  intro c q h;show an _ (λp hp=>?_) h;obtain⟨j,i⟩:=p;exact o.lt _ _ ((xw o).mp hp)
 have I:∀ {c j i:Nat},(yU B owner)[c]?=some (j,i)->(((yU B owner).map (·.1)).toArray)[c]?=some j:=λ{c j i} h=>by right
 show⟨_,_,((yU B owner).map (·.2)).filterMap (xs[·]?),by unfold SetTable.laid;rw[e];rfl,?_,⟨?_,?_,rfl,?_,?_,?_,hm,?_,rfl,by exact T.led,?_⟩,J,rfl⟩;change ((((yU B owner).map (·.2)).toArray).filterMap (es[·]?)).size=es.size;rw[<- aK,ab,ac,af,J.length_eq,T.size];exact ab.trans ac;rw[(J.map (·.1)).nodup_iff];exact T.nd;intro i j ag hj
 have al:j<(yU B owner).length:=by
  have:(((yU B owner).map (·.1)).toArray).size=(yU B owner).length:=by simp
  rw[<- this];exact hj
 have a0:i<(yU B owner).length:=Nat.lt_trans ag al;have:=bE.mp (zjE B owner) i j a0 al ag;change (((yU B owner).map (·.1)).toArray).getD i 0<(((yU B owner).map (·.1)).toArray).getD j 0;right;intro c j hc;have U:((yU B owner).map (·.1))[c]?=some j:=by rw[zbT] at hc;exact hc
 rw[aN] at U;obtain⟨⟨j',i'⟩,h1,rfl⟩:=aL.mp U;have h2:=(xw o).mp (aJ h1);have:=(cP.mp h2).1;rw[o.size] at this;change j'<=B;lia;change (((yU B owner).map (·.1)).toArray).size=_;have h1:(((yU B owner).map (·.1)).toArray).size=(yU B owner).length:=by simp
 rw[h1,J.length_eq];have:=hp.length_eq;grind;rw[J.length_eq];exact hl;intro c q hq;obtain⟨j,i,h1,h2⟩:=Z hq;have hi:=(aj.mp h2).1;obtain⟨N,n1,n2,n3⟩:=o.reach i ((tk prog w).hash q.1) hi (by right);have hj:=o.inj _ _ _ ((xw o).mp (aJ h1)) n2;subst hj;show⟨N,n1,I h1,λm a1=>?_⟩;obtain⟨i',e'⟩:=n3 m a1;obtain⟨c',U,a2⟩:=bU.mp ((xw o).mpr e');exact⟨c',I (by rw[ax U,a2])⟩
variable {A:Ae}{E:AA}{s:AZ}
def zbS (prog:Aa)(w:Ab)(h:Heap)(a:Addr)(xs:List (List Key×Addr)):Prop:=∃o es q t,h.get? a=some o/\o.ExactSet/\o.data = .set es q t/\Tb prog w t es xs/\xs.length * 5<t.mask * 3
def zbx{ns:AG}(Z:(tk prog w).is s.heap (ns.map Sum.inl) b)(h:Q true s):Ag prog w A (hashByValue 8 (.ref b)) Q E s:=by
 have I:IsTupleKey (zS prog w) s.heap (ns.map Sum.inl) b:=Z;have hT:=I.typeIs;obtain⟨o,items,n,ho,_,hd,hi⟩:=I
 have B:∀ {ns:AG} {vs:AN},ItemsAre (zS prog w) (ns.map Sum.inl) vs->∀v∈vs,∃i t,v=Value.int i t:=by
  intro ns
  induction ns with
  | nil=>intro vs h v J;cases h;simp at J
  | cons n ns ih=>
   intro vs h v J
   cases h with
   | cons h1 h2=>
    rcases aG.mp J with rfl | J
    ·have O:zf0 (Sum.inl n) v=true:=h1;rcases zR O with ⟨i,t,_,e⟩ | ⟨x,t,z,_⟩
     all_goals right
    exact ih h2 v J
 unfold hashByValue;show ae (eR hT F.slot_tuple_hash.lookup ?_);dsimp only;show ae (cI ho hd ?_);show ae ?_;change wpAny _ _ (forIn items _ _) _ _ s;rw[<- Array.forIn_toList];show gd _ (λzy r s'=>r.1=none/\s'=s/\∀v∈zy,∃i t,v=Value.int i t) _ ?_ ?_ _ _ ⟨rfl,rfl,B hi⟩;rintro v zy r s' ⟨U,rfl,q⟩;obtain⟨i,t,rfl⟩:=q v am;have e:hashByValue 7 (Value.int i t)=pure true:=rfl;rw[e];show ae (ah ?_);simp only[fY,aP,if_false];exact ah ⟨rfl,rfl,λu Y=>q u (ar _ Y)⟩;rintro⟨r1,r2⟩ s' ⟨U,rfl,_⟩;simp only at U;subst U;exact ah h
def zde{h:Heap}{a:Addr}{o:Obj}{es:Array (Int×Value)}{es':Array (Int×Value)}(F:h.get? a=some o)(B:o.data = .set es q t) :
  (h.update a (Obj.putSet es' t')).get? a=some { o with data:=.set es' (q+1) t' }:=by
 have:=bC (Obj.putSet es' t') F (by rw[putSet_of es' t' B];rfl);rw[putSet_of es' t' B] at this;exact this
def zmx(T:Tb prog w t es xs)(ho:s.heap.get? a=some o)(hx:o.ExactSet)(hd:o.data = .set es ep t)(hw:SetTable.sizeAbove wanted=mask+1)(hm:zai mask)(hl:xs.length * 5<mask * 3)(h:∀h' xs',Heap.SameBut a s.heap h'->zbS prog w h' a xs'->xs'.Perm xs->Q () { s with heap:=h' }):Ag prog w A (setRelay a wanted) Q E s:=by
 unfold setRelay;show ae (bJ ho hd T.fits ?_);dsimp only;have:=hm.le;rw[if_neg (by rw[hw,b8];lia)];obtain⟨t',order,xs',e,hsz,T',hp,hmk⟩:=T.laid hm (by lia) t.finger (t.movedTo mask);have e':t.relaid (es.map (·.1)) wanted=some (t',order):=by unfold SetTable.relaid;rw[hw,T.plain];exact e
 have core:∀ {R:Array (Int×Value)×SetTable->AZ->Prop},R (order.filterMap (es[·]?),t') s->Ag prog w A (do
   let some (t,order):=t.relaid (es.map (·.1)) wanted | unsupported "internal:set-table-without-room"
   let es':=order.filterMap (es[·]?)
   if es'.size != es.size then unsupported "internal:set-table-lost-an-element"
   pure (es',t)) R E s:=λ{R} hR=>by
  rw[e'];dsimp only;rw[hsz];simp only[fN,aP,if_false]
  first | exact ah hR | exact ae (by grind)
 show ae (core ?_);show wpAny_storeSet_of ho hd ?_ (by rw[hsz,T.size,b8];lia);show h _ xs' (bw _ a _) ⟨_,_,_,t',zde ho hd,hx,rfl,T',?_⟩ hp;rw[hp.length_eq,hmk];exact hl
def Tb.out(T:Tb prog w t es xs)(Z:N<10 * SetTable.turns t.mask)(J:∀i:Nat,t.place[i]?≠some (wk t.mask ((tk prog w).hash k) N))(O:zew t xs ((tk prog w).hash k) k N):k∉xs.map (·.1):=λz=>by
 obtain⟨q,U,B⟩:=aD.mp z;obtain⟨i,hi⟩:=List.mem_iff_getElem?.mp U;obtain⟨n,h1,h2,I⟩:=T.reach i q hi;rw[B] at h2 I;rcases cK N n with z | z | z;obtain⟨F,e⟩:=I N z;exact J F e;right;obtain⟨F,q',Y,e2,e3⟩:=O n z
 have:F=i:=by
  have a1:=zaR T.ris Y;have a2:=zaR T.ris h2;right
 grind
def zqK{ns:AG}(hu:A.units<cLine)(S:zbS prog w s.heap a xs)(hk:(tk prog w).is s.heap (ns.map Sum.inl) b)(ap:∀q∈xs,(tk prog w).is s.heap q.1 q.2)(hn:xs.length<300)(h:∀r h' n Y,Heap.SameBut a s.heap h'->zbS prog w h' a Y->((ns.map Sum.inl)∈xs.map (·.1)->Y=xs)->((ns.map Sum.inl)∉xs.map (·.1)->Y.Perm ((ns.map Sum.inl,b)::xs))->Q r { s with heap:=h',toks:=n }) :
  Ag prog w A (setAdd a (.ref b)) Q E s:=by
 obtain⟨o,es,ep,t,ho,hx,hd,T,B⟩:=S;unfold setAdd;show bt (ae ((tk prog w).pyHash hu hk ?_));unfold setAddHashed;show bt ?_;rw[show (100000:Nat)=99999+1 from rfl];unfold setAddHashedIn;show ae (bJ (s:={ s with toks:=s.toks+(tk prog w).draws (ns.map Sum.inl) }) ho hd T.fits ?_);dsimp only;rw[show byScan (.ref b) es=false from rfl];simp only[aP,if_false];unfold setSearch;have hm:=T.msk.le;have a5:t.fill=xs.length:=by unfold SetTable.fill;rw[T.sz,T.dm];rfl
 show ae (zfi (s:={ s with toks:=s.toks+(tk prog w).draws (ns.map Sum.inl) }) hu T hk ap ho hd ?found ?free 100000 0 none rfl (by unfold SetTable.turns;lia) (aM _) (λm hm=>absurd hm (c9 _)))
 case found=>
  intro r i q hq as _;dsimp only;have ac:(ns.map Sum.inl)∈xs.map (·.1):=aD.mpr ⟨q,aJ hq,as⟩;exact ah (h false s.heap _ xs (Heap.SameBut.refl a s.heap) ⟨o,es,ep,t,ho,hx,hd,T,B⟩ (λ_=>rfl) (λz=>absurd ac z))
 case free=>
  intro N hN he hp;have Z:=T.out hN he hp;dsimp only;show ae (bJ (s:={ s with toks:=s.toks+(tk prog w).draws (ns.map Sum.inl) }) ho hd T.fits ?_);dsimp only
  have ad:wk t.mask ((tk prog w).hash (ns.map Sum.inl)) N<=t.mask:=by
   have:∀ (h:Int) (n:Nat),wk t.mask h n<=t.mask/\(stp t.mask h n).j+(stp t.mask h n).more<=t.mask:=by
    intro h n
    induction n with
    | zero=>
     have h0:SetTable.bits h % (t.mask+1)<=t.mask:=da (fO _ (fD _));obtain⟨r1,r2⟩:=zct h0;show⟨h0,?_⟩;change SetTable.bits h % (t.mask+1)+(SetTable.runEnd t.mask (SetTable.bits h % (t.mask+1)) - SetTable.bits h % (t.mask+1))<=t.mask;lia
    | succ n ih=>
     change ((tm t.mask).advance (stp t.mask h n)).j<=t.mask/\((tm t.mask).advance (stp t.mask h n)).j+((tm t.mask).advance (stp t.mask h n)).more<=t.mask;by_cases a0:0<(stp t.mask h n).more;rw[zgx _ _ a0];grind;rw[zdp _ _ (by lia)];have h0:((stp t.mask h n).i * 5+1+(stp t.mask h n).perturb / 32) % (t.mask+1)<=t.mask:=da (fO _ (fD _));obtain⟨r1,r2⟩:=zct h0;grind
   exact (this _ _).1
  obtain⟨a1,T1,aa⟩:=T.put (b:=b) hN he hp Z (by lia) ad;generalize ag:t.put (wk t.mask ((tk prog w).hash (ns.map Sum.inl)) N)=tp at T1;obtain⟨J,p⟩:=tp;dsimp only at T1 ⊢
  have al:J.mask=t.mask:=by
   have:J=(t.put (wk t.mask ((tk prog w).hash (ns.map Sum.inl)) N)).1:=by rw[ag]
   rw[this];rfl
  rw[T1.plain];simp only[if_true];show ae (zbx (s:={ s with toks:=s.toks+(tk prog w).draws (ns.map Sum.inl) }) hk ?_);simp only[if_true];have ab:=aa.length_eq;rw[aO] at ab;show ae (wpAny_storeSet_of (s:={ s with toks:=s.toks+(tk prog w).draws (ns.map Sum.inl) }) ho hd ?_ (by rw[T1.size,b8];lia));have g1:=zde (es':=SetTable.insertAt es p ((tk prog w).hash (ns.map Sum.inl),.ref b)) (t':=J) ho hd;have an:=bw s.heap a (Obj.putSet (SetTable.insertAt es p ((tk prog w).hash (ns.map Sum.inl),.ref b)) J);simp only[Bool.not_false,Bool.true_and];have O:J.fill=xs.length+1:=by unfold SetTable.fill;rw[T1.sz,T1.dm,ab];rfl
  by_cases U:J.tooFull=true
  ·rw[if_pos U];unfold SetTable.tooFull at U;rw[O,al] at U;have I:=bG U;rw[T.size]
   have next:∃F,SetTable.sizeAbove (SetTable.grown (xs.length+1))=F+1/\zai F/\(xs.length+1) * 5<F * 3:=by
    rcases T.msk with e | e | e | e;rw[e] at I B;have:xs.length=4:=by lia
    rw[this];exact⟨31,by ext,.inr (.inl rfl),by lia⟩;rw[e] at I B;have:xs.length=18:=by lia
    rw[this];exact⟨127,by ext,.inr (.inr (.inl rfl)),by lia⟩;rw[e] at I B;have:xs.length=76:=by lia
    rw[this];exact⟨511,by ext,.inr (.inr (.inr rfl)),by lia⟩;rw[e] at I B;lia
   obtain⟨F,m1,m2,m3⟩:=next;show ae (zmx (s:={ s with heap:=s.heap.update a (Obj.putSet (SetTable.insertAt es p ((tk prog w).hash (ns.map Sum.inl),.ref b)) J),toks:=s.toks+(tk prog w).draws (ns.map Sum.inl) }) T1 g1 hx rfl m1 m2 (by rw[ab];exact m3) λh' a2 a3 S2 a4=>?_);exact ah (h true h' _ a2 (an.trans a3) S2 (λz=>absurd z Z) λ_=>a4.trans aa)
  rw[if_neg U];unfold SetTable.tooFull at U;rw[O,al] at U;have I:¬ ((xs.length+1) * 5 ≥ t.mask * 3):=λz=>U (bi z);show ah (h true _ _ a1 an ⟨_,_,_,J,g1,hx,rfl,T1,?_⟩ (λz=>absurd z Z) λ_=>aa);right
end
open PySem.W
def zO:Slot "set_iterator" "__next__" "set_iterator.__next__" :=
 .of (owner := "set_iterator") (n := "__next__") (by rw[typeLookup_type,builtinLookup_eq_fast];kernel_rfl) (by decide +kernel) (by decide +kernel) (by decide +kernel)
  (by first | exact .inl (by decide +kernel) | exact .inr (by decide +kernel)) (by rw[isSubtype_type];kernel_rfl)
def x9:Slot "set_iterator" "__iter__" "set_iterator.__iter__" :=
 .of (owner := "set_iterator") (n := "__iter__") (by rw[typeLookup_type,builtinLookup_eq_fast];kernel_rfl) (by decide +kernel) (by decide +kernel) (by decide +kernel)
  (by first | exact .inl (by decide +kernel) | exact .inr (by decide +kernel)) (by rw[isSubtype_type];kernel_rfl)
def xo:entryFor table "set_iterator.__next__" = some Builtin.«set_iterator.__next__»:=entryFor_of_tree (by kernel_rfl)
def zaw:entryFor table "set_iterator.__iter__" = some Builtin.«dict_keyiterator.__iter__»:=entryFor_alias (id' := "dict_keyiterator.__iter__") (by kernel_rfl) rfl (by decide +kernel) (by kernel_rfl)
def zcE:entryFor table "set.__iter__" = some Builtin.«frozenset.__iter__»:=entryFor_alias (id' := "frozenset.__iter__") (by kernel_rfl) rfl (by decide +kernel) (by kernel_rfl)
def xP (a:Value):argsOk "set_iterator.__next__" ⟨[a],[]⟩:=by unfold argsOk;kernel_rfl
def za1 (a:Value):argsOk "set_iterator.__iter__" ⟨[a],[]⟩:=by unfold argsOk;kernel_rfl
def zi9 {α:Type}(next:Nat->Nat):∀ (n k:Nat) (left:List α) (out:Array α),left.length=n->(pickOrder.go next n k left out).toList.Perm (out.toList++left)
 | 0,k,left,out,h=>by
  have:left=[]:=aY h;subst this;change out.toList.Perm (out.toList++[]);right
 | n+1,k,left,out,h=>by
  have q:next k % left.length<left.length:=fO _ (by lia)
  change (match left[next k % left.length]? with
   | some x=>pickOrder.go next n (k+1) (left.eraseIdx (next k % left.length)) (out.push x)
   | none=>out).toList.Perm _
  rw[ax q];show (zi9 next n (k+1) _ _ (by grind)).trans ?_;rw[bR,aC];show eu _ ?_;have e:left=left.take (next k % left.length)++left[next k % left.length]::left.drop (next k % left.length+1):=by right
  rw[List.eraseIdx_eq_take_drop_succ];show List.Perm.trans ?_ (List.Perm.of_eq e.symm);rw[List.singleton_append];exact List.perm_middle.symm
def zfa {α:Type}(next:Nat->Nat)(xs:Array α):(pickOrder next xs).toList.Perm xs.toList:=by
 change (pickOrder.go next xs.size 0 xs.toList #[]).toList.Perm _;have:=zi9 next xs.size 0 xs.toList #[] (aK);grind
section
variable {prog:Aa}{w:Ab}{t:SetTable}{es:Array (Int×Value)}{xs:List (List Key×Addr)}{A:Ae}{E:AA}{s:AZ}
def zmc (w:Ab)(a:Addr)(q:Nat)(es:Array (Int×Value)):Array (Int×Value):=if w.params.followText "set-order" then pickOrder (w.params.setOrder a q) es else es
def ze7 (a:Addr)(q:Nat):(zmc w a q es).toList.Perm es.toList:=by
 unfold zmc;split;exact zfa _ _;right
def yh (h:Heap)(B a:Addr)(q i n F:Nat):Prop:=∃o,h.get? B=some o/\o.cls = .type "set_iterator" /\ o.data = .fields #[.int q 0,.int i 0,.ref a,.int n 0,.int F 0]
def yh.typeIs(x:yh s.heap B a q i n F):s.TypeIs (.ref B) "set_iterator" := let ⟨o,ho,hc,_⟩:=x;⟨o,ho,hc⟩
structure SetIs (prog:Aa)(w:Ab)(h:Heap)(a:Addr)(es:Array (Int×Value))(ep:Nat)(t:SetTable)(xs:List (List Key×Addr)):Prop where
 ob:∃o,h.get? a=some o/\o.ExactSet/\o.data = .set es ep t
 tb:Tb prog w t es xs
def zjX{e:Int×Value}(hit:yh s.heap it a slot i es.size ep)(S:SetIs prog w s.heap a es ep t xs)(hs:w.params.followText "set-order" = true\/SetTable.below t.place slot=i)(hx:(zmc w a ep es)[i]?=some e)(hQ:∀h' slot',yh h' it a slot' (i+1) es.size ep->(w.params.followText "set-order" = true\/SetTable.below t.place slot'=i+1)->Heap.SameBut it s.heap h'->Q (some e.2) { s with heap:=h' }):Ag prog w A (pyNext (.ref it)) Q E s:=by
 obtain⟨o,ho,hc,hd⟩:=id hit;obtain⟨⟨os,hos,_,hds⟩,T⟩:=S;have hf:=T.fits;unfold pyNext
 show ae (dn (wpAny_callSpecial?_slot (name:=Str.ofString "__next__") hit.typeIs zO
  (bf zO hit.typeIs xo ?_ (xP _))))
 show ae (ah ?_);show ae (fG ho hd ?_);dsimp only;show ae (eW hos hds hf ?_);rw[if_neg (by simp)]
 have upd2:∀slot':Nat,∃h',yh h' it a slot' (i+1) es.size ep/\Heap.SameBut it s.heap h'/\∀ {A':Ae} {E':AA} {α:Type} {f:Sem α} {R:α->AZ->Prop},Ag prog w A' f R E' { s with heap:=h' }->Ag prog w A' (do setField (.ref it) 0 (rawInt slot');setField (.ref it) 1 (rawInt ((i:Int)+1));f) R E' s:=by
  intro slot';have h1:(s.heap.update it (Obj.mapFields (·.setIfInBounds 0 (rawInt slot')))).get? it=some (Obj.mapFields (·.setIfInBounds 0 (rawInt slot')) o):=bC _ ho (dj (cb hd _));have hd1:(Obj.mapFields (·.setIfInBounds 0 (rawInt slot')) o).data = .fields #[.int slot' 0,.int i 0,.ref a,.int es.size 0,.int ep 0]:=by rw[cb hd];simp[rawInt]
  show⟨(s.heap.update it (Obj.mapFields (·.setIfInBounds 0 (rawInt slot')))).update it (Obj.mapFields (·.setIfInBounds 1 (rawInt ((i:Int)+1)))),⟨_,bC _ h1 (dj (cb hd1 _)),?_,?_⟩,(bw ..).trans (bw ..),λ{A' E' α f R} hR=>?_⟩;rw[ee,ee];exact hc;rw[cb hd1];simp[rawInt];exact ae (bO ho hd (by simp) (ae (bO (s:={ s with heap:=s.heap.update it (Obj.mapFields (·.setIfInBounds 0 (rawInt slot'))) }) h1 hd1 (by simp) hR)))
 unfold setNext
 cases hb:w.params.followText "set-order" with
 | true=>
  have hx':(pickOrder (w.params.setOrder a ep) es)[i]?=some e:=by
   unfold zmc at hx;right
  obtain⟨h',hi',sb',step⟩:=upd2 slot;show ae ?_;show ae (bJ hos hds hf ?_);dsimp only;unfold setsByText;show ae (ae (bY (ah ?_)));rw[show (model prog w).w=w from rfl,hb];simp only[if_true];rw[if_neg (by simp)];unfold setWalk;show ae ?_;show ae (bJ hos hds hf ?_);dsimp only;unfold setsByText;show ae (ae (bY (ah ?_)));rw[show (model prog w).w=w from rfl,hb];simp only[if_true];show ae (bY (ah ?_));show ah ?_;rw[show (model prog w).w=w from rfl];simp only[aR];rw[hx'];dsimp only[Option.map];exact step (ah ⟨_,rfl,ah (hQ h' slot hi' (.inl hb) sb')⟩)
 | false=>
  have hx':es[i]?=some e:=by
   unfold zmc at hx;grind
  have hsl:SetTable.below t.place slot=i:=by grind
  have hi:i<es.size:=(cP.mp hx').1;have hpl:t.place[i]?=some (t.place.getD i 0):=zfM (by rw[T.sz,<- T.size];exact hi);obtain⟨h',hi',sb',step⟩:=upd2 (t.place.getD i 0+1);show ae ?_;show ae (bJ hos hds hf ?_);dsimp only;unfold setsByText;show ae (ae (bY (ah ?_)));rw[show (model prog w).w=w from rfl,hb];simp only[aP,if_false];rw[if_neg (by change ¬ ((!t.plain&&decide (es.size > 1))=true);rw[T.plain];simp)];show ae ?_;change wpAny _ _ (if (!t.led&&!es.isEmpty)=true then unsupported "set:maker-not-led" else pure ()) _ _ s;rw[if_neg (by rw[T.led,hb];simp)];show ah ?_;simp only[aR];rw[hsl,hx',hpl];show ah ?_;dsimp only;show step (ah ⟨_,rfl,ah (hQ h' _ hi' (.inr ?_) sb')⟩);obtain⟨b1,b2,b3⟩:=xQ T.ris (t.place.getD i 0+1);have hi2:=(xH hpl).1;rcases cK (SetTable.below t.place (t.place.getD i 0+1)) (i+1) with z | z | z;have:=b3 i (by lia) hi2;lia;exact z;have h1:=b2 (i+1) z;have h2:=T.ris i (i+1) (eE i) (by lia);lia
def zl2(hh:A.handled=none)(B:yh s.heap J a q es.size es.size O)(S:SetIs prog w s.heap a es O t xs)(hs:w.params.followText "set-order" = true\/SetTable.below t.place q=es.size)(hQ:∀h',Heap.ExtBut J s.heap h'->Q none { s with heap:=h' }):Ag prog w A (pyNext (.ref J)) Q E s:=by
 obtain⟨o,U,hc,Y⟩:=id B;obtain⟨⟨os,F,_,I⟩,T⟩:=S;have Z:=T.fits;unfold pyNext
 show ae (dn (wpAny_callSpecial?_slot (name:=Str.ofString "__next__") B.typeIs zO
  (bf zO B.typeIs xo ?_ (xP _))))
 show ae (ah ?_);show ae (fG U Y ?_);dsimp only;show ae (eW F I Z ?_);rw[if_neg (by simp)];unfold setNext;show ae ?_;show ae (bJ F I Z ?_);dsimp only;unfold setsByText;show ae (ae (bY (ah ?_)))
 cases hb:w.params.followText "set-order" with
 | true=>
  rw[show (model prog w).w=w from rfl,hb];simp only[if_true];rw[if_neg (by simp)];unfold setWalk;show ae ?_;show ae (bJ F I Z ?_);dsimp only;unfold setsByText;show ae (ae (bY (ah ?_)));rw[show (model prog w).w=w from rfl,hb];simp only[if_true];show ae (bY (ah ?_));show ah ?_;rw[show (model prog w).w=w from rfl];simp only[aR];have hn:(pickOrder (w.params.setOrder a O) es)[es.size]?=none:=by rw[zbT];show List.getElem?_eq_none ?_;rw[(zfa _ es).length_eq,aK];exact ak _
  rw[hn];dsimp only[Option.map];show ae (bO U Y (by simp) ?_);show wpAny _ _ (newExc (.type "StopIteration") [] >>= _) _ _ _;show ae ?_;simp only[newExc,newTuple];show ae (bz ?_ (by size_fits));show ae (m:=firstArgMember _ _) (wpAny_of_eq (a:=Value.none) (by first | rfl | (simp only[firstArgMember];rfl)) ?_);show bz ?_ (by size_fits);simp only[raiseNew];show ae (fU ?_);rw[show A.in1.handled=none from hh];show ae (ah (wpAny_throw ?_));show ae (dH (T := "StopIteration") (b:=true) ⟨_,aw _ rfl,rfl⟩ fH ?_);exact ah (hQ _ (((bw ..).extBut.push _).push _))
 | false=>
  have aa:SetTable.below t.place q=es.size:=by grind
  rw[show (model prog w).w=w from rfl,hb];simp only[aP,if_false];rw[if_neg (by change ¬ ((!t.plain&&decide (es.size > 1))=true);rw[T.plain];simp)];show ae ?_;change wpAny _ _ (if (!t.led&&!es.isEmpty)=true then unsupported "set:maker-not-led" else pure ()) _ _ s;rw[if_neg (by rw[T.led,hb];simp)];show ah ?_;simp only[aR];rw[aa,Array.getElem?_eq_none (ak _)];show ah ?_;dsimp only;show ae (bO U Y (by simp) ?_);show wpAny _ _ (newExc (.type "StopIteration") [] >>= _) _ _ _;show ae ?_;simp only[newExc,newTuple];show ae (bz ?_ (by size_fits));show ae (m:=firstArgMember _ _) (wpAny_of_eq (a:=Value.none) (by first | rfl | (simp only[firstArgMember];rfl)) ?_);show bz ?_ (by size_fits);simp only[raiseNew];show ae (fU ?_);rw[show A.in1.handled=none from hh];show ae (ah (wpAny_throw ?_));show ae (dH (T := "StopIteration") (b:=true) ⟨_,aw _ rfl,rfl⟩ fH ?_);exact ah (hQ _ (((bw ..).extBut.push _).push _))
def zjl(q:yh s.heap F a B i n I)(h:Q (.ref F) s):Ag prog w A (pyIter (.ref F)) Q E s:=by show fQ q.typeIs x9 (bf x9 q.typeIs zaw ?_ (za1 _));change wpAny _ _ (ret (.ref F)) _ _ s;exact ah ⟨_,rfl,"set_iterator",_,q.typeIs,zO.lookup,h⟩
def SetIs.typeIs(S:SetIs prog w s.heap a es q t xs):s.TypeIs (.ref a) "set" := let ⟨o,ho,hc,_⟩:=S.ob;⟨o,ho,hc.1⟩
def zlH(S:SetIs prog w s.heap a es J t xs)(h:Q (.ref s.heap.objs.size) { s with heap:=s.heap.push { cls:=.type "set_iterator",data:=.fields #[.int 0 0,.int 0 0,.ref a,.int es.size 0,.int J 0] } }):Ag prog w A (pyIter (.ref a)) Q E s:=by
 have O:=S.typeIs;obtain⟨⟨U,q,Y,B⟩,T⟩:=S;have I:=T.fits;show fQ O F.slot_set_iter (bf F.slot_set_iter O zcE ?_ (F.args_set_iter_1 _));unfold Builtin.«frozenset.__iter__»;show ae (m:=Builtin.Frozenset.slot0 "__iter__" ⟨[.ref a],[]⟩) (ah ?_);show ae ?_;unfold Builtin.Frozenset.sizeOf;show ae (eW q B I (ah ?_));show ae ?_;unfold setDrawn;show ae (bJ q B I ?_);dsimp only;unfold setsByText;show ae (ae (bY (ah ?_)));show ah ?_;rw[if_neg (by change ¬ ((!_&&(!t.plain&&decide (es.size > 1)))=true);rw[T.plain];simp)];show ae (ah ?_);show ae (wpAny_setEpoch_of q B I ?_);show ae (bz (ah ⟨_,rfl,"set_iterator",_,⟨_,aw _ rfl,rfl⟩,zO.lookup,?_⟩));simpa [rawInt] using h
open PySem.W PySem.Calls
def zmF(I:s.TypeIs (.ref r) "set")(h:Q false s):Ag prog w A (Builtin.List.listLengthHint (.ref r)) Q E s:=by
 unfold Builtin.List.listLengthHint;show ae (eR I PySem.F.slot_set_len.lookup ?_);generalize B:("set.__len__" : String)=id0
 wp_delta
 rw[show splitId id0=some ("set","__len__") from by subst B;decide +kernel];subst B;show ae (dH (T := "set") (b:=true) I (by rw[isSubtype_type];kernel_rfl) ?_);show wpAny_ite_split (λq=>absurd q (by ext)) (λ_=>?_);show wpAny_ite_split (λ_=>?_) (λq=>absurd (by decide +kernel) q);show ae (dO I ?_);exact ah h
def SetIs.keep(S:SetIs prog w h a es q t xs)(k:∀o,h.get? a=some o->h'.get? a=some o):SetIs prog w h' a es q t xs:=let ⟨⟨o,ho,r⟩,T⟩:=S;⟨⟨o,k o ho,r⟩,T⟩
def yh.keep(S:yh h B a q i n F)(k:∀o,h.get? B=some o->h'.get? B=some o):yh h' B a q i n F:=let ⟨o,ho,r⟩:=S;⟨o,k o ho,r⟩
def SetIs.lt(S:SetIs prog w h a es q t xs):a<h.objs.size:=let ⟨⟨o,ho,_⟩,_⟩:=S;az ho
def zkE (hh:A.handled=none)(I a:Addr)(aa:a≠I)(J:Nat) :
  Walks prog w A I [I,a] [I] es.size (λi v=>∃e,(zmc w a J es)[i]?=some e/\v=e.2) (λi h=>(∃q,yh h I a q i es.size J/\(w.params.followText "set-order" = true\/SetTable.below t.place q=i))/\SetIs prog w h a es J t xs) where
 sub:=λb O=>by simp at O;simp[O]
 frame:=λ_ _ _ st hk=>⟨let ⟨sl,x,y⟩:=st.1;⟨sl,x.keep λo e=>hk I (by simp) o e,y⟩,st.2.keep λo e=>hk a (by simp) o e⟩
 item:=λi s Q E hi st U=>by
  obtain⟨⟨sl,B,hs⟩,S⟩:=st
  have Y:i<(zmc w a J es).size:=by
   have:=(ze7 (w:=w) (es:=es) a J).length_eq;grind
  show zjX B S hs (e:=(zmc w a J es)[i]) (aS Y) λh' F Z ab sb=>?_;exact U _ h' s.toks ⟨_,aS Y,rfl⟩ ⟨⟨F,Z,ab⟩,S.keep λo e=>(sb.2 a aa).trans e⟩ λb o O e=>sb.extBut b o (λh=>O (by simp[h])) e
 done:=λs Q E st U=>by obtain⟨⟨sl,B,hs⟩,S⟩:=st;exact zl2 hh B S hs λh' ac=>U h' s.toks λb o O e=>ac b o (λh=>O (by simp[h])) e
 self:=λ_ _ _ _ st U=>let ⟨sl,x,_⟩:=st.1;zjl x U
def zp6 (a:Addr)(q:Nat):KdlSrc prog w "set" a a es.size (λi v=>∃e,(zmc w a q es)[i]?=some e/\v=e.2) (λh=>SetIs prog w h a es q t xs) where
 type:=λs S=>S.typeIs
 there:=λ_ S=>⟨S.lt,S.lt⟩
 keep:=λ_ _ S F=>S.keep λo e=>F a (.inl rfl) o e
 notList:=by ext
 notTuple:=by ext
 hint:=λ_ _ _ _ S B=>zmF S.typeIs B
 iter:=λA s I S=>⟨_,_,(λ_ _ B=>zlH S B),zkE I _ a (aV S.lt) q,⟨⟨0,⟨_,aw _ rfl,rfl,rfl⟩,.inr ?_⟩,S.keep λo e=>ai _ e⟩⟩
where finally
 have b:=xQ S.tb.ris 0;rcases Nat.eq_zero_or_pos (SetTable.below t.place 0) with z | z;exact z;exact absurd (b.2.1 0 z) (c9 _)
end
def zcD (h:Heap)(L D:Addr)(v:Value)(st:AG):Prop:=∃ (a:Addr) (items:AN),v = .ref a/\IsTup h a items.toArray/\zT (st.map V.int) items/\a≠L/\a≠D
def zcD.keep{st:AG}(r:zcD h L D v st)(q:∀b o,b≠L->b≠D->h.get? b=some o->h'.get? b=some o):zcD h' L D v st:=by obtain⟨a,items,e,⟨o,B,F⟩,I,h1,h2⟩:=r;exact⟨a,items,e,⟨o,q a o h1 h2 B,F⟩,I,h1,h2⟩
def zc5:∀ {vs:AN} {sts:AF},Paired (zcD h L D) vs sts->(∀st∈sts,1<=st.length)->∃fs,W.KatTups h vs fs/\fs.length=sts.length/\∀f∈fs,∃a t,f=Value.int a t
 | _,_,.nil,_=>⟨[],trivial,rfl,λ_ h=>by simp at h⟩
 | _,_,.cons (b:=st) r rr,h1=>by
  obtain⟨a,items,rfl,⟨o,I,J,n,O⟩,q,_⟩:=r;obtain⟨fs,U,f2,f3⟩:=zc5 rr λz Y=>h1 z (ar _ Y);have B:=h1 st am
  match st,q,B with
  | z::zs,q,_=>
   cases q with
   | cons Z qq=>
    obtain⟨t,rfl⟩:=Z;show⟨_::fs,⟨⟨a,o,_,n,rfl,I,J,O,rfl⟩,U⟩,by right,λf F=>?_⟩;rcases aG.mp F with rfl | F
    all_goals right
def x5 {α q:Type}{R:α->q->Prop}:∀ {l:List α} {l':List q},Paired R l l'->∀ {i:Nat} (d:α) (d':q),i<l'.length->R (l.getD i d) (l'.getD i d')
 | _,_,.nil,i,_,_,h=>by simp at h
 | _,_,.cons r _,0,_,_,_=>r
 | _,_,.cons _ t,i+1,d,d',h=>by have:=x5 t (i:=i) d d' (by simpa using h);simpa using this
def zdc {α q:Type}{R:α->q->Prop}:∀ {l:List α} {l':List q},Paired R l l'->l.length=l'.length
 | _,_,.nil=>rfl
 | _,_,.cons _ t=>by rw[aO,aO,zdc t]
section
variable {prog:Aa}{w:Ab}{A:Ae}{E:AA}{s:AZ}
def zg4{sts:AF}(al:s.heap.Ns L m0)(an:D≠L)(ho:s.heap.get? D=some (seqObj "list" vs.toArray n))(hv:Paired (zcD s.heap L D) vs sts)(hz:sts.length<=sizeLine)(a3:1<=m)(hm:∀st∈sts,st.length=m)(ap:sts.Nodup)(h:∀h' c p,List.Perm p (List.range sts.length)->((p.map λi=>sts.getD i []).Pairwise λa b=>HT.lexLt a b=true)->(∀b o,b≠L->b≠D->s.heap.get? b=some o->h'.get? b=some o)->h'.Ns L m0->
   h'.get? D=some (seqObj "list" (p.map λi=>vs.getD i .none).toArray c)->Q .none { s with heap:=h' }) :
  Ag prog w A (call (.builtin "list.sort") [.ref D]) Q E s:=by
 have a4:=zdc hv;by_cases h2:2<=sts.length
 ·have B:∀p∈(zaM s.heap L).filter (λq=>decide (q.1≠D)),s.heap.get? p.1=some p.2/\p.1≠L/\p.1≠D:=λp hp=>by
   have h1:=b7.mp hp;have h2:=zD.mp (show (p.1,p.2)∈zaM s.heap L from h1.1);right
  have J:∀b,(⟨#[],{}⟩:Heap).get? b=none:=λb=>by
   cases e:(⟨#[],{}⟩:Heap).get? b with
   | none=>rfl
   | some o'=>
    have:=az e;simp at this
  show bf fE ⟨_,ho,rfl⟩ eV ?_ (fF _);show zaV (h₀:=(⟨#[],{}⟩:Heap)) (L:=L) (m:=m0) (news:=(zaM s.heap L).filter (λq=>decide (q.1≠D))) ⟨al,λb o e=>?_,aM _⟩ (λp hp=>?_) ho an (J _) (λp hp=>(B p hp).2.2) (by lia) (by lia) λe1 h' F N=>?_;right;exact⟨(B p hp).1,(B p hp).2.1,J _⟩
  ·have kp:∀b o,b≠L->b≠D->s.heap.get? b=some o->h'.get? b=some o:=λb o hb hD e=>(N (b,o) (ar _ (b7.mpr ⟨zD.mpr ⟨hb,e⟩,bi hD⟩))).1;have O:Paired (zcD h' L D) vs sts:=Paired.mapP hv λv st r=>r.keep kp;obtain⟨fs,k1,k2,k3⟩:=zc5 O λst a5=>by rw[hm st a5];exact a3
   show W.kat_kind (T:=.type "int") (s:={ s with heap:=h' }) k1 (by lia) (λf hf=>?_) (by ext) ?_;obtain⟨a,t,rfl⟩:=k3 f hf;intro A' Q' E' s' _ hq;exact dO (typeIs_int s' a t) hq
   ·have hu:zil sts.length (zca sts):=λi j hi I e=>by
     have e1:=yT hm hi I;have e2:=yT hm I hi;rw[e,a8 (fX _)] at e1;rw[e,a8 (fX _)] at e2;have gi:sts.getD i []=sts[i]:=by simp[hi]
     have gj:sts.getD j []=sts[j]:=by simp[I]
     rcases uN (a:=sts.getD i []) (b:=sts.getD j []) (by right) with h | h | h;rw[gi,gj] at h;exact (dg ap).mp h
     all_goals grind
    have U:vs.length=sts.length:=by lia
    show⟨zca sts,by rw[U];exact hu,λi j hi I e=>?_,λi j hi I C E hC=>?_,λp Y=>?_⟩;rw[U] at hi I;obtain⟨a1,ab,b1,c1,d1,_⟩:=x5 O .none [] hi;obtain⟨a2,ac,b2,c2,d2,_⟩:=x5 O .none [] I;rw[b1,b2] at e;cases e;obtain⟨o1,ad,_,n1,ag⟩:=c1;obtain⟨o2,Z,_,n2,aa⟩:=c2;rw[ad] at Z;cases Z;rw[ag] at aa;have ei:ab=ac:=by injection aa with q1;exact List.toArray_inj q1
    subst ei;have es:=zbj d1 d2;have gi:sts.getD i []=sts[i]:=by simp[hi]
    have gj:sts.getD j []=sts[j]:=by simp[I]
    rw[gi,gj] at es;exact (dg ap).mp es;rw[U] at hi I;obtain⟨a1,ab,b1,c1,d1,_⟩:=x5 O .none [] hi;obtain⟨a2,ac,b2,c2,d2,_⟩:=x5 O .none [] I;obtain⟨o1,ad,_,n1,ag⟩:=c1;obtain⟨o2,Z,_,n2,aa⟩:=c2;rw[b1,b2];have gi:(sts.getD i []).length=m:=by right
    have gj:(sts.getD j []).length=m:=by right
    have l1:=d1.length;have l2:=d2.length;rw[af] at l1 l2;show W.kat_lt (s:={ s with heap:=h' }) ad ag Z aa ?_;rw[show decide (ab.toArray.size<ac.toArray.size)=false from a8 (by simp;lia)];show zdI 0 d1 d2 (by rw[gi,gj]) ?_;rw[yT hm hi I] at hC;exact hC;rw[U] at Y;have as:p.toList.Perm (List.range sts.length):=by have:=Y.perm.toList;simpa using this
    have a0:∀i∈p.toList,i<sts.length:=λi hi=>aQ.mp ((as.mem_iff).mp hi);show W.KasFin.intro F N (W.UpdF.head λq' a7=>(B q' a7).2.2) λba c F'' N''=>?_;show⟨_,rfl,h ba c p.toList as ?_ (λb o hb hD e=>(N'' (b,o) (ar _ (b7.mpr ⟨zD.mpr ⟨hb,e⟩,bi hD⟩))).1) F''.ns (N'' (D,_) am).1⟩;have bc:p.size=sts.length:=ze9 Y.perm;rw[bE];intro i j hi I bb;rw[af,aK] at hi I;have hk:=Y.lt_of bb (by lia);rw[ce,ce,dB,dB];have e1:p.getD i 0=p[i]:=by simp[hi]
    have e2:p.getD j 0=p[j]:=by simp[I]
    unfold key at hk;rw[e1,e2] at hk;rw[<- yT hm (a0 _ (by simp)) (a0 _ (by simp))];right
 show bf fE ⟨_,ho,rfl⟩ eV ?_ (fF _);show u5 ho (by lia) λh' c kp hD=>⟨_,rfl,?_⟩;show h h' c (List.range sts.length) (en _) ?_ (λb o _ hb e=>kp b o hb e) ?_ ?_;grind;obtain⟨o,es,ep,g,k⟩:=al;exact⟨o,es,ep,kp _ _ (Ne.symm an) g,k⟩;rw[<- a4,u9];exact hD
end
def zbm {α O:Type}{f:α->O}{l m:List O}(h:l.Perm m):∀ {xs:List α},m=xs.map f->∃q:List α,q.Perm xs/\l=q.map f:=by
 induction h with
 | nil=>
  right
 | cons x _ U=>
  intro xs e
  cases xs with
  | nil=>cases e
  | cons y ys=>
   rw[aB] at e;injection e with Y F;obtain⟨q,h1,h2⟩:=U F;exact⟨y::q,h1.cons y,by right⟩
 | swap x y l=>
  intro xs e
  match xs,e with
  | [],e=>cases e
  | [_],e=>cases e
  | a::b::r,e=>
   rw[aB,aB] at e;injection e with Y F;injection F with F e3;exact⟨b::a::r,.swap _ _ _,by grind⟩
 | trans _ _ I J=>
  intro xs e;obtain⟨q,h1,h2⟩:=J e;obtain⟨B,Z,h4⟩:=I h2;exact⟨B,Z.trans h1,h4⟩
def zih (P:Aa)(w:Ab)(a:Addr)(xs:List (List Key×Addr)):HO:=.ext λh=>zbS P w h a xs
def uM (xs:AE):List (List Key×Addr):=xs.map λq=>(q.1.map Sum.inl,q.2)
def zkD(S:zbS P w h a xs):ya P w H h a (zih P w a xs):=by
 show⟨S,?_,λh1 h2 q k=>?_⟩;obtain⟨o,_,_,_,B,_⟩:=S;exact⟨o,B⟩;obtain⟨o,es,F,t,B,r⟩:=q;exact⟨o,es,F,t,k o B,r⟩
def zpS(h:(⟨Array.replicate (n+1) o,{}⟩:Heap).get? d=some u):u=o:=by
 unfold Heap.get? at h;simp only[Array.getElem?_replicate] at h;split at h;cases h;split at h;exact (cL h).symm;cases h
def zp5(hs:∃h:Heap,h.get? d=some ob):(λh=>zbS P w h a xs)≠λh=>h.get? d=some ob:=λe=>by
 obtain⟨B,F⟩:=hs;have h1:zbS P w B a xs:=by rw[show zbS P w B a xs=_ from congrFun e B];exact F
 obtain⟨o,es,O,t,U,I,Y,T,J⟩:=h1;have k:∀q:Nat,({ o with data:=.set es q t }:Obj)=ob:=λq=>by have h2:zbS P w (⟨Array.replicate (a+1) { o with data:=.set es q t },{}⟩:Heap) a xs:=⟨{ o with data:=.set es q t },es,q,t,by simp[Heap.get?],I,rfl,T,J⟩;rw[show zbS P w _ a xs=_ from congrFun e _] at h2;exact (zpS h2).symm
 have:=congrArg Obj.data ((k 0).trans (k 1).symm);cases this
def zg7:∀kvs,pnK (zih P w a xs)=some kvs->xE kvs (Sum.inr "at" : Key)=none:=λkvs e=>by
 unfold zih pnK at e;dsimp only at e;rw[if_neg] at e;cases e;rintro⟨d,ob,hs,z⟩;exact zp5 hs z
def zer (P:Aa)(w:Ab)(H:Hp)(a:Addr)(ks:AF):Prop:=∃xs:AE,H a=some (zih P w a (uM xs))/\(∀q∈xs,H q.2=some (.tup (q.1.map V.int)))/\ks=xs.map (·.1)/\ks.Nodup
def zer.stay{ks:AF}(S:zer P w H a ks)(h:zu H H'):zer P w H' a ks:=by obtain⟨xs,h1,h2,B,F⟩:=S;exact⟨xs,h _ _ h1 zg7,λq I=>h.tup (h2 q I),B,F⟩
def za7:∀ns:AG,(ns.map Sum.inl).map kV=ns.map V.int
 | []=>rfl
 | n::ns=>by rw[aB,aB,aB,za7 ns];rfl
section
variable {X:Cx}
def zjw{pins:AB}{σ:St}{H:Hp}{s:AZ}(I:Inv X pins σ H s){ns:AG}(h:H b=some (.tup (ns.map V.int))):(tk X.prog X.w).is s.heap (ns.map Sum.inl) b:=by
 obtain⟨q,F,⟨o,J,O,n,U⟩,_⟩:=I.tuple (.of h);show⟨o,q.toArray,n,J,O,U,?_⟩
 have B:∀ {ns:AG} {q:AN},zT (ns.map V.int) q->ItemsAre (zS X.prog X.w) (ns.map Sum.inl) q:=by
  intro ns
  induction ns with
  | nil=>intro q r;cases r;exact .nil
  | cons n ns Y=>
   intro q r
   cases r with
   | cons Z r2=>
    obtain⟨t,rfl⟩:=Z;exact .cons (zeV n t) (Y r2)
 exact B F
def zsC (P:Aa)(w:Ab):AT->Hp->VK->Prop:=λxs H Q=>∃ (a:Addr) (ks:AF) (m:Nat),xs=[.ref a]/\zer P w H a ks/\ks.length<64/\1<=m/\(∀st∈ks,st.length=m)/\
 ∀ (ys:AT) (q:AF),IsL H (q.map stD) ys->q.Perm ks->(q.Pairwise λa b=>HT.lexLt a b=true)->New H (.lst ys) Q
def zbI:∀ {xs:AE},(∀q∈xs,H q.2=some (.tup (q.1.map V.int)))->IsL H ((xs.map (·.1)).map stD) (xs.map λq=>V.ref q.2)
 | [],_=>rfl
 | q::xs,h=>⟨_,_,rfl,⟨q.2,_,rfl,h q am,IsL.ints⟩,zbI λr B=>h r (ar _ B)⟩
def zaZ:∀ (xs:AE),zT (xs.map λq=>V.ref q.2) (xs.map λq=>Value.ref q.2)
 | []=>.nil
 | q::xs=>.cons rfl (zaZ xs)
def zln (hc:X.calm=true):CallQ X (.builtin "sorted") (zsC X.prog X.w):=⟨by
 intro pins s σ H xs us Q I r h;obtain⟨a,ks,m,rfl,⟨xs,hH,a3,rfl,a4⟩,a5,a7,hm,q⟩:=h;obtain⟨u,rfl,ru⟩:=zaY r;cases ru;obtain⟨⟨o,es,ep,t,ho,hx,hd,T,_⟩,_⟩:=(show ya X.prog X.w H s.heap a (zih X.prog X.w a (uM xs)) from I.hok a _ hH);have S:SetIs X.prog X.w s.heap a es ep t (uM xs):=⟨⟨o,ho,hx,hd⟩,T⟩;obtain⟨m0,ad,_⟩:=id I.loc;have hsz:es.size=xs.length:=by rw[T.size];unfold uM;rw[af]
 rw[af] at a5
 have ba:∀b,(⟨#[],{}⟩:Heap).get? b=none:=λb=>by
  cases e:(⟨#[],{}⟩:Heap).get? b with
  | none=>rfl
  | some o'=>
   have:=az e;simp at this
 have ag:=ze7 (w:=X.w) (es:=es) a ep;have bb:es.toList=xs.map λq=>((tk X.prog X.w).hash (q.1.map Sum.inl),Value.ref q.2):=by rw[T.eq];unfold uM;rw[aF];rfl
 rw[bb] at ag;obtain⟨B,J,bc⟩:=zbm ag rfl;show kdu_sorted (h₀:=(⟨#[],{}⟩:Heap)) (L:=X.env.locals) (m:=m0) (news:=zaM s.heap X.env.locals) (zp6 (t:=t) (xs:=uM xs) a ep) (I.ok.hd hc) ⟨ad,λb o e=>(by right),aM _⟩ (λp hp=>?_) S (by rw[hsz,b8];lia) λD h' al vs F N bd hl hP=>?_;obtain⟨b,o⟩:=p;have:=zD.mp hp;right
 have be:vs=B.map λq=>Value.ref q.2:=by
  have b3:=J.length_eq;show dG (by right) λj h1 h2=>?_;obtain⟨e,he,hv⟩:=hP j vs[j] (ax h1);rw[zbT,bc,aN] at he;rw[af] at h2;rw[ax h2] at he;rw[hv,ce,<- cL he]
 have kp:∀b o,b≠X.env.locals->s.heap.get? b=some o->h'.get? b=some o:=λb o hb e=>(N (b,o) (ar _ (zD.mpr ⟨hb,e⟩))).1;have an:D≠X.env.locals:=(N (D,_) am).2.1
 have bk:s.heap.get? D=none:=by
  cases e:s.heap.get? D with
  | none=>rfl
  | some o=>exact absurd (bd (D,o) (zD.mpr ⟨an,e⟩)) (cG _)
 have Y:H D=none:=by
  cases e:H D with
  | none=>rfl
  | some o=>
   obtain⟨o',ap⟩:=uP (I.hok D o e);grind
 have U:∀q∈B,H q.2=some (.tup (q.1.map V.int)):=λq Z=>a3 q ((J.mem_iff).mp Z)
 have as:Paired (zcD h' X.env.locals D) vs (B.map (·.1)):=by
  rw[be]
  have bl:∀ (l:AE),(∀q∈l,H q.2=some (.tup (q.1.map V.int)))->Paired (zcD h' X.env.locals D) (l.map λq=>Value.ref q.2) (l.map (·.1)):=by
   intro l
   induction l with
   | nil=>intro _;exact .nil
   | cons q l ih=>
    intro hl;have Z:=hl q am;obtain⟨items,rv,⟨o',ap,bo⟩,_⟩:=I.tuple (.of Z);have a0:=zf Z I.free;exact .cons ⟨q.2,items,rfl,⟨o',kp _ _ a0 ap,bo⟩,rv,a0,zf Z Y⟩ (ih λr hr=>hl r (ar _ hr))
  exact bl B U
 have aa:=J.map (·.1);show zg4 (s:={ s with heap:=h',toks:=al }) F.ns an (N (D,_) am).1 as (by rw[af,J.length_eq,b8];lia) a7 (λst bs=>hm st ((aa.mem_iff).mp bs)) (aa.nodup_iff.mpr a4) λb4 c p hp a1 bx b0 a2=>?_;have b1:∀i∈p,i<B.length:=λi hi=>by have:=aQ.mp ((hp.mem_iff).mp hi);rwa[af] at this
 have O:(p.map λi=>(B.map (·.1)).getD i [])=(p.map λi=>B.getD i ([],0)).map (·.1):=by right
 have ab:(p.map λi=>vs.getD i .none)=(p.map λi=>B.getD i ([],0)).map λq=>Value.ref q.2:=by right
 have b2:∀q∈(p.map λi=>B.getD i ([],0)),H q.2=some (.tup (q.1.map V.int)):=λq Z=>by
  obtain⟨i,hi,rfl⟩:=aD.mp Z;have h1:=b1 i hi;have:B.getD i ([],0)=B[i]:=by simp[h1]
  rw[this];exact U _ (bP h1)
 rw[ab] at a2;rw[O] at a1;have ac:p.length=xs.length:=by rw[hp.length_eq,aE,af,J.length_eq]
 have I':=zb4 I ad (ys:=(p.map λi=>B.getD i ([],0)).map λq=>V.ref q.2) (λb o hb e=>bx b o hb (by grind) (kp b o hb e)) b0 bk Y a2 (zaZ _) (by rw[af,af,ac,b8];lia) al;show⟨.ref D,_,I',rfl,(q _ ((p.map λi=>B.getD i ([],0)).map (·.1)) (zbI b2) ?_ a1).at Y⟩;show List.Perm.trans ?_ aa;rw[<- O];have:=hp.map λi=>(B.map (·.1)).getD i [];rwa[u9] at this⟩
end
def zeE (elt target iter:Expr)(ifs:AO)(scope:Scope)(pos:Pos)(it acc:Value)(env:Env) :
  compTurn (.SetComp elt [⟨target,iter,ifs,0⟩] scope pos) 0 it acc env=(do
   standAt iter.pos
   match <- pyNext it with
   | none=>pure (.done .next)
   | some v=>
    letOwnedTupleGo target it v
    assign target env v
    let mut ok:=true
    for c in ifs do
     if ok then ok <- isTrue c env (eval c env)
    if ok then
     (do let v <- eval elt env;standAt elt.pos;let _ <- call (.builtin "set.add") [acc,v])
    again (.compLoop (.SetComp elt [⟨target,iter,ifs,0⟩] scope pos) 0 it acc env)):=by rfl
section
variable {prog:Aa}{w:Ab}{A:Ae}{E:AA}{R:Result->AZ->Prop}{s:AZ}
def uG {elt target iter ifs zy scope pos it acc env}
  (h0:codeAny (model prog w) A (.compLoop (.SetComp elt (⟨target,iter,ifs,0⟩::zy) scope pos) 0 it acc env) R s)
  (h:Ag prog w A (pyIter it) (λit' s'=>codeAny (model prog w) A (.compLoop (.SetComp elt (⟨target,iter,ifs,0⟩::zy) scope pos) 0 it' acc env) R s')
   (notedBy (model prog w) A env λx s'=>R (.error x) s') s) :
  codeAny (model prog w) A (.compStart (.SetComp elt (⟨target,iter,ifs,0⟩::zy) scope pos) 0 it acc env) R s:=by
 show codeAny_of_tree ?_;change wpAny _ _ ((compStart (.SetComp elt (⟨target,iter,ifs,0⟩::zy) scope pos) 0 it acc env).onRaise (λx=>do noteFrame x env;standAt theWindowsPlace)) _ _ s;show wpAny_notedAt ?_;unfold compStart;change wpAny _ _ (ask >>= _) _ _ s;show ae (bY (wpAny_ite ?_));split
 first
  | exact ae (by grind)
  | exact ah (And.intro rfl h0)
 first
  | exact ae (by grind)
  | (show ae (cU ?_);change wpAny _ _ (standAt iter.pos >>= _) _ _ s;exact ae (cQ (ae (bH h (λit' s' h'=>ah (And.intro rfl h')) λ_ _ x=>x))))
def zbw(I:Nat->AZ->Prop)(turn:∀n s,I n s->Ag prog w A (pyNext it) (λr s₁=>match r with
   | none=>R (.ok .next) s₁
   | some v=>Ag prog w A (letOwnedTupleGo target it v) (λ_ s₂=>Ag prog w A (assign target env v) (λ_ s₃=>
     Ag prog w A (forIn ifs true λc r=>if r=true then do let ok <- isTrue c env (eval c env);pure (ForInStep.yield ok) else pure (ForInStep.yield r)) (λok s₄=>
      if ok=true then Ag prog w A (eval elt env) (λx s₅=>
       Ag prog w A (call (.builtin "set.add") [acc,x]) (λ_ s₆=>∃m,m<n/\I m s₆) (λ_ _=>False) s₅) (λ_ _=>False) s₄
      else ∃m,m<n/\I m s₄) (λ_ _=>False) s₃) (λ_ _=>False) s₂) (λ_ _=>False) s₁) (λ_ _=>False) s)(n:Nat)(h:I n s) :
  codeAny (model prog w) A (.compLoop (.SetComp elt [⟨target,iter,ifs,0⟩] scope pos) 0 it acc env) R s:=by
 show codeAny_loop rfl I (λn s hI=>?_) n h;change wpAny _ A ((compTurn (.SetComp elt [⟨target,iter,ifs,0⟩] scope pos) 0 it acc env).onRaise (λx=>do noteFrame x env;theTreesLotGoes x)) _ _ s;show wpAny_noted ?_;rw[zeE];show ae (cQ (ae (bH (turn n s hI) (λr s₁ h₁=>?_) λ_ _ h'=>h'.elim)))
 cases r with
 | none=>exact ah h₁
 | some v=>
  show ae (bH h₁ (λ_ s₂ h₂=>?_) λ_ _ h'=>h'.elim);show ae (bH h₂ (λ_ s₃ h₃=>ae (bH h₃ (λok s₄ h₄=>?_) λ_ _ h'=>h'.elim)) λ_ _ h'=>h'.elim)
  cases ok with
  | false=>exact ah ⟨rfl,h₄⟩
  | true=>
   exact ae (ae (bH h₄ (λx s₅ h₅=>ae (cQ (ae (bH h₅ (λ_ s₆ h₆=>ah (ah ⟨rfl,h₆⟩)) λ_ _ h'=>h'.elim)))) λ_ _ h'=>h'.elim))
def zjU(h:Q (.ref s.heap.objs.size) { s with heap:=s.heap.push { cls:=.type "set",dict:=none,data:=.set #[] 0 (.fresh 0 0 (!w.params.followText "set-order")) } }):Ag prog w A (newSet (.type "set")) Q E s:=by unfold newSet setsByText;show ae (ae (bY (ah ?_)));dsimp only;simp only[newObj];exact ae (wpAny_alloc (ah h))
def zkC (h:Heap):zbS prog w (h.push { cls:=.type "set",dict:=none,data:=.set #[] 0 (.fresh 0 0 (!w.params.followText "set-order")) }) h.objs.size []:=by
 show⟨_,#[],0,_,aw _ rfl,⟨rfl,rfl,rfl⟩,rfl,⟨rfl,List.nodup_nil,rfl,λi j _ B=>?_,λi j e=>?_,rfl,.inl rfl,aM _,rfl,rfl,λi q e=>?_⟩,by change 0 * 5<7 * 3;decide⟩;exact absurd B (c9 _);simp[SetTable.fresh] at e;simp at e
end
def uk:∀ {ns q:AG},ns.map (Sum.inl:Int->Key)=q.map Sum.inl->ns=q
 | [],[],_=>rfl
 | [],_::_,e=>by cases e
 | _::_,[],e=>by cases e
 | n::ns,m::q,e=>by rw[aB,aB] at e;injection e with B F;rw[Sum.inl.inj B,uk F]
section
variable {X:Cx}
def zh1 {pins:AB}{σ:St}{H:Hp}{s:AZ}{acc b:Addr}{ns:AG}{ks:AF}{Q:AA}(hu:X.A.units+1<cLine)(I:Inv X pins σ H s)(S:zer X.prog X.w H acc ks)(hb:H b=some (.tup (ns.map V.int)))(hn:ks.length<300)
  (h:∀o ks' s',zer X.prog X.w (upd H acc o) acc ks'->(∀x,x∈ks'↔x=ns\/x∈ks)->ks'.length<=ks.length+1->Inv X pins σ (upd H acc o) s'->Q .none s') :
  Af X (call (.builtin "set.add") [.ref acc,.ref b]) Q X.xe s:=by
 obtain⟨xs,hH,hel,rfl,hnd⟩:=S;have hS:=(show ya X.prog X.w H s.heap acc (zih X.prog X.w acc (uM xs)) from I.hok acc _ hH).1;obtain⟨o,es,ep,t,ho,hx,hd,T,hroom⟩:=id hS;show bf F.slot_set_add ⟨o,ho,hx.1⟩ F.entry_set_add ?_ (F.args_set_add_2 _ _);unfold Builtin.«set.add»;show ae (m:=Builtin.Frozenset.oneOther "add" ⟨[.ref acc,.ref b],[]⟩) (ah ?_);have hba:b≠acc:=zl1 hb hH (by intro z;cases z);have hea:∀q∈xs,q.2≠acc:=λq hq=>zl1 (hel q hq) hH (by intro z;cases z);rw[af] at hn;show ae (zqK (A:=X.A.in1) (xs:=uM xs) (ns:=ns) (aZ (ak _) hu) hS (zjw I hb) (λq hq=>?_) (by unfold uM;rw[af];exact hn) λr h' n xs' sb S' hin hout=>?_);unfold uM at hq;obtain⟨q',hq',rfl⟩:=aD.mp hq;exact zjw I (hel q' hq')
 ·
  have mem_key:∀ {l:AE},(ns.map Sum.inl)∈(uM l).map (·.1)↔ns∈l.map (·.1):=by
   intro l;unfold uM;rw[aF,aD,aD];constructor;rintro⟨q,hq,e⟩;show⟨q,hq,?_⟩;have e':q.1.map (Sum.inl:Int->Key)=ns.map Sum.inl:=e;exact uk e';rintro⟨q,hq,rfl⟩;exact⟨q,hq,rfl⟩
  have fin:∀xs2:AE,xs'=uM xs2->(∀q∈xs2,q∈xs\/q=(ns,b))->(∀x,x∈xs2.map (·.1)↔x=ns\/x∈xs.map (·.1))->(xs2.map (·.1)).Nodup->xs2.length<=xs.length+1->wpAny (model X.prog X.w) X.A.in1 (do ret .none) (λfin s'=>∃v,fin = .done (.ret v)/\Q v s') X.xe { s with heap:=h',toks:=n }:=by
   rintro xs2 rfl hsub hmem hnd2 hlen
   have hel2:∀q∈xs2,H q.2=some (.tup (q.1.map V.int)):=λq hq=>by
    rcases hsub q hq with z | z;exact hel q z;rw[z];exact hb
   have hea2:∀q∈xs2,q.2≠acc:=λq hq=>zl1 (hel2 q hq) hH (by intro z;cases z);show ah ⟨.none,rfl,h (zih X.prog X.w acc (uM xs2)) (xs2.map (·.1)) _ ⟨xs2,zg,λq hq=>by rw[ze (hea2 q hq)];exact hel2 q hq,rfl,hnd2⟩ hmem (by right) ?_⟩;show I.write (e:=acc) (by rw[hH];trivial) (.inl rfl) (λc u hc q=>sb.extBut c u hc q) ?_ (zkD S');obtain⟨o',_,_,_,ho',_⟩:=S';exact⟨o',ho'⟩
  by_cases hm:ns∈xs.map (·.1);have:=hin (mem_key.mpr hm);show fin xs this (λq hq=>.inl hq) (λx=>⟨.inr,λz=>z.elim (λe=>e ▸ hm) id⟩) hnd (Nat.le_succ _);have hp:=hout λz=>hm (mem_key.mp z);have hk:((ns.map Sum.inl,b)::uM xs)=uM ((ns,b)::xs):=rfl;rw[hk] at hp;obtain⟨xs2,hp2,e2⟩:=zbm hp rfl;show fin xs2 e2 (λq hq=>?_) (λx=>?_) ?_ ?_;grind;rw[(hp2.map (·.1)).mem_iff,aB,aG];rw[(hp2.map (·.1)).nodup_iff,aB,cZ];exact⟨hm,hnd⟩;rw[hp2.length_eq,aO];exact ak _
end
def zeJ(elt gens scope pos):eval (.SetComp elt gens scope pos) env=comprehension (.SetComp elt gens scope pos) scope env (firstIterPos gens pos) (newSet (.type "set")) (firstAsync gens) (firstIter gens env):=rfl
def setT (P:Aa)(w:Ab)(g:TG)(ti:TT)(te:TE)(acc:Addr)(N:St->Hp->Prop)(x:V)(σ:St)(H:Hp):Prop:=
 g x σ H λq H3=>ti q H3 λF H4=>if F=true then te q H4 λv H5=>∃b ns ks,v = .ref b/\H5 b=some (.tup (ns.map V.int))/\zer P w H5 acc ks/\ks.length<300/\
  (∀o B,zer P w (upd H5 acc o) acc B->(∀x,x∈B↔x=ns\/x∈ks)->B.length<=ks.length+1->N q (upd H5 acc o)) else N q H4
def setG (P:Aa)(w:Ab)(J:It)(g:TG)(ti:TT)(te:TE)(acc:Addr)(Q:VK)(σ:St)(H:Hp):Prop:=∃W:Nat->Nat->St->Hp->Prop,(∃m,W 0 m σ H)/\
 ∀i m q H',W i m q H'->(J.stop i H'/\Q (.ref acc) H')\/(J.go i H'/\∃N:St->Hp->Prop,(∀ B H2,N B H2->∃F,F<m/\W (i+1) F B H2)/\∀x H2,J.yld i H' x H2->setT P w g ti te acc N x q H2)
def ztc (P:Aa)(w:Ab)(wi:TI)(g:TG)(ti:TT)(te:TE)(cix:List (Option Nat)):TE:=λσ H Q=>wi σ H λJ H1=>∀acc,H1 acc=none->zer P w (upd H1 acc (zih P w acc [])) acc []->setG P w J g ti te acc Q (zeD σ cix) (upd H1 acc (zih P w acc []))
section
variable {X:Cx}{Fam:Cx->Prop}{scope:Scope}{N:AM}{cix:List (Option Nat)}{z:Str}{use:Option (Value->Sem Unit)}{Qp:AA}{elt ke ve tg iter tg2 iter2:Expr}{ifs ifs2:AO}{pos ipos spos px:Pos}{wi wi2:TI}{g g2:TG}{ti ti2:TT}{te tk tv:TE}{pins:AB}{σ:St}{H:Hp}{s:AZ}{Q:VK}{o0:HO}
def zmE (hu:X.A.units+1<cLine)(O:Opn X scope cix Fam)(hc:X.calm=true)(hi:PI X tg iter wi)(hg:∀X',Fam X'->PG X' tg g)(ht:∀X',Fam X'->PTs X' ifs ti)(he:∀X',Fam X'->PE X' elt te)(hs:∀x,foldedSetIterable iter X.env x=pure x)(I:Inv X pins σ H s)
  (h:ztc X.prog X.w wi g ti te cix σ H Q) (U:EndK X pins σ use Qp Q) :
  Af X (comprehension (.SetComp elt [⟨tg,iter,ifs,0⟩] scope pos) scope X.env ipos (newSet (.type "set")) false (eval iter X.env) use) Qp X.xe s:=
 zeF (ob:={ cls:=.type "set",dict:=none,data:=.set #[] 0 (.fresh 0 0 (!X.w.params.followText "set-order")) }) (o0:=λa=>zih X.prog X.w a []) (Fin:=λacc H=>Q (.ref acc) H) (B:=λX' acc P s=>wpAny (model X'.prog X'.w) X'.A (eval elt X'.env) (λx s5=>wpAny (model X'.prog X'.w) X'.A (call (.builtin "set.add") [.ref acc,x]) (λ_ s6=>P s6) (λ_ _=>False) s5) (λ_ _=>False) s) (tb:=λacc Nx σ H=>te σ H λv H5=>∃ (b:Addr) (ns:AG) (ks:AF),v = .ref b/\H5 b=some (.tup (ns.map V.int))/\zer X.prog X.w H5 acc ks/\ks.length<300/\(∀o F,zer X.prog X.w (upd H5 acc o) acc F->(∀x,x∈F↔x=ns\/x∈ks)->F.length<=ks.length+1->Nx σ (upd H5 acc o))) O hc rfl hs (λ_ _ _ _ _ h0 h1=>uG h0 h1) (λ_ _ _ _ _ _ I Y n h=>zbw I Y n h) (λs Q h=>zjU h) (λ_ _=>zkD (zkC _)) hi hg ht (λX' hF pX wX AX _ xX acc pl s σ H Nx P I q k=>by have e9:=he X' hF pl s σ H _ I q;rw[xX] at e9;show thn e9 ?_;rintro u2 ab ⟨v,H10,I10,aa,b,ns,ks,rfl,hb,S,hn,nx⟩;cases aa;have Z:=zh1 (X:=X') (Q:=λ_ s'=>P s') (by rw[AX];exact hu) I10 (by right) hb hn λo F s' S' hm hl I'=>k _ _ _ I' (nx o F (by right) hm hl);rw[xX] at Z;exact Z) I h (λJ H1 acc q hn=>q acc hn ⟨[],zg,λq hq=>by simp at hq,rfl,List.nodup_nil⟩) U
end
def zhY(B:X.A.units+1<cLine)(F:X.calm=true)(c:CompOk X scope N cix)(hi:QI X tg iter wi)(J:∀C s H ex,QG (zV X scope N C s H ex) tg g)(O:∀C s H ex,QTs (zV X scope N C s H ex) ifs ti)(U:∀C s H ex,QE (zV X scope N C s H ex) elt te)(hs:∀x,foldedSetIterable iter X.env x=pure x:=by intro _;rfl):QE X (.SetComp elt [⟨tg,iter,ifs,0⟩] scope pos) (ztc X.prog X.w wi g ti te cix):=⟨λpins s σ H Q I h=>by
 rw[zeJ];exact zmE B (zck c) F hi.run (zlz λC s H ex=>(J C s H ex).run) (zlz λC s H ex=>(O C s H ex).run) (zlz λC s H ex=>(U C s H ex).run) hs I h λ_ _ _ _ _ Y Z q=>zgN Y Z q⟩
section
variable {P:Aa}{w:Ab}{K:AH}{a acc:Addr}{xs:AT}{g:TG}{ti:TT}{te:TE}{σ:St}{H:Hp}{Q:VK}
def zmH(B:H acc=none)(S0:zer P w (upd H acc o) acc [])(Pv:Nat->St->Hp->Prop)(I:∀H',zer P w H' acc []->yO H H'->Pv 0 σ H')(J:∀i σ H,i<=xs.length->Pv i σ H->SqT K H a xs)(hs:∀i x σ H,xs[i]?=some x->Pv i σ H->setT P w g ti te acc (Pv (i+1)) x σ H)(O:∀ σ H,Pv xs.length σ H->Q (.ref acc) H):setG P w (Itt K a) g ti te acc Q σ (upd H acc o):=by
 show⟨λi m σ H=>m=xs.length - i/\i<=xs.length/\Pv i σ H,⟨xs.length,by simp,aM _,I _ S0 (yO.upd B)⟩,?_⟩;rintro i m σ H ⟨rfl,hi,p⟩;have q:=J i σ H hi p;by_cases F:i<xs.length;show .inr ⟨⟨xs,xs[i],q,by simp[F]⟩,Pv (i+1),λU H' Y=>⟨xs.length - (i+1),by lia,rfl,F,Y⟩,λx H' y=>?_⟩;obtain⟨e,y⟩:=y;subst e;exact hs i x σ _ (y xs q) p;have e:i=xs.length:=by lia
 subst e;exact .inl ⟨⟨xs,q,ak _⟩,O σ H p⟩
end
def zqs(s:yO A B)(h:A b=some o):B b=some o:=s _ _ h
def zkY(s:zu A B)(h:A b=some (.tup xs)):B b=some (.tup xs):=s.tup h
def zkW(s:zu A B)(h:A b=some (.lst xs)):B b=some (.lst xs):=s.lst h
def uz(s:zu A B)(h:A b=some o)(n:∀kvs,pnK o=some kvs->xE kvs (Sum.inr "at" : Key)=none):B b=some o:=s _ _ h n
def zie(s:zu A B)(h:Is A d v):Is B d v:=h.stay s
def zdl(s:zu A B)(h:IsL A d v):IsL B d v:=h.stay s
def zbi(s:zu A B){rm:AG}(h:RoomAt A ra rm):RoomAt B ra rm:=h.stay s
def zbh(s:zu A B){rm:AG}(h:BookAt A rm q xs bk):BookAt B rm q xs bk:=h.stay s
def zdk(s:zu A B)(h:zii A R xs):zii B R xs:=h.stay s
def zdm(s:zu A B){ks:AF}(h:zer P w A a ks):zer P w B a ks:=h.stay s
def zkX(s:yO A B){ns:AG}(h:Pen A p c ns n):Pen B p c ns n:=h.same s
def y6(h:yO A B):zu A B:=zu.same h
def zo0:∀kvs,pnK (HO.dT xs)=some kvs->xE kvs (Sum.inr "at" : Key)=none:=by grind
def zjY:∀kvs,pnK (zih P w a xs)=some kvs->xE kvs (Sum.inr "at" : Key)=none:=zg7
def zjZ:∀kvs,pnK (HO.ins C dx fs)=some kvs->xE kvs (Sum.inr "at" : Key)=none:=by grind
def zfh (H:Hp):yO H H:=λ_ _ z=>z
structure FunD (K:AH)(x qual:Str)(st:Stmt)(f:Addr)(fd:Ac):Prop where
 ex:∃ (oc:Value) (od:Option Addr) (dV kV doc pm:Value) (an:Option Addr) (cdv ct:Value) (osl:Array AJ),
  fd=PySem.W.fnOf x qual (z7 st) (zw st) (zc st) dV kV doc pm an cdv ct/\K.lookup f=some ⟨oc,od,.func fd,osl⟩/\PySem.W.codeIn K cdv qual=true
 kp:PySem.W.keepIn K (.ref f)=true
def FunD.okQ{P:Aa}{w:Ab}{K:AH}{mg:AI}{base:Heap}{x I:Str}{st:Stmt}{f:Addr}{fd:Ac}{N ps:AM}{sp:Sp}(F:FunD K x I st f fd)(S:FnScope N ps (zc st))(U:∀vs H Q E,sp vs H Q E->vs.length=ps.length)(O:∀ (J:Value) (A:Ae) (B:List Env) (s:AZ) (H:Hp) (vs:AT) (Q:VK) (E:XK),Room k (A.deeper (envOfC I (zc st) s.heap.objs.size f J))->sp vs H Q E->
   ∃t,QSs (zes CX0 P w K mg base N I (zc st) f J A B s H E).nox (zw st) t/\t { nx:=λ_ H'=>Q .non H',rt:=Q } (xn N vs) H):FnOk P w K mg base CX0 (k+1) f fd ps sp:=by
 obtain⟨oc,od,dV,kV,aa,pm,an,J,ct,ab,rfl,lk,Y⟩:=F.ex;show zrg lk Y S U λA B s H vs Q E hr Z=>?_;obtain⟨t,h,q⟩:=O J A B s H vs Q E hr Z;exact⟨t,h.run.nox,q⟩
structure DfnD (K:AH)(mg:AI)(x:Str)(st:Stmt)(ps:AM)(ds:AN)(f:Addr)(fd:Ac):Prop where
 F:FunD K x x st f fd
 b:zac K fd ps []
 bd:zac K fd ps ds
 m:mg x=some (.ref f)
section
variable {X:Cx}
def znA{x:Str}{st:Stmt}{ps:AM}{ds:AN}{f:Addr}{fd:Ac}{sp:Sp}{es:AO}{p pos:Pos}(D:DfnD X.K X.mg x st ps ds f fd)(G:FnOk X.prog X.w X.K X.mg X.base CX0 j f fd ps sp)(J:Room k X.A)(O:QA X (e::es) t)(q:j<=k:=by ext)(U:Gl X x:=by rfl)(B:Ah x:=by ext)(Y:starEach (e::es) X.env=(false,eval e X.env)::starEach es X.env:=by rfl)(I:(backTo pos (starEach es X.env)).any (·.1)=false:=by rfl) :
  QE X (.Call (.Name x p) (e::es) [] pos) (zcP sp [] E0 t):=
 ⟨zgb G (J.mono q) U D.m D.F.kp D.b .nil zj5 O.run B Y I⟩
def zsx{x:Str}{st:Stmt}{ps:AM}{ds:AN}{dv:AT}{f:Addr}{fd:Ac}{sp:Sp}{es:AO}{p pos:Pos}(D:DfnD X.K X.mg x st ps ds f fd)(J:zT dv ds)(G:FnOk X.prog X.w X.K X.mg X.base CX0 j f fd ps sp)(O:Room k X.A)(U:QA X (e::es) t)(q:j<=k:=by ext)(Y:Gl X x:=by rfl)(B:Ah x:=by ext)(Z:starEach (e::es) X.env=(false,eval e X.env)::starEach es X.env:=by rfl)(I:(backTo pos (starEach es X.env)).any (·.1)=false:=by rfl) :
  QE X (.Call (.Name x p) (e::es) [] pos) (zcP sp dv E0 t):=
 ⟨zgb G (O.mono q) Y D.m D.F.kp D.bd J zj5 U.run B Z I⟩
end
def zi5{K:AH}{x q:Str}{st:Stmt}{f:Addr}{Z J:Option Addr}{O kV F U B ct:Value}(l:K.lookup f=some ⟨Y,Z,.func (PySem.W.fnOf x q (z7 st) (zw st) (zc st) O kV F U J B ct),I⟩)(c:PySem.W.codeIn K B q=true)(k:PySem.W.keepIn K (.ref f)=true):FunD K x q st f (PySem.W.fnOf x q (z7 st) (zw st) (zc st) O kV F U J B ct):=⟨⟨Y,Z,O,kV,F,U,J,B,ct,I,rfl,l,c⟩,k⟩
def zgB{K:AH}{fd:Ac}{f:Addr}(l:K.lookup f=some ⟨F,q,.func fd,B⟩){ps:AM}{items:AK}{O:Array AJ}(U:fd.defaults = .ref T)(Y:K.lookup T=some ⟨I,J,.seq items n,O⟩)(h:∀us:AN,(us++ds).length=ps.length->∃k:Option AK->Sem (List (Str×Value)),bindArgs fd ⟨us,[]⟩=seqItems? fd.defaults >>= k/\k (some items)=pure (ps.zip (us++ds))):zac K fd ps ds:=λs us KX Z=>by
 obtain⟨k,h1,h2⟩:=h us Z;exact .of_defaults U (KX _ _ Y) rfl h1 h2
open PySem.W PySem.Calls
section
variable {prog:Aa}{w:Ab}{A:Ae}{E:AA}{s:AZ}{es:Array DictEntry}
def zan (h:Heap)(d:Addr)(es:Array DictEntry)(q:Nat):Prop:=∃o,h.get? d=some o/\o.ExactDict/\o.data = .dict es q
def zan.keep(x:zan h d es q)(k:∀o,h.get? d=some o->h'.get? d=some o):zan h' d es q:=let ⟨o,ho,r⟩:=x;⟨o,k o ho,r⟩
def zan.typeIs(x:zan s.heap d es q):s.TypeIs (.ref d) "dict" := let ⟨o,ho,hc,_⟩:=x;⟨o,ho,hc.1⟩
def zan.lt(x:zan h d es q):d<h.objs.size:=let ⟨o,ho,_⟩:=x;az ho
def zjk(Y:(d==sysModules)=false)(J:zan s.heap d es I)(U:Q (.ref s.heap.objs.size) { s with heap:=s.heap.push { cls:=.type "dict_keyiterator",data:=.fields #[.ref d,.int 0 0,.int es.size 0,.int I 0] } }) :
  Ag prog w A (pyIter (.ref d)) Q E s:=by
 obtain⟨o,O,Z,q⟩:=id J;have B:=J.typeIs;show fQ B PySem.F.slot_dict_iter (bf PySem.F.slot_dict_iter B PySem.F.entry_dict_iter ?_ (PySem.F.args_dict_iter_1 _));unfold Builtin.«dict.__iter__»;show ae ?_;unfold Builtin.Dict.dictSlotNone;show ae (wpAny_notOrdered_dict B ?_);change wpAny _ _ (pure (Value.ref d)) _ _ s;show ah ?_;change wpAny _ _ (Builtin.Dict.showsAll d >>= _) _ _ s;unfold Builtin.Dict.showsAll;rw[if_neg (by right)];show ae (ah ?_);show ae (fR O q ?_);show ae (wpAny_dictEpoch O q ?_);show ae (bz (ah ⟨_,rfl,"dict_keyiterator",_,⟨_,aw _ rfl,rfl⟩,PySem.F.slot_dict_keyiterator_next.lookup,?_⟩));simpa [rawInt] using U
def zlO(q:s.heap.IsKeyIter B d i es.size U)(hm:zan s.heap d es U)(hx:es[i]?=some e)(hQ:∀h',h'.IsKeyIter B d (i+1) es.size U->Heap.SameBut B s.heap h'->Q (.done (.ret e.key)) { s with heap:=h' }):Ag prog w A (Builtin.«dict_keyiterator.__next__» { pos:=[Value.ref B] }) Q E s:=by
 obtain⟨o,Z,hc,Y⟩:=id q;obtain⟨od,I,aa,J⟩:=id hm;show ae (ah ?_);show ae ?_;show ae ?_
 first | show ae (cC q.typeIs (ah ?_)) | show ae (by grind)
 show ae (fG Z Y ?_);have O:Builtin.Dict_items.ownsTuple "dict_keyiterator" = false:=by ext
 simp only[O,aP,if_false];show wpAny _ _ (if (Value.ref d==Value.none)=true then _ else _) _ _ s;rw[if_neg (by grind)];show ae (ah ?_);show ae (fR I J ?_);rw[if_neg (by simp)];show ae (ah ?_);show ae (wpAny_dictEpoch I J ?_);rw[if_neg (by simp)];show ah ?_;simp only[show ¬ ((i:Int)<0) from by lia,if_false,aR,hx];show ae ?_
 first | show ae (cC q.typeIs (ah ?_)) | show ae (by grind)
 show ae (wpAny_isOneOf_keyiter q.typeIs ?_);change wpAny _ _ (setField (.ref B) 1 (rawInt ((i:Int)+1)) >>= _) _ _ s;show ae (bO Z Y (by simp) ?_)
 have F:(s.heap.update B (Obj.mapFields (·.setIfInBounds 1 (rawInt ((i:Int)+1))))).IsKeyIter B d (i+1) es.size U:=
  ⟨_,bC _ Z (dj (cb Y _)),(ee ..).trans hc,by rw[cb Y];simp[rawInt]⟩
 show ae (bt ?_);show ae (wpAny_isOneOf_keyiter (s:={ s with heap:=s.heap.update B (Obj.mapFields (·.setIfInBounds 1 (rawInt ((i:Int)+1)))) }) F.typeIs ?_);change wpAny _ _ (pure e.key) _ _ _;exact ah (ah (hQ _ F (bw ..)))
def zhR(q:s.heap.IsKeyIter B d i es.size F)(I:zan s.heap d es F)(J:es[i]?=some e)(O:∀h',h'.IsKeyIter B d (i+1) es.size F->Heap.SameBut B s.heap h'->Q (some e.key) { s with heap:=h' }):Ag prog w A (pyNext (.ref B)) Q E s:=by
 unfold pyNext
 exact ae (dn (wpAny_callSpecial?_slot (name:=Str.ofString "__next__") q.typeIs b6
  (bf b6 q.typeIs dL (zlO q I J λh' a b=>⟨_,rfl,ah (O h' a b)⟩) (dD _))))
def zoK(Z:A.handled=none)(q:s.heap.IsKeyIter J d es.size es.size O)(hm:zan s.heap d es O)(hE:∀h' x,Heap.ExtBut J s.heap h'->(∃o,h'.get? x=some o/\o.cls = .type "StopIteration")->E (.ref x) { s with heap:=h' }):Ag prog w A (Builtin.«dict_keyiterator.__next__» { pos:=[Value.ref J] }) Q E s:=by
 obtain⟨o,U,hc,Y⟩:=id q;obtain⟨od,B,aa,F⟩:=id hm;show ae (ah ?_);show ae ?_;show ae ?_
 first | show ae (cC q.typeIs (ah ?_)) | show ae (by grind)
 show ae (fG U Y ?_);have I:Builtin.Dict_items.ownsTuple "dict_keyiterator" = false:=by ext
 simp only[I,aP,if_false];show wpAny _ _ (if (Value.ref d==Value.none)=true then _ else _) _ _ s;rw[if_neg (by grind)];show ae (ah ?_);show ae (fR B F ?_);rw[if_neg (by simp)];show ae (ah ?_);show ae (wpAny_dictEpoch B F ?_);rw[if_neg (by simp)];show ah ?_;simp only[show ¬ ((es.size:Int)<0) from by lia,if_false,aR,Array.getElem?_eq_none (ak es.size)];show ae ?_
 first | show ae (cC q.typeIs (ah ?_)) | show ae (by grind)
 change wpAny _ _ (setField (.ref J) 0 .none >>= _) _ _ s;show ae (bO U Y (by simp) ?_);change wpAny _ _ (newExc (.type "StopIteration") [] >>= _) _ _ _;show ae ?_;simp only[newExc,newTuple];show ae (bz ?_ (by size_fits));show ae (m:=firstArgMember _ _) (wpAny_of_eq (a:=Value.none) (by first | rfl | (simp only[firstArgMember];rfl)) ?_);show bz ?_ (by size_fits);simp only[raiseNew];show ae (fU ?_);rw[Z];show ae (ah (wpAny_throw ?_));exact hE _ _ (((bw ..).extBut.push _).push _) ⟨_,aw _ rfl,rfl⟩
def zjV(I:A.handled=none)(q:s.heap.IsKeyIter B d es.size es.size F)(J:zan s.heap d es F)(O:∀h',Heap.ExtBut B s.heap h'->Q none { s with heap:=h' }):Ag prog w A (pyNext (.ref B)) Q E s:=by
 unfold pyNext
 show ae (dn (wpAny_callSpecial?_slot (name:=Str.ofString "__next__") q.typeIs b6
  (bf b6 q.typeIs dL (zoK I q J λh' x a b=>?_) (dD _))))
 exact ae (dH (T := "StopIteration") (b:=true) b fH (ah (O _ a)))
def zhF (hh:A.handled=none)(I d:Addr)(J:d≠I)(U:Nat) :
  Walks prog w A I [I,d] [I] es.size (λi v=>∃e,es[i]?=some e/\v=e.key) (λi h=>h.IsKeyIter I d i es.size U/\zan h d es U) where
 sub:=λb q=>by simp at q;simp[q]
 frame:=λ_ _ _ st Y=>⟨let ⟨o,ho,r⟩:=st.1;⟨o,Y I (by simp) o ho,r⟩,st.2.keep λo e=>Y d (by simp) o e⟩
 item:=λi s Q E hi st B=>by show zhR st.1 st.2 (aS hi) λh' F Z=>?_;exact B _ h' s.toks ⟨_,aS hi,rfl⟩ ⟨F,st.2.keep λo e=>(Z.2 d J).trans e⟩ λb o q e=>Z.extBut b o (λh=>q (by simp[h])) e
 done:=λs Q E st B=>zjV hh st.1 st.2 λh' O=>B h' s.toks λb o q e=>O b o (λh=>q (by simp[h])) e
 self:=λ_ _ _ _ st B=>wpAny_pyIter_keyiter st.1 B
def zgJ (d:Addr)(B:Nat)(lo:(d==sysModules)=false):KdlSrc prog w "dict" d d es.size (λi v=>∃e,es[i]?=some e/\v=e.key) (λh=>zan h d es B) where
 type:=λs S=>S.typeIs
 there:=λ_ S=>⟨S.lt,S.lt⟩
 keep:=λ_ _ S F=>S.keep λo e=>F d (.inl rfl) o e
 notList:=by ext
 notTuple:=by ext
 hint:=λ_ _ _ _ S q=>kdl_hint_dict S.typeIs q
 iter:=λA s I S=>⟨_,_,(λ_ _ q=>zjk lo S q),zhF I _ d (aV S.lt) B,⟨⟨_,aw _ rfl,rfl,rfl⟩,S.keep λo e=>ai _ e⟩⟩
variable {X:Cx}
end
def zcG (kvs:List (AG×V)):List (List Key×V):=kvs.map λq=>(q.1.map Sum.inl,q.2)
def dtO (kvs:List (AG×V)):HO:=.dT (zcG kvs)
def zdJ (kvs:List (AG×V))(st:AG):xE (zcG kvs) (st.map Sum.inl)=xE kvs st:=by
 unfold zcG
 induction kvs with
 | nil=>rfl
 | cons q r B=>
  rw[aB];by_cases e:q.1=st;rw[z6 (p:=q) e,z6 (p:=(q.1.map Sum.inl,q.2)) (by rw[e])];rw[z5 (p:=q) e,z5 (p:=(q.1.map Sum.inl,q.2)) (λz=>e (uk z)),B]
def zlN (kvs:List (AG×V))(st:AG)(v:V):uU (zcG kvs) (st.map Sum.inl) v=zcG (uU kvs st v):=by
 have B:∀q:AG×V,decide ((q.1.map (Sum.inl:Int->Key))=st.map Sum.inl)=decide (q.1=st):=λq=>by rw[cW,cm,cm];exact⟨uk,λz=>by rw[z]⟩
 have F:((zcG kvs).any λkv=>decide (kv.1=st.map Sum.inl))=kvs.any λkv=>decide (kv.1=st):=by unfold zcG;rw[List.any_map];congr 1;funext q;exact B q
 unfold uU;rw[F];by_cases h:(kvs.any λkv=>decide (kv.1=st))=true;rw[if_pos h,if_pos h];unfold zcG;rw[aF,aF];show bL λq _=>?_;grind;rw[if_neg h,if_neg h];unfold zcG;right
def zbu.i{kvs:List (AG×V)}{st:AG}(e:H a=some (dtO kvs))(q:H b=some (.tup (st.map V.int))):zbu H a (.ref b) (xE kvs st):=by have:=zbu.t (k:=st.map Sum.inl) e (by rw[za7];exact q);rwa[zdJ] at this
def zeq.i{kvs:List (AG×V)}{st:AG}(e:H a=some (dtO kvs))(q:H b=some (.tup (st.map V.int)))(B:kvs.length<sizeLine):zeq H a (.ref b) v (upd H a (dtO (uU kvs st v))):=by have:=zeq.t (k:=st.map Sum.inl) (v:=v) e (by rw[za7];exact q) (by unfold zcG;rw[af];exact B);rwa[zlN] at this
def zqe:TE:=λ_ H Q=>New H (dtO []) Q
section
variable {X:Cx}
def zmo:QE X (.Dict [] [] pos) zqe:=⟨λpins s σ H Q I h=>zhe pins s σ H Q I λp q=>h.at q⟩
def zgL {pins:AB}{σ:St}{H:Hp}{s:AZ}(I:Inv X pins σ H s){a:Addr}{kvs:List (AG×V)}(h:Rd H a (dtO kvs)) :
  (a==sysModules)=false/\∃ (es:Array DictEntry) (B:Nat) (ys:AE),zan s.heap a es B/\ys.map (·.1)=kvs.map (·.1)/\(∀q∈ys,H q.2=some (.tup (q.1.map V.int)))/\es.toList.map (·.key)=ys.map (λq=>Value.ref q.2)/\kvs.length<=sizeLine/\(kvs.map (·.1)).Nodup:=by
 obtain⟨z,lo,xs,r,o,es,B,h1,h2,h3,h4,Y⟩:=(show ya X.prog X.w H s.heap a (.dT (zcG kvs)) from zpQ I.hok h)
 have F:∀ {kvs:List (AG×V)} {xs:List (List Key×Addr×Value)},Paired (λ(p:List Key×V) (q:List Key×Addr×Value)=>p.1=q.1/\H q.2.1=some (.tup (p.1.map kV))/\yd p.2 q.2.2) (zcG kvs) xs->
   ∃ys:AE,ys.map (·.1)=kvs.map (·.1)/\(∀q∈ys,H q.2=some (.tup (q.1.map V.int)))/\xs.map (λq=>Value.ref q.2.1)=ys.map (λq=>Value.ref q.2)/\xs.map (·.1)=kvs.map (λq=>q.1.map Sum.inl):=by
  intro kvs
  induction kvs with
  | nil=>intro xs r;cases r;exact⟨[],rfl,λ_ h=>by simp at h,rfl,rfl⟩
  | cons q kvs ih=>
   intro xs r
   cases r with
   | cons r1 r2=>
    rename_i x aa;obtain⟨ys,Z,J,e3,e4⟩:=ih r2;show⟨(q.1,x.2.1)::ys,by right,λy O=>?_,by right,by right⟩;rcases aG.mp O with rfl | O
    have:=r1.2.1;rwa[show ((q.1.map Sum.inl,q.2):List Key×V).1=q.1.map Sum.inl from rfl,za7] at this;exact J y O
 obtain⟨ys,Z,J,e3,e4⟩:=F r;show⟨lo,es,B,ys,⟨o,h1,h2,h3⟩,Z,J,?_,?_,?_⟩;rw[h4,aF,<- e3];rfl;unfold zcG at z;right;rw[e4] at Y;have U:((kvs.map (·.1)).map λst:AG=>st.map (Sum.inl:Int->Key)).Nodup:=by rw[aF];exact Y
 exact (bS.mp U).imp λh z=>h (by rw[z])
def zkt:AT->Hp->VK->Prop:=λxs H Q=>∃ (a:Addr) (kvs:List (AG×V)),xs=[.ref a]/\H a=some (dtO kvs)/\((kvs.map (·.1)).Nodup->∀ys:AT,IsL H ((kvs.map (·.1)).map stD) ys->New H (.lst ys) Q)
def zgG (Y:X.calm=true):CallQ X (.type "list") zkt:=⟨by
 intro pins s σ H xs us Q I r h;obtain⟨a,kvs,rfl,Z,q⟩:=h;obtain⟨u,rfl,ru⟩:=zaY r;cases ru;obtain⟨lo,es,ep,ys,E,O,e2,U,hz,J⟩:=zgL I (.inl Z)
 have hl:es.size=ys.length:=by
  have:=congrArg List.length U;grind
 have aa:ys.length=kvs.length:=by
  have:=congrArg List.length O;grind
 show kdl_call (zgJ (es:=es) a ep lo) (I.ok.hd Y) E (by right) λh' tk acc c kp hg B=>?_
 have F:acc.toList=ys.map λq=>Value.ref q.2:=by
  rw[<- U];show dG (by rw[aK,B.1,af,aK]) λj h1 h2=>?_;obtain⟨e,he,hv⟩:=B.2 j acc.toList[j] (by simp);rw[hv,ce];rw[zbT] at he;rw[af] at h2;right
 show⟨.ref s.heap.objs.size,_,I.laid (t':=tk) (o:=.lst (ys.map λq=>V.ref q.2)) kp (ak _) ⟨by right,ys.map (λq=>Value.ref q.2),c,zaZ ys,?_⟩,rfl,(q J _ ?_).at (I.hok.fresh (ak _))⟩;rw[<- F,Array.toArray_toList];exact hg;rw[<- O];exact zbI e2⟩
end
abbrev Up' (l:AF):Prop:=l.Pairwise λa b=>HT.lexLt a b=true
def zop (x:AG):AF->AF
 | []=>[x]
 | y::r=>if HT.lexLt x y then x::y::r else if x=y then y::r else y::zop x r
def zgn (l:AF):AF:=l.foldr zop []
def zdA {x z:AG}:∀ {l:AF},z∈zop x l↔z=x\/z∈l
 | []=>by change z∈[x]↔_;simp
 | y::r=>by
  unfold zop;split;simp;split;right;rw[aG,zdA,aG];grind
def yY {z:AG}:∀ {l:AF},z∈zgn l↔z∈l
 | []=>Iff.rfl
 | x::l=>by change z∈zop x (zgn l)↔_;rw[zdA,yY,aG]
def zje {x:AG}{m:Nat}(F:x.length=m):∀ {l:AF},(∀y∈l,y.length=m)->Up' l->Up' (zop x l)
 | [],_,_=>dS _ _
 | y::r,I,B=>by
  have J:=I y am;rw[Up',a9] at B;unfold zop;split
  ·rename_i h;show a9.mpr ⟨λz q=>?_,a9.mpr B⟩;rcases aG.mp q with rfl | q
   exact h;exact zaE (F.trans J.symm) (by grind) h (B.1 z q)
  ·rename_i h;split
   exact a9.mpr B
   ·rename_i O;show a9.mpr ⟨λz q=>?_,zje F (λz q=>I z (ar _ q)) B.2⟩;rcases zdA.mp q with rfl | q
    ·rcases uN (a:=z) (b:=y) (F.trans J.symm) with e | e | e
     all_goals right
    exact B.1 z q
def zkG{l:AF}(h:∀y∈l,y.length=m):∀y∈zgn l,y.length=m:=λy q=>h y (yY.mp q)
def zef:∀ {l:AF},(∀y∈l,y.length=m)->Up' (zgn l)
 | [],_=>.nil
 | x::l,h=>zje (h x am) (zkG λy q=>h y (ar _ q)) (zef λy q=>h y (ar _ q))
def zkZ:∀ {l l':AF},(∀y∈l,y.length=m)->Up' l->Up' l'->(∀z,z∈l↔z∈l')->l=l'
 | [],[],_,_,_,_=>rfl
 | [],y::r,_,_,_,h=>absurd ((h y).mpr am) (by simp)
 | x::l,[],_,_,_,h=>absurd ((h x).mp am) (by simp)
 | x::l,y::r,F,I,q,h=>by
  rw[Up',a9] at I q;have B:∀z∈y::r,z.length=m:=λz J=>F z ((h z).mpr J)
  have e:x=y:=by
   rcases aG.mp ((h x).mp am) with e | e;exact e;rcases aG.mp ((h y).mpr am) with O | O;exact O.symm;have h1:=q.1 x e;have h2:=I.1 y O;have Y:=zaE ((F x am).trans (B y am).symm) ((B y am).trans (F x am).symm) h2 h1;rw[yL] at Y;cases Y
  subst e;have U:∀ {l:AF},(∀z∈l,HT.lexLt x z=true)->x∉l:=λZ z=>by have:=Z x z;rw[yL] at this;cases this
  congr 1;show zkZ (λz J=>F z (ar _ J)) I.2 q.2 λz=>?_;grind
def zbP{l l':AF}(q:∀y∈l,y.length=m)(B:Up' l')(h:∀z,z∈l'↔z∈l):l'=zgn l:=
 zkZ (λy F=>q y ((h y).mp F)) B (zef q) λz=>(h z).trans yY.symm
def zmU {l:AF}(h:Up' l):l.Nodup:=h.imp λ{a b} q e=>by subst e;rw[yL] at q;cases q
def xS (bk:AW)(st hs:AG):AF:=(bk.filter λx=>zad st x&&!hs.contains x.b).map λx=>chg st x.b x.r
def yy (bk:AW)(st hs:AG):AF:=zgn (xS bk st hs)
def yR{st hs z:AG}:z∈xS bk st hs↔∃x∈bk,zad st x=true/\x.b∉hs/\z=chg st x.b x.r:=by
 unfold xS;grind
def zbZ{rm:AG}{st hs:AG}(q:∀x∈bk,WishOk rm x)(F:st.length=rm.length):∀z∈xS bk st hs,z.length=rm.length:=λz I=>by obtain⟨x,B,_,_,rfl⟩:=yR.mp I;have h1:=(q x B).b1;rw[ziw (q x B).b0 (by lia)];exact F
def zau (H:Hp)(v:V)(hs:AG):Prop:=(v = .non/\hs=[])\/∃p,v = .ref p/\H p=some (.tup (hs.map V.int))
def zau.stay{hs:AG}(h:zau H v hs)(s:zu H H'):zau H' v hs:=by
 rcases h with h | ⟨p,e,h⟩;exact .inl h;exact .inr ⟨p,e,s.tup h⟩
def zaa(s:zu A B){hs:AG}(h:zau A v hs):zau B v hs:=h.stay s
def zhz (H:Hp)(l:Addr)(sts:AF):Prop:=∃ys,H l=some (.lst ys)/\IsL H (sts.map stD) ys
def zhz.stay{sts:AF}(h:zhz H l sts)(s:zu H H'):zhz H' l sts:=let ⟨ys,h1,h2⟩:=h;⟨ys,s.lst h1,h2.stay s⟩
def zab(s:zu A B){sts:AF}(h:zhz A l sts):zhz B l sts:=h.stay s
def znL:Sp:=λvs H Q _=>∃ (F q:V) (B a:Addr) (rm:AG) (xs:AT) (bk:AW) (st hs:AG),vs=[F,.ref B,.ref a,q]/\1<=rm.length/\rm.length<=8/\BookAt H rm B xs bk/\(∀r∈rm,2<=r/\r<=4)/\H a=some (.tup (st.map V.int))/\st.length=rm.length/\zau H q hs/\
 ∀ (l:Addr) (H':Hp),H l=none->zhz H' l (yy bk st hs)->yO H H'->Q (.ref l) H'
def uO {α:Type}[BEq α][LawfulBEq α]:∀ {l l':List α},l.Nodup->(∀x∈l,x∈l')->l.length<=l'.length
 | [],_,_,_=>aM _
 | a::l,l',hn,h=>by
  rw[cZ] at hn;have q:=h a am;have:=uO (l:=l) (l':=l'.erase a) hn.2 λx B=>by grind
  grind
def zbY{rm:AG}{st hs:AG}{ks:AF}(q:∀x∈bk,WishOk rm x)(U:rm.length<=8)(B:∀r∈rm,2<=r/\r<=4)(hn:ks.Nodup)(F:∀z∈ks,z∈xS bk st hs):ks.length<=32:=by
 have:=uO (l':=(List.range 32).map λc=>chg st ((c / 4:Nat):Int) ((c % 4:Nat):Int)) hn λz I=>by obtain⟨x,J,_,_,rfl⟩:=yR.mp (F z I);have o:=q x J;have h1:=o.b1;have h2:=o.b0;have O:=o.r0;have Y:=o.r1;have Z:=(x6 B h2 h1).2;show aD.mpr ⟨4 * x.b.toNat+x.r.toNat,aQ.mpr (by lia),?_⟩;rw[show (4 * x.b.toNat+x.r.toNat) / 4=x.b.toNat by lia,show (4 * x.b.toNat+x.r.toNat) % 4=x.r.toNat by lia,eX h2,eX O]
 right
def znV{rm:AG}{st hs:AG}(q:∀x∈bk,WishOk rm x)(B:rm.length<=8)(F:∀r∈rm,2<=r/\r<=4)(I:st.length=rm.length):(yy bk st hs).length<=32:=
 zbY (hs:=hs) q B F (zmU (zef (zbZ q I))) λz J=>yY.mp J
end L2
namespace L2
open PyProof.Rows PySem.SeqAt
def zbQ:∀ds:AS,Dt.toWs ds=ds.map Dt.toW
 | []=>rfl
 | d::ds=>by rw[Dt.toWs,aB,zbQ ds]
def zeX:∀ds:List PySem.W.Dat,PySem.W.kqdPs ds=ds.map PySem.W.kqdP
 | []=>by simp[PySem.W.kqdPs]
 | d::ds=>by rw[aB,<- zeX ds];simp[PySem.W.kqdPs]
def zvq (q:Bool):R2:=λx y H Q=>∃d ds,Is H d x/\(Is H (.lst ds) y\/Is H (.tup ds) y)/\d.eqOk/\(Dt.lst ds).eqOk/\∀b:Bool,(b=true↔d∈ds)->Q (.bl (if q then !b else b)) H
section
variable {X:Cx}
def zdE(h:(Dt.lst ds).eqOk):∀d∈ds,PySem.W.kqdOk 7 d.toW=true:=λd q=>by
 have h':PySem.W.kqdOk 8 (Dt.lst ds).toW=true:=h;simp only[Dt.toW,PySem.W.kqdOk,cz,zbQ] at h';right
def zio(q:d.eqOk)(hs:(Dt.lst ds).eqOk):((PySem.W.kqdPs (Dt.toWs ds)).any λy=>PyData.eqv y (PySem.W.kqdP d.toW))=true↔d∈ds:=by
 rw[zeX,zbQ,aF,List.any_map,ge];constructor;rintro⟨e,B,h⟩;have:=(PySem.W.kqd_eqv 7 e.toW d.toW 8 (zdE hs e B) q).mp h;rw[<- zgq this];exact B;intro h;exact⟨d,h,(PySem.W.kqd_eqv 7 d.toW d.toW 8 (zdE hs d h) q).mpr rfl⟩
def zlQ(h:PySem.W.kqdOk 7 d=true):PySem.W.kqdOk 8 d=true:=by
 have q:∀ (n:Nat) (d:PySem.W.Dat),PySem.W.kqdOk n d=true->PySem.W.kqdOk (n+1) d=true:=by
  intro n
  induction n with
  | zero=>intro d h;cases d <;> simp_all [PySem.W.kqdOk]
  | succ n B=>
   intro d h;cases d <;> simp_all [PySem.W.kqdOk]
 exact q 7 d h
def zrz {d:Dt}{ds:AS}{u:Nat}(I:d.eqOk)(hs:(Dt.lst ds).eqOk)(U:u+64<cLine):PyData.canLayAll0 (PySem.W.kqdPs (Dt.toWs ds))=true/\(PySem.W.kqdP d.toW).canLay0=true/\u+1+min (PyData.depthAll (PySem.W.kqdPs (Dt.toWs ds))) (PySem.W.kqdP d.toW).depth<cLine:=by
 have B:=PySem.W.kqd_lay 8 _ I;have J:=PySem.W.kqd_layL (ds:=Dt.toWs ds) λe F=>by rw[zbQ] at F;obtain⟨O,q,rfl⟩:=aD.mp F;exact zlQ (zdE hs O q)
 show⟨J.1,B.1,?_⟩;have:min (PyData.depthAll (PySem.W.kqdPs (Dt.toWs ds))) (PySem.W.kqdP d.toW).depth<=8:=aA (Nat.min_le_right _ _) B.2;lia
def zrZ (Z:X.A.units+64<cLine):OpQ X (compareOp .In) (zvq false):=⟨by
 intro pins s σ H x y v u Q I rx J h;obtain⟨d,ds,hd,B,F,ks,q⟩:=h;obtain⟨as,ra⟩:=xp I.hok 8 hd rx F;obtain⟨O,U,Y⟩:=zrz F ks Z;rcases B with B | B;obtain⟨bs,rb⟩:=xp I.hok 8 B J ks;exact in_list_reads rb ra O U Y ⟨.bl _,H,I,rfl,q _ (zio F ks)⟩;obtain⟨bs,rb⟩:=xp I.hok 8 B J (show (Dt.tup ds).eqOk from ks);exact in_tuple_reads rb ra O U Y ⟨.bl _,H,I,rfl,q _ (zio F ks)⟩⟩
end
def zr3 (bk:AW)(q:Int)(st:AG):AF:=(bk.filter λx=>decide (x.b=q)&&xu st x.g).map λx=>[x.w,x.r]
def lpF (bk:AW)(q:Int)(st:AG):AF:=zgn (zr3 bk q st)
def zmP (C:Nat->Nat->Bool)(w j:Nat):AF:=((List.range j).filter (C w)).map λb:Nat=>[(w:Int),(b:Int)]
def zvC (C:Nat->Nat->Bool)(n:Nat):Nat->AF
 | 0=>[]
 | i+1=>zvC C n i++zmP C i n
def zqb {a b:AG}(h:stD a=stD b):a=b:=by have:=congrArg (List.map Dt.val) (Dt.tup.inj h);rwa[uv,uv] at this
open PySem.W PySem.Calls
section
variable {prog:Aa}{w:Ab}{A:Ae}{E:AA}{s:AZ}{R:Result->AZ->Prop}
variable {X:Cx}
variable {e st:Expr}{te tk:TE}{pos p2:Pos}
end
def unlike (one z hs:AG):AG:=hs.filter λb=>decide (zP one b≠zP z b)
section
variable {X:Cx}{pos:Pos}
def zgg:QS X (.Continue pos) zsZ:=⟨zgd⟩
end
end L2
namespace L2
open PyProof.Rows
end L2
namespace L2
open PyProof.Rows
section
variable {M:Model}{A:Ae}{E:AA}{s:AZ}
variable {X:Cx}{pins:AB}{σ:St}{H:Hp}{scope:Scope}{N:AM}{z:Str}{cix:List (Option Nat)}
end
end L2
namespace L2
open PyProof.Rows
end L2
namespace L2
open PyProof.Rows
section
variable {prog:Aa}{w:Ab}{A:Ae}{E:AA}{s:AZ}{R:Result->AZ->Prop}{Kt:Type}[DecidableEq Kt]{knd:KeyKind prog w Kt}{κ:Int->Kt}
end
end L2
namespace L2
open PyProof.Rows
def zpp {X:Cx}{pins:AB}{σ:St}{H:Hp}{s:AZ}{a:Addr}{xs:AT}(I:Inv X pins σ H s)(h:SqL X.K H a xs):∃q:AN,zT xs q/\s.heap.IsList a q.toArray/\xs.length<=sizeLine:=by obtain⟨q,r,⟨o,n,e,c,_,d⟩,z⟩:=I.list h;exact⟨q,r,⟨o,e,c,n,d⟩,z⟩
end L2
namespace L2
open PyProof.Rows
abbrev nmS (b:Bool):String:=match b with | true => "tuple" | false => "list"
abbrev nmI (b:Bool):String:=match b with | true => "tuple_iterator" | false => "list_iterator"
def SqH (b:Bool)(h:Heap)(l:Addr)(xs:AK):Prop:=∃o,h.get? l=some o/\o.cls = .type (nmS b)/\∃n,o.data = .seq xs n
def ItH (b:Bool)(h:Heap)(i l:Addr)(k:Nat):Prop:=∃o,h.get? i=some o/\o.cls = .type (nmI b)/\o.data = .fields #[.ref l,.int k 0]
abbrev SqV (b:Bool) (K:AH) (H:Hp) (a:Addr) (xs:AT):Prop:=match b with | true=>SqT K H a xs | false=>SqL K H a xs
def zgc{X:Cx}{pins:AB}{σ:St}{H:Hp}{s:AZ}{a:Addr}{xs:AT}(I:Inv X pins σ H s)(h:SqV b X.K H a xs):∃q:AN,zT xs q/\SqH b s.heap a q.toArray:=by
 cases b;obtain⟨q,r,p,_⟩:=zpp I h;exact⟨q,r,p⟩;obtain⟨q,r,p,_⟩:=I.tuple h;exact⟨q,r,p⟩
def zuA{X:Cx}{pins:AB}{σ:St}{H:Hp}{a:Addr}(I:Inv X pins σ H s)(h:SqV b X.K H a xs)(h':SqV b X.K H a ys):xs=ys:=by
 cases b;exact I.list_inj h h';exact I.tuple_inj h h'
section
variable {prog:Aa}{w:Ab}{A:Ae}{E:AA}{s:AZ}
def zhS(q:ItH k s.heap B t i)(F:SqH k s.heap t items)(I:items[i]?=some x)(J:∀h',ItH k h' B t (i+1)->Heap.SameBut B s.heap h'->Q x { s with heap:=h' }):Ag prog w A (Builtin.SmallTypes.nextOf (.ref B)) Q E s:=by
 cases k;exact wpAny_nextOf_list_item q F I J;exact xY q F I J
def zjW(F:A.handled=none)(q:ItH k s.heap B t i)(I:SqH k s.heap t items)(J:items[i]?=none)(O:∀h' e,Heap.ExtBut B s.heap h'->(∃o,h'.get? e=some o/\o.cls = .type "StopIteration")->E (.ref e) { s with heap:=h' }):Ag prog w A (Builtin.SmallTypes.nextOf (.ref B)) Q E s:=by
 cases k;exact wpAny_nextOf_list_end F q I J O;exact zby F q I J O
def zuB(h:SqH k s.heap l items)(q:Q (.ref s.heap.objs.size) { s with heap:=s.heap.push { cls:=.type (nmI k),data:=.fields #[.ref l,.int 0 0] } }):Ag prog w A (pyIter (.ref l)) Q E s:=by
 cases k;exact fJ h q;exact fg h q
def zcQ{z TI TO Z F t1 t2:Addr}{xs ys:AK}{x y a b:Value}{Q:AA}(D:ZipApart z TI TO Z F t1 t2)(hz:IsZip s.heap z TI TO .none)(b0:IsPair s.heap TI (.ref Z) (.ref F))(b1:IsPair s.heap TO a b)(h1:ItH kb s.heap Z t1 k1)(h2:s.heap.IsTupleIter F t2 k2)(hx:SqH kb s.heap t1 xs)(hy:s.heap.IsTuple t2 ys)(ex:xs[k1]?=some x)(ey:ys[k2]?=some y)(hQ:∀h',IsZip h' z TI TO (rawInt s.heap.objs.size)->IsPair h' TO x y->ItH kb h' Z t1 (k1+1)->h'.IsTupleIter F t2 (k2+1)->IsPair h' s.heap.objs.size x y->h'.objs.size=s.heap.objs.size+1->
   (∀c o,c≠z->c≠TO->c≠Z->c≠F->s.heap.get? c=some o->h'.get? c=some o)->Q (.ref s.heap.objs.size) { s with heap:=h' }) :
  Ag prog w A (Builtin.«zip.__next__» ⟨[.ref z],[]⟩) (λfin s'=>∃v,fin = .done (.ret v)/\Q v s') E s:=by
 change wpAny _ _ (field (.ref z) 2 >>= _) _ _ s;show ae (b9 hz rfl (x:=.bool false) rfl ?_);change wpAny _ _ (field (.ref z) 3 >>= _) _ _ s;show ae (b9 hz rfl (x:=.ref TI) rfl ?_);change wpAny _ _ (seqItems? (.ref TI) >>= _) _ _ s;show ae (cI b0 rfl ?_);change wpAny _ _ (Builtin.SmallTypes.ownedTupleIsFree (.ref z) >>= _) _ _ s;show ae ?_;change wpAny _ _ (field (.ref z) 0 >>= _) _ _ s;show ae (b9 hz rfl (x:=.none) rfl ?_);show ah ?_;change wpAny _ _ (rule "zip.__next__.owned-tuple-again" >>= _) _ _ s;show ae (cU ?_);change wpAny _ _ (field (.ref z) 4 >>= _) _ _ s;show ae (b9 hz rfl (x:=.ref TO) rfl ?_);change wpAny _ _ (setField (.ref z) 0 .ellipsis >>= _) _ _ s;show ae (bO hz rfl (by simp) ?_);have a1:(s.heap.update z (Obj.mapFields λx=>x.setIfInBounds 0 Value.ellipsis)).get? z=some { cls:=.type "zip",data:=.fields #[.ellipsis,.bool false,.bool false,.ref TI,.ref TO] }:=bC _ hz rfl;have B:∀c,c≠z->(s.heap.update z (Obj.mapFields λx=>x.setIfInBounds 0 Value.ellipsis)).get? c=s.heap.get? c:=λc q=>bK _ _ (Ne.symm q);have a2:(s.heap.update z (Obj.mapFields λx=>x.setIfInBounds 0 Value.ellipsis)).objs.size=s.heap.objs.size:=by simp[Heap.update]
 generalize s.heap.update z (Obj.mapFields λx=>x.setIfInBounds 0 Value.ellipsis)=H1 at a1 B a2;change wpAny _ _ (forIn ([(Value.ref Z,0),(Value.ref F,1)]:List (Value×Nat)) ((none,()):Option PySem.Fin×Unit) _ >>= _) _ _ _;rw[dR];show ae (ae ?_);show ae (wpAny_onRaise ?_);change wpAny _ _ (if (Value.bool false==Value.bool true)=true then _ else (Builtin.SmallTypes.nextOf (.ref Z) >>= λx=>pure (some x))) _ _ _;rw[if_neg (by ext)];have b2:ItH kb H1 Z t1 k1:=by obtain⟨o,I,r⟩:=h1;exact⟨o,(B _ D.i1z).trans I,r⟩
 have b3:SqH kb H1 t1 xs:=by obtain⟨o,I,r⟩:=hx;exact⟨o,(B _ D.l1z).trans I,r⟩
 show ae (zhS (s:={ s with heap:=H1 }) b2 b3 ex λH2 a3 a4=>?_);show ah ?_;have J:∀c,c≠Z->H2.get? c=H1.get? c:=λc q=>a4.2 c q;have ac:IsPair H2 TO a b:=(J _ D.TOi1).trans ((B _ D.TOz).trans b1);change wpAny _ _ (seqItems? (.ref TO) >>= _) _ _ _;show ae (cI (s:={ s with heap:=H2 }) ac rfl ?_);show ae (wpAny_updateSeq_pair (s:={ s with heap:=H2 }) ac λH3 a5 a7=>?_);show ae (wpAny_letGo ?_);show ah ?_;have al:IsPair H3 TO x b:=a5;have O:∀c,c≠TO->H3.get? c=H2.get? c:=λc q=>a7.2 c q;change wpAny _ _ (forIn ([(Value.ref F,1)]:List (Value×Nat)) ((none,()):Option PySem.Fin×Unit) _) _ _ _;rw[dR];show ae ?_;show ae (wpAny_onRaise ?_);change wpAny _ _ (if (Value.bool false==Value.bool true)=true then _ else (Builtin.SmallTypes.nextOf (.ref F) >>= λx=>pure (some x))) _ _ _;rw[if_neg (by ext)];have b4:H3.IsTupleIter F t2 k2:=by obtain⟨o,I,r⟩:=h2;exact⟨o,(O _ (Ne.symm D.TOi2)).trans ((J _ (Ne.symm D.i12)).trans ((B _ D.i2z).trans I)),r⟩
 have ca:H3.IsTuple t2 ys:=by obtain⟨o,I,r⟩:=hy;exact⟨o,(O _ D.l2TO).trans ((J _ D.l2i1).trans ((B _ D.l2z).trans I)),r⟩
 show ae (xY (s:={ s with heap:=H3 }) b4 ca ey λH4 ba bb=>?_);show ah ?_;have aa:∀c,c≠F->H4.get? c=H3.get? c:=λc q=>bb.2 c q;have ad:IsPair H4 TO x b:=(aa _ D.TOi2).trans al;change wpAny _ _ (seqItems? (.ref TO) >>= _) _ _ _;show ae (cI (s:={ s with heap:=H4 }) ad rfl ?_);show ae (wpAny_updateSeq_pair (s:={ s with heap:=H4 }) ad λH5 bc bd=>?_);show ae (wpAny_letGo ?_);show ah ?_;have U:IsPair H5 TO x y:=bc;have ab:∀c,c≠TO->H5.get? c=H4.get? c:=λc q=>bd.2 c q;change wpAny _ _ (forIn ([]:List (Value×Nat)) ((none,()):Option PySem.Fin×Unit) _) _ _ _;rw[List.forIn_nil];show ah ?_;change wpAny _ _ (seqItems? (.ref TO) >>= _) _ _ _;show ae (cI (s:={ s with heap:=H5 }) U rfl ?_);show ae (wpAny_newTuple ?_ (by change 2<=sizeLine;decide));have be:H5.objs.size=s.heap.objs.size:=bd.1.trans (bb.1.trans (a7.1.trans (a4.1.trans a2)));have ko:∀c o,c≠z->c≠TO->c≠Z->c≠F->s.heap.get? c=some o->H5.get? c=some o:=λc o c1 c2 c3 c4 e=>(ab _ c2).trans ((aa _ c4).trans ((O _ c2).trans ((J _ c3).trans ((B _ c1).trans e))));have cc:H5.get? z=some { cls:=.type "zip",data:=.fields #[.ellipsis,.bool false,.bool false,.ref TI,.ref TO] }:=(ab _ (Ne.symm D.TOz)).trans ((aa _ (Ne.symm D.i2z)).trans ((O _ (Ne.symm D.TOz)).trans ((J _ (Ne.symm D.i1z)).trans a1)));have Y:=aw H5 (o:={ cls:=.type "tuple",data:=.seq #[x,y] }) rfl;change wpAny _ _ (Builtin.SmallTypes.ownedTupleHandOut (.ref z) (.ref H5.objs.size) >>= _) _ _ { s with heap:=H5.push { cls:=.type "tuple",data:=.seq #[x,y] } };have an:∀c o,H5.get? c=some o->(H5.push { cls:=.type "tuple",data:=.seq #[x,y] }).get? c=some o:=λc o e=>ai _ e;have bk:(H5.push { cls:=.type "tuple",data:=.seq #[x,y] }).objs.size=s.heap.objs.size+1:=by rw[cS,be]
 rw[be] at Y ⊢;generalize H5.push { cls:=.type "tuple",data:=.seq #[x,y] }=H6 at Y an bk;have bl:=an _ _ cc;show ae ?_;change wpAny _ _ (setField (.ref z) 0 (rawInt s.heap.objs.size) >>= _) _ _ { s with heap:=H6 };show ae (bO bl rfl (by simp) ?_);have ap:(H6.update z (Obj.mapFields λx=>x.setIfInBounds 0 (rawInt s.heap.objs.size))).get? z=some { cls:=.type "zip",data:=.fields #[rawInt s.heap.objs.size,.bool false,.bool false,.ref TI,.ref TO] }:=bC _ bl rfl;have as:∀c,c≠z->(H6.update z (Obj.mapFields λx=>x.setIfInBounds 0 (rawInt s.heap.objs.size))).get? c=H6.get? c:=λc q=>bK _ _ (Ne.symm q);have bo:(H6.update z (Obj.mapFields λx=>x.setIfInBounds 0 (rawInt s.heap.objs.size))).objs.size=H6.objs.size:=by simp[Heap.update]
 generalize H6.update z (Obj.mapFields λx=>x.setIfInBounds 0 (rawInt s.heap.objs.size))=H7 at ap as bo;show bO (s:={ s with heap:=H7 }) ap rfl (by simp) ?_;have bs:(H7.update z (Obj.mapFields λx=>x.setIfInBounds 1 (Value.bool false))).get? z=some { cls:=.type "zip",data:=.fields #[rawInt s.heap.objs.size,.bool false,.bool false,.ref TI,.ref TO] }:=bC _ ap rfl;have a0:∀c,c≠z->(H7.update z (Obj.mapFields λx=>x.setIfInBounds 1 (Value.bool false))).get? c=H7.get? c:=λc q=>bK _ _ (Ne.symm q);have bx:(H7.update z (Obj.mapFields λx=>x.setIfInBounds 1 (Value.bool false))).objs.size=H7.objs.size:=by simp[Heap.update]
 generalize H7.update z (Obj.mapFields λx=>x.setIfInBounds 1 (Value.bool false))=H8 at bs a0 bx;have kk:∀c o,c≠z->H5.get? c=some o->H8.get? c=some o:=λc o q e=>(a0 _ q).trans ((as _ q).trans (an _ _ e));have ag:=az hz;show ah ⟨_,rfl,hQ H8 bs (kk _ _ D.TOz U) ?_ ?_ ?_ (by rw[bx,bo,bk]) λc o c1 c2 c3 c4 e=>kk _ _ c1 (ko c o c1 c2 c3 c4 e)⟩;obtain⟨o,I,r⟩:=a3;exact⟨o,kk _ _ D.i1z ((ab _ (Ne.symm D.TOi1)).trans ((aa _ D.i12).trans ((O _ (Ne.symm D.TOi1)).trans I))),r⟩;obtain⟨o,I,r⟩:=ba;exact⟨o,kk _ _ D.i2z ((ab _ (Ne.symm D.TOi2)).trans I),r⟩;exact (a0 _ (ff ag)).trans ((as _ (ff ag)).trans Y)
def zep{z TI TO B U I t2:Addr}{xs:AK}{Q:PySem.Fin->AZ->Prop}(D:ZipApart z TI TO B U I t2)(hh:A.handled=none)(F:IsZip s.heap z TI TO .none)(Z:IsPair s.heap TI (.ref B) (.ref U))(h1:ItH kb s.heap B I Y)(hx:SqH kb s.heap I xs)(ex:xs[Y]?=none)(hE:∀h' e,(∀c o,c≠z->c≠B->s.heap.get? c=some o->h'.get? c=some o)->(∃o,h'.get? e=some o/\o.cls = .type "StopIteration")->E (.ref e) { s with heap:=h' }) :
  Ag prog w A (Builtin.«zip.__next__» ⟨[.ref z],[]⟩) Q E s:=by
 change wpAny _ _ (field (.ref z) 2 >>= _) _ _ s;show ae (b9 F rfl (x:=.bool false) rfl ?_);change wpAny _ _ (field (.ref z) 3 >>= _) _ _ s;show ae (b9 F rfl (x:=.ref TI) rfl ?_);change wpAny _ _ (seqItems? (.ref TI) >>= _) _ _ s;show ae (cI Z rfl ?_);change wpAny _ _ (Builtin.SmallTypes.ownedTupleIsFree (.ref z) >>= _) _ _ s;show ae ?_;change wpAny _ _ (field (.ref z) 0 >>= _) _ _ s;show ae (b9 F rfl (x:=.none) rfl ?_);show ah ?_;change wpAny _ _ (rule "zip.__next__.owned-tuple-again" >>= _) _ _ s;show ae (cU ?_);change wpAny _ _ (field (.ref z) 4 >>= _) _ _ s;show ae (b9 F rfl (x:=.ref TO) rfl ?_);change wpAny _ _ (setField (.ref z) 0 .ellipsis >>= _) _ _ s;show ae (bO F rfl (by simp) ?_);have J:(s.heap.update z (Obj.mapFields λx=>x.setIfInBounds 0 Value.ellipsis)).get? z=some { cls:=.type "zip",data:=.fields #[.ellipsis,.bool false,.bool false,.ref TI,.ref TO] }:=bC _ F rfl;have q:∀c,c≠z->(s.heap.update z (Obj.mapFields λx=>x.setIfInBounds 0 Value.ellipsis)).get? c=s.heap.get? c:=λc hc=>bK _ _ (Ne.symm hc);generalize s.heap.update z (Obj.mapFields λx=>x.setIfInBounds 0 Value.ellipsis)=H1 at J q;change wpAny _ _ (forIn ([(Value.ref B,0),(Value.ref U,1)]:List (Value×Nat)) ((none,()):Option PySem.Fin×Unit) _ >>= _) _ _ _;rw[dR];show ae (ae ?_);show ae (wpAny_onRaise ?_);change wpAny _ _ (if (Value.bool false==Value.bool true)=true then _ else (Builtin.SmallTypes.nextOf (.ref B) >>= λx=>pure (some x))) _ _ _;rw[if_neg (by ext)];have aa:ItH kb H1 B I Y:=by obtain⟨o,O,r⟩:=h1;exact⟨o,(q _ D.i1z).trans O,r⟩
 have ab:SqH kb H1 I xs:=by obtain⟨o,O,r⟩:=hx;exact⟨o,(q _ D.l1z).trans O,r⟩
 show ae (zjW (s:={ s with heap:=H1 }) hh aa ab ex λH2 e eb he=>?_);have ac:=eb z _ (Ne.symm D.i1z) J;show bO (s:={ s with heap:=H2 }) ac rfl (by simp) ?_;have ad:e≠z:=by grind
 show hE _ e (λc o c1 c2 e1=>?_) ?_;exact (bK _ _ (Ne.symm c1)).trans (eb c o c2 ((q _ c1).trans e1));obtain⟨o,O,hc⟩:=he;exact⟨o,(bK _ _ (Ne.symm ad)).trans O,hc⟩
def zhy (kb:Bool)(h:Heap)(q B:Addr):Heap:=
 ((((h.push { cls:=.type (nmI kb),data:=.fields #[.ref q,.int 0 0] }).push { cls:=.type "tuple_iterator",data:=.fields #[.ref B,.int 0 0] }).push { cls:=.type "tuple",data:=.seq #[.ref h.objs.size,.ref (h.objs.size+1)] }).push { cls:=.type "tuple",data:=.seq #[.none,.none] }).push
  { cls:=.type "zip",data:=.fields #[.none,.bool false,.bool false,.ref (h.objs.size+2),.ref (h.objs.size+3)] }
def zcH (kb:Bool)(q B:Addr)(xs ys:AK) :
  Meets (Builtin.«zip.__new__» ⟨[.type "zip",.ref q,.ref B],[]⟩) (λ_ R s=>SqH kb s.heap q xs/\s.heap.IsTuple B ys/\R (.ok (.ret (.ref (s.heap.objs.size+4)))) { s with heap:=zhy kb s.heap q B }):=
 .of_wp λprog w A R s h=>by
  obtain⟨J,g,d,tk,O⟩:=s;obtain⟨h1,h2,h⟩:=h;have I:=sub_zip;have F:Heap.IsTuple (Shared.heap ⟨J.push { cls:=.type (nmI kb),data:=.fields #[.ref q,.int 0 0] },g,d,tk,O⟩) B ys:=by obtain⟨o,U,r⟩:=h2;exact⟨o,ai _ U,r⟩
  wp_walk using zuB h1,fg F
  show⟨_,rfl,?_⟩;unfold zhy at h;simpa [cS,Builtin.SmallTypes.ownedTupleFields] using h
def ziu(h1:SqH kb s.heap q xs)(h2:s.heap.IsTuple I ys)(h:∀h',IsZip h' (s.heap.objs.size+4) (s.heap.objs.size+2) (s.heap.objs.size+3) .none->IsPair h' (s.heap.objs.size+2) (.ref s.heap.objs.size) (.ref (s.heap.objs.size+1))->IsPair h' (s.heap.objs.size+3) .none .none->
   ItH kb h' s.heap.objs.size q 0->h'.IsTupleIter (s.heap.objs.size+1) I 0->h'.objs.size=s.heap.objs.size+5->(∀b o,s.heap.get? b=some o->h'.get? b=some o)->Q (.ref (s.heap.objs.size+4)) { s with heap:=h' }) :
  Ag prog w A (call (.type "zip") [.ref q,.ref I]) Q E s:=by
 show callType_new F.called_zip (by ext) (F.typeCall_zip_2 _ _) (F.newCall_zip_2 _ _) (λJ=>F.args_object_init_3 J _ _) F.entry_zip_new (zcH kb q I xs ys) ⟨h1,h2,?_⟩;generalize aa:({ cls:=.type (nmI kb),data:=.fields #[.ref q,.int 0 0] }:Obj)=o0;have z1:∀o,(s.heap.push o).objs.size=s.heap.objs.size+1:=λo=>cS ..;have z2:∀o o',((s.heap.push o).push o').objs.size=s.heap.objs.size+2:=λo o'=>by rw[cS,z1]
 have z3:∀o o' B,(((s.heap.push o).push o').push B).objs.size=s.heap.objs.size+3:=λo o' B=>by rw[cS,z2]
 have z4:∀o o' B p,((((s.heap.push o).push o').push B).push p).objs.size=s.heap.objs.size+4:=λo o' B p=>by rw[cS,z3]
 have gz:(zhy kb s.heap q I).get? (s.heap.objs.size+4)=some { cls:=.type "zip",data:=.fields #[.none,.bool false,.bool false,.ref (s.heap.objs.size+2),.ref (s.heap.objs.size+3)] }:=by unfold zhy;rw[<- z4];exact aw _ rfl
 have O:(zhy kb s.heap q I).get? (s.heap.objs.size+3)=some { cls:=.type "tuple",data:=.seq #[.none,.none] }:=by unfold zhy;show ai _ ?_;rw[<- z3];exact aw _ rfl
 have U:(zhy kb s.heap q I).get? (s.heap.objs.size+2)=some { cls:=.type "tuple",data:=.seq #[.ref s.heap.objs.size,.ref (s.heap.objs.size+1)] }:=by unfold zhy;show ai _ (ai _ ?_);rw[<- z2];exact aw _ rfl
 have Y:(zhy kb s.heap q I).get? (s.heap.objs.size+1)=some { cls:=.type "tuple_iterator",data:=.fields #[.ref I,.int 0 0] }:=by unfold zhy;show ai _ (ai _ (ai _ ?_));rw[<- z1];exact aw _ rfl
 have Z:(zhy kb s.heap q I).get? s.heap.objs.size=some { cls:=.type (nmI kb),data:=.fields #[.ref q,.int 0 0] }:=by unfold zhy;exact ai _ (ai _ (ai _ (ai _ (aw _ rfl))))
 show⟨⟨_,gz,rfl⟩,h _ gz U O ⟨_,Z,rfl,rfl⟩ ⟨_,Y,rfl,rfl⟩ ?_ λb o x=>?_⟩;unfold zhy;rw[cS,z4];unfold zhy;exact ai _ (ai _ (ai _ (ai _ (ai _ x))))
end
def Izg (kb:Bool)(K:AH)(a b:Addr):It:=
 ⟨λi H=>∃xs ys x y,SqV kb K H a xs/\SqT K H b ys/\xs[i]?=some x/\ys[i]?=some y,λi H v H'=>∃T x y,v = .ref T/\H T=none/\H'=upd H T (.tup [x,y])/\(∀xs,SqV kb K H a xs->xs[i]?=some x)/\∀ys,SqT K H b ys->ys[i]?=some y,λi H=>∃xs,SqV kb K H a xs/\xs.length<=i⟩
def zkS{P:Aa}{w:Ab}{K:AH}{a0:AO}{x1}(z TI TO O i2 a b:Addr)(D:ZipApart z TI TO O i2 a b) :
  Turn P w K (.Tuple a0 x1 tpos) (Izg kb K a b) [z,TI,TO,O,i2] z (λi h=>IsZip h z TI TO .none/\IsPair h TI (.ref O) (.ref i2)/\(∃c d,IsPair h TO c d)/\ItH kb h O a i/\h.IsTupleIter i2 b i) where
 mem:=by simp
 obj:=λi h st c J=>by
  obtain⟨hz,U,⟨u,v,ad⟩,⟨o1,e1,c1,d1⟩,⟨o2,e2,c2,d2⟩⟩:=st;grind
 keep:=λi h h' st k=>by obtain⟨hz,U,⟨u,v,ad⟩,⟨o1,e1,r1⟩,⟨o2,e2,r2⟩⟩:=st;exact⟨k z (by simp) _ hz,k TI (by simp) _ U,⟨u,v,k TO (by simp) _ ad⟩,⟨o1,k O (by simp) _ e1,r1⟩,⟨o2,k i2 (by simp) _ e2,r2⟩⟩
 item:=by
  intro X hP hw hK J i pins s σ H E I hf st hg;subst hP hw hK;obtain⟨xs,ys,x,y,a1,a2,hx,hy⟩:=hg;obtain⟨ca,bd,p1⟩:=zgc I a1;obtain⟨cc,be,p2,ck⟩:=I.tuple a2;obtain⟨u1,bk,bl⟩:=bd.get hx;obtain⟨u2,bo,bs⟩:=be.get hy;have fz:=hf z (by simp);have aa:=hf TO (by simp);have f1:=hf O (by simp);have f2:=hf i2 (by simp);obtain⟨hz,U,⟨c0,d0,ad⟩,al,an⟩:=st;have hT:s.TypeIs (.ref z) "zip" := ⟨_,hz,rfl⟩;unfold pyNext
  show ae (dn (wpAny_callSpecial?_slot (name:=Str.ofString "__next__") hT eY
   (bf eY hT F.entry_zip_next (zcQ (A:=X.A.in1) D hz U ad al an p1 p2 (x:=u1) (y:=u2) (by simpa using bk) (by simpa using bo) λh' gz bx b0 b1 gT cl hk=>?_) (F.args_zip_next_1 _))))
  show ah ⟨_,rfl,?_⟩;show wpAny_letOwnedTupleGo_zip (s:={ s with heap:=h' }) gz λag a3 Y=>?_;have nz:∀b' o',s.heap.get? b'=some o'->s.heap.objs.size≠b':=λb' o' e=>ff (az e);have a4:s.heap.objs.size≠z:=nz z _ hz;have a5:s.heap.objs.size≠TO:=nz TO _ ad;have b2:s.heap.objs.size≠O:=by obtain⟨o,ho,_⟩:=al;exact nz O _ ho
  have b3:s.heap.objs.size≠i2:=by obtain⟨o,ho,_⟩:=an;exact nz i2 _ ho
  have a7:s.heap.objs.size≠TI:=nz TI _ U;have B:=I.hok.fresh (ak s.heap.objs.size);have kp:∀c o,c≠z->c≠TO->c≠O->c≠i2->s.heap.get? c=some o->ag.get? c=some o:=λc o h1 h2 h3 Z hb=>(Y.2 c h1).trans (hk c o h1 h2 h3 Z hb);have ba:ag.get? s.heap.objs.size=some { cls:=.type "tuple",data:=.seq #[u1,u2] }:=(Y.2 _ a4).trans gT;have cd:∀b' u',H b'=some u'->b'≠z/\b'≠TO/\b'≠O/\b'≠i2:=λb' u' hb=>⟨zf hb fz.1,zf hb aa.1,zf hb f1.1,zf hb f2.1⟩
  have bb:HOk X.prog X.w (upd H s.heap.objs.size (.tup [x,y])) ag:=by
   intro b' u' hb;by_cases bc:b'=s.heap.objs.size;subst bc;rw[zg] at hb;cases hb;exact⟨by change 2<=sizeLine;decide,[u1,u2],.cons bl (.cons bs .nil),_,ba,rfl,⟨0,rfl⟩,rfl⟩
   ·rw[ze bc] at hb;show (I.hok b' u' hb).stay (λc v ab q=>?_) (λc q=>?_) (λc ys q=>?_)
    ·have:c≠z/\c≠TO/\c≠O/\c≠i2:=by
      rcases ab with rfl | ab
      all_goals right
     right
    rw[ze (zf q B)];exact q;rw[ze (zf q B)];exact q
  have ac:∀c o,c∉[z,TO,O,i2]->s.heap.get? c=some o->ag.get? c=some o:=λc o J e=>kp c o (λq=>J (by simp[q])) (λq=>J (by simp[q])) (λq=>J (by simp[q])) (λq=>J (by simp[q])) e
  have I1:Inv X pins σ (upd H s.heap.objs.size (.tup [x,y])) { s with heap:=ag,toks:=s.toks }:=by
   show Inv.step (ch:=[z,TO,O,i2]) (g':=s.gens) (d':=s.drawn) (t':=s.toks) I (λc J=>?_) (λc o h1 h2 h3 Z h5=>?_) (λc o h1 h2 h3 Z h5=>?_) (λc o h3 Z h5=>?_) (λc o h3 Z=>?_) (λc ys q=>?_) (λc o u' q=>?_) (λc ps q=>?_) (λm hm=>?_) bb I.bare;simp only[aG,cD,or_false] at J;rcases J with rfl | rfl | rfl | rfl;exact⟨fz.2.2.2.1,fz.2.1,fz.2.2.2.2.1,fz.2.2.2.2.2⟩;exact⟨aa.2.2.2.1,aa.2.1,aa.2.2.2.2.1,aa.2.2.2.2.2⟩;exact⟨f1.2.2.2.1,f1.2.1,f1.2.2.2.2.1,f1.2.2.2.2.2⟩;exact⟨f2.2.2.2.1,f2.2.1,f2.2.2.2.2.1,f2.2.2.2.2.2⟩;exact ac c o h3 Z;exact⟨o.slots,ac c o h3 Z⟩;rw[ze (aV (az Z))];exact h5;exact⟨o,ac c o h3 Z⟩;rw[ze (zf q B)];exact q;rw[ze (zf q B)];exact q;exact⟨#[],by rw[ze (zf q B),Array.append_empty];exact q⟩;obtain⟨o,es,ep,ap,r1⟩:=hm;exact⟨o,es,ep,kp _ o (Ne.symm fz.2.1) (Ne.symm aa.2.1) (Ne.symm f1.2.1) (Ne.symm f2.2.1) ap,r1⟩
  show⟨.ref s.heap.objs.size,_,I1,rfl,⟨s.heap.objs.size,x,y,rfl,B,rfl,λzs as=>by rw[zuA I as a1];exact hx,λzs as=>by rw[I.tuple_inj as a2];exact hy⟩,⟨a3,?_,⟨_,_,(Y.2 TO D.TOz).trans bx⟩,?_,?_⟩,λc J=>?_⟩;exact kp TI _ D.TIz D.TITO D.TIi1 D.TIi2 U;obtain⟨o,ho,r⟩:=b0;exact⟨o,(Y.2 O D.i1z).trans ho,r⟩;obtain⟨o,ho,r⟩:=b1;exact⟨o,(Y.2 i2 D.i2z).trans ho,r⟩;simp only[aG,cD,or_false] at J;rcases J with rfl | rfl | rfl | rfl | rfl;rw[ze (Ne.symm a4)];exact fz.1;rw[ze (Ne.symm a7)];exact (hf _ (by simp)).1;rw[ze (Ne.symm a5)];exact aa.1;rw[ze (Ne.symm b2)];exact f1.1;rw[ze (Ne.symm b3)];exact f2.1
 done:=by
  intro X hP hw hK J i pins s σ H E I hf st hg;subst hP hw hK;obtain⟨xs,hq,hx⟩:=hg;obtain⟨cn,rv,p⟩:=zgc I hq;have fz:=hf z (by simp);have f1:=hf O (by simp);obtain⟨hz,U,⟨c0,d0,ad⟩,al,an⟩:=st;have hl:=rv.length;have hT:s.TypeIs (.ref z) "zip" := ⟨_,hz,rfl⟩;unfold pyNext
  show ae (dn (wpAny_callSpecial?_slot (name:=Str.ofString "__next__") hT eY
   (bf eY hT F.entry_zip_next (zep (A:=X.A.in1) D (I.ok.hd J) hz U al p (by simp;lia) λh' e ko he=>?_) (F.args_zip_next_1 _))))
  obtain⟨o,ho,b4⟩:=he;show ae (dH (T := "StopIteration") (b:=true) ⟨o,ho,b4⟩ fH ?_);show ah ⟨rfl,?_⟩;have ac:∀c o,c∉[z,O]->s.heap.get? c=some o->h'.get? c=some o:=λc o J e=>ko c o (λq=>J (by simp[q])) (λq=>J (by simp[q])) e;show Inv.step (ch:=[z,O]) (g':=s.gens) (d':=s.drawn) (t':=s.toks) I (λc J=>?_) (λc o h1 h2 h3 Z h5=>ac c o h3 Z) (λc o h1 h2 h3 Z h5=>⟨o.slots,ac c o h3 Z⟩) (λc o h3 Z h5=>h5) (λc o h3 Z=>⟨o,ac c o h3 Z⟩) (λc ys q=>q) (λc o u' q=>q) (λc ps q=>⟨#[],by right⟩) (λm hm=>?_) (λb' u' hb=>?_) I.bare;simp only[aG,cD,or_false] at J;rcases J with rfl | rfl;exact⟨fz.2.2.2.1,fz.2.1,fz.2.2.2.2.1,fz.2.2.2.2.2⟩;exact⟨f1.2.2.2.1,f1.2.1,f1.2.2.2.2.1,f1.2.2.2.2.2⟩;obtain⟨o,es,ep,ap,r1⟩:=hm;exact⟨o,es,ep,ko _ o (Ne.symm fz.2.1) (Ne.symm f1.2.1) ap,r1⟩;show (I.hok b' u' hb).stay (λc v ab q=>?_) (λc q=>q) (λc ys q=>q)
  have:c≠z/\c≠O:=by
   rcases ab with rfl | ab;exact⟨zf hb fz.1,zf hb f1.1⟩;exact⟨zf ab fz.1,zf ab f1.1⟩
  exact ko c v this.1 this.2 q
 self:=λA i s Q E st h=>by obtain⟨hz,_⟩:=st;exact wpAny_pyIter_zip hz h
def zrk (kb:Bool)(K:AH)(ta:TA):TI:=λσ H R=>ta σ H λvs H1=>∃a b,vs=[.ref a,.ref b]/\(∃xs,SqV kb K H1 a xs)/\(∃ys,SqT K H1 b ys)/\R (Izg kb K a b) H1
def zpo (kb:Bool){X:Cx}{F:AO}{x1}{tpos:Pos}{a b:Expr}{ta:TA}{p pos:Pos}(hg:Gl X "zip")(hm:X.mg "zip" = none)(ha:PA X [a,b] ta)(hs:starEach [a,b] X.env=[(false,eval a X.env),(false,eval b X.env)]:=by rfl)(J:starEach [b] X.env=[(false,eval b X.env)]:=by rfl) :
  PI X (.Tuple F x1 tpos) (.Call (.Name "zip" p) [a,b] [] pos) (zrk kb X.K ta):=by
 intro pins s σ H R I h;show Call_ (zeZ I hg hm boot_zip (di (thn (ha pos pins s σ H _ I h) λus B ⟨vs,H1,I1,r1,q1⟩=>?_) (by rw[hs,J]) (by rw[J];rfl)));obtain⟨c,d,e,⟨xs,U⟩,⟨ys,Y⟩,q⟩:=q1;subst e
 cases r1 with
 | cons r rr=>
  cases rr with
  | cons r' rr=>
   cases rr;cases r;cases r';obtain⟨al,an,p1⟩:=zgc I1 U;obtain⟨O,ap,p2,as⟩:=I1.tuple Y;have Z:c<B.heap.objs.size:=by obtain⟨o,ho,_⟩:=id p1;exact az ho
   have aa:d<B.heap.objs.size:=by obtain⟨o,ho,_⟩:=id p2;exact az ho
   show ziu p1 (show B.heap.IsTuple d O.toArray from p2) λh' gz ab ac ad ag hsz hk=>?_;have I2:Inv X pins σ H1 { B with heap:=h',toks:=B.toks }:=I1.kept (t':=B.toks) hk;show wpAny_pyIter_zip gz ?_;show⟨B.heap.objs.size+4,[B.heap.objs.size+4,B.heap.objs.size+2,B.heap.objs.size+3,B.heap.objs.size,B.heap.objs.size+1],_,_,H1,rfl,I2,zkS _ _ _ _ _ c d (zipApart_new Z aa),⟨gz,ab,⟨_,_,ac⟩,ad,ag⟩,λe he=>?_,q⟩;simp only[aG,cD,or_false] at he;rcases he with rfl | rfl | rfl | rfl | rfl;exact I1.fpOk (by lia) (I1.hok.fresh (by lia));exact I1.fpOk (by lia) (I1.hok.fresh (by lia));exact I1.fpOk (by lia) (I1.hok.fresh (by lia));exact I1.fpOk (ak _) (I1.hok.fresh (ak _));exact I1.fpOk (by lia) (I1.hok.fresh (by lia))
def zpI (kb:Bool){X:Cx}{q:AO}{x1}{tpos:Pos}{a b:Expr}{ta:TA}{p pos:Pos}(F:Gl X "zip")(I:X.mg "zip" = none)(J:QA X [a,b] ta)(hs:starEach [a,b] X.env=[(false,eval a X.env),(false,eval b X.env)]:=by rfl)(B:starEach [b] X.env=[(false,eval b X.env)]:=by rfl) :
  QI X (.Tuple q x1 tpos) (.Call (.Name "zip" p) [a,b] [] pos) (zrk kb X.K ta):=⟨zpo kb F I J.run hs B⟩
section
variable {X:Cx}
def zpO:V->AT->Hp->VK->Prop:=λx vs H Q=>∃l xs k y,x = .ref l/\vs=[.int k,y]/\H l=some (.lst xs)/\0<=k/\k<=xs.length/\xs.length<sizeLine/\Q .non (upd H l (.lst (xs.take k.toNat++y::xs.drop k.toNat)))
def zjT:MtM X "list.insert" zpO:=by
 intro pins s σ H x vs v us Q I O U h;obtain⟨l,xs,k,y,rfl,rfl,J,h0,h1,Y,q⟩:=h;cases O
 cases U with
 | cons Z rr=>
  cases rr with
  | cons r2 rn=>
   cases rn;obtain⟨t,rfl⟩:=Z;obtain⟨z,B,n,r,hl,e⟩:=I.lstM J
   have hk:k<2 ^ 63:=by
    have:(xs.length:Int)<=2 ^ 40:=by have h2:xs.length<=2 ^ 40:=aA (cH Y) (by ext);lia
    lia
   show call_meets PySem.F.slot_list_insert ⟨_,e,rfl⟩ PySem.F.entry_list_insert (PySem.F.args_list_insert_3 _ _ _)
    (AutoSeq1.list_insert_list_int_val_1 l B.toArray n k t _ (by rw[fitsIndex_both (by lia) hk];decide) (by grind)) ⟨e,?_⟩
   show⟨.non,_,I.lset (its':=B.take k.toNat++_::B.drop k.toNat) J e ?_ ((r.take _).append (.cons r2 (r.drop _))) ?_,rfl,q⟩;change (B.toArray.extract 0 (if k<0 then (k+(B.toArray.size:Int)).toNat else min k.toNat B.toArray.size)).push _++B.toArray.extract (if k<0 then (k+(B.toArray.size:Int)).toNat else min k.toNat B.toArray.size)=_;rw[if_neg (by lia),aW,dU (by lia)];apply eI.mp;simp;rw[bj (by simp)];grind
def znz{T:String}{name:Str}{id:String}{r:V->AT->Hp->VK->Prop}{es:AO}{to:TE}{t:TA}{apos cpos:Pos}(U:PlainAttrs T)(I:Slot T name id)(O:typeOf (.builtin id)=pure (.type "method_descriptor"))(Y:MtR X id r)(Z:QE X o to)(ha:QA X (e::es) t)(B:attributeBase o name X.env (eval o X.env)=eval o X.env:=by rfl)(J:((backTo cpos (starEach (e::es) X.env)).all (λx=>!x.1)&&(backToKw cpos (keywordEach [] X.env)).all (λx=>x.1.isSome)
   && decide ((e::es).length+([]:List Keyword).length+(if ([]:List Keyword).isEmpty then 0 else 1)<30))=true:=by rfl)(F:(apos.endLine==cpos.line)=true:=by rfl)(hs:starEach (e::es) X.env=(false,eval e X.env)::starEach es X.env:=by rfl)(q:(backTo cpos (starEach es X.env)).any (·.1)=false:=by rfl) :
  QE X (.Call (.Attribute o name apos) (e::es) [] cpos) (tBM X.K T r to t):=⟨zr7 U I O Y Z.run ha.run B J F hs q⟩
def zkv:AT->Hp->VK->Prop:=λxs H Q=>∃ (l:Addr) (ns:AG),xs=[.ref l]/\H l=some (.lst (ns.map V.int))/\ns.length<64/\∀q:AG,q.Perm ns->q.Pairwise (·<=·)->New H (.lst (q.map V.int)) Q
def zgU:∀ {ns:AG} {q:AN},zT (ns.map V.int) q->IntsAre q ns
 | [],_,h=>by cases h;exact .nil
 | n::ns,_,h=>by
  cases h with
  | cons B F=>
   obtain⟨t,rfl⟩:=B;exact .cons _ _ (zgU F)
def zlc{ns:AG}(h:IntsAre q ns):zT (ns.map V.int) q:=by
 induction h with
 | nil=>exact .nil
 | cons _ _ _ B=>exact .cons ⟨_,rfl⟩ B
def zlm:CallQ X (.builtin "sorted") zkv:=⟨by
 intro pins s σ H xs us Q I r h;obtain⟨l,ns,rfl,hl,Z,q⟩:=h;obtain⟨u,rfl,ru⟩:=zaY r;cases ru;obtain⟨ag,rv,pl,hz⟩:=I.list (.of hl);obtain⟨m0,B,_⟩:=id I.loc;show PySem.W.kso_sorted (h₀:=(⟨#[],{}⟩:Heap)) (L:=X.env.locals) (m:=m0) (news:=zaM s.heap X.env.locals) ⟨B,λb o e=>?_,aM _⟩ (λp hp=>?_) pl.isList (zgU rv) Z λD al J c h' F N O hi ad hp hs _=>?_;have:=az e;simp at this;obtain⟨b,o⟩:=p;have:=zD.mp hp;show⟨this.2,this.1,?_⟩
 cases e:(⟨#[],{}⟩:Heap).get? b with
 | none=>rfl
 | some o'=>
  have:=az e;simp at this
 have aa:∀b o,b≠X.env.locals->s.heap.get? b=some o->h'.get? b=some o:=λb o hb e=>(N (b,o) (ar _ (zD.mpr ⟨hb,e⟩))).1;have ab:D≠X.env.locals:=(N (D,_) am).2.1
 have ac:s.heap.get? D=none:=by
  cases e:s.heap.get? D with
  | none=>rfl
  | some o=>exact absurd (O (D,o) (zD.mpr ⟨ab,e⟩)) (cG _)
 have U:H D=none:=by
  cases e:H D with
  | none=>rfl
  | some o=>
   obtain⟨o',an⟩:=uP (I.hok D o e);grind
 have Y:=(N (D,_) am).1;have I':=zb4 I B (ys:=J.map V.int) aa F.ns ac U Y (zlc hi) (by grind) s.toks;exact⟨.ref D,_,I',rfl,(q J hp hs).at U⟩⟩
end
end L2
namespace L3
open L2
abbrev zt0:=Addr×Addr×List Int
abbrev imm:HO->Bool
 | .lst _=>false
 | .dK _=>false
 | .dT _=>false
 | .ext _=>false
 | _=>true
def Mt (o:HO):Prop:=imm o=false
def Mt.tup(h:Mt o):∀xs,o≠.tup xs:=λ_ e=>by subst e;cases h
def NP (o:HO):Prop:=∀kvs,pnK o=some kvs->xE kvs (Sum.inr "at" : Key)=none
def NP.lst:NP (.lst xs):=λ_ e=>by cases e
structure Jv where
 K:(AL)->Hp->Prop
 same:∀ {A:AL} {H H':Hp},K A H->yO H H'->K A H'
 grow:∀ {A A':AL} {H:Hp},K A' H->(∀a,A a->A' a\/∃o,H a=some o/\NP o/\Mt o)->K A H
 upd:∀ {A:AL} {H:Hp} {p:Addr} {o:HO},K A H->A p->K A (L2.upd H p o)
 frz:∀ {A:AL} {H:Hp} {p:Addr} {o o':HO},K A H->H p=some o->NP o->Mt o->K A (L2.upd H p o')
structure PN where
 pn:Option zt0
 J:Jv
def J0:Jv:=⟨λ_ _=>True,λ_ _=>trivial,λ_ _=>trivial,λ_ _=>trivial,λ_ _ _ _=>trivial⟩
inductive W where
 | d (x:Dt) | pen (p:Addr) | dk (kvs:List (Key×Dt)) | dt (kvs:List (AG×Dt)) | ss (P:Aa) (w:Ab) (ks:AF) | df (kvs:List (AG×Dt)) | kf (kvs:List (Key×Dt)) | fl (l:AS) | ad (a:Addr) (x:Dt) | tz (kvs:List (AG×Dt)) (x:Dt)
abbrev AV:=W->Nat->Prop
abbrev AU:=List W
abbrev Mo (α:Type):=Nat->(α->Nat->Prop)->Prop
abbrev Ev:=List (Option W)
abbrev AD:=Ev->Mo W
abbrev AC:=Ev->Mo AU
open Classical in
noncomputable def zL (A:AL)(H:Hp):Hp:=λb=>if A b then none else H b
section
variable {A A0:AL}{H H' G G' T T':Hp}{a b:Addr}{o:HO}
def zp:zL A H b=some o↔¬ A b/\H b=some o:=by
 unfold zL;grind
def zr (h:¬ A b)(e:H b=some o):zL A H b=some o:=zp.mpr ⟨h,e⟩
def zq:yO (zL A H) H:=λb o e=>(zp.mp e).2
def yx (s:zu H H'):zu (zL A H) (zL A H'):=λb o e n=>zr (zp.mp e).1 (s b o (zp.mp e).2 n)
def zb0 (s:yO H H'):yO (zL A H) (zL A H'):=λb o e=>zr (zp.mp e).1 (s b o (zp.mp e).2)
def xa (h:∀b,A0 b->A b):yO (zL A H) (zL A0 H):=λb o e=>zr (λz=>(zp.mp e).1 (h b z)) (zp.mp e).2
def yg (h:A a):zL A (upd H a o)=zL A H:=by
 funext b;unfold zL;by_cases q:A b;simp[q];have:b≠a:=λe=>q (e ▸ h);simp[q,ze this]
end
def DAt (T G:Hp):Dt->V->Prop
 | .lst l,v=>∃a xs,v = .ref a/\T a=some (.lst xs)/\IsL G l xs
 | .dct,v=>∃a kvs,v = .ref a/\T a=some (.dK kvs)/\xE kvs (Sum.inr "at" : Key)=none
 | .non,v=>Is G .non v
 | .bl b,v=>Is G (.bl b) v
 | .int i,v=>Is G (.int i) v
 | .str x,v=>Is G (.str x) v
 | .tup l,v=>Is G (.tup l) v
def DAt.is(h:DAt G G x v):Is G x v:=by cases x <;> exact h
def DAt.of(h:Is G x v):DAt G G x v:=by cases x <;> exact h
def DAt.up(t:zu T T')(g:zu G G')(h:DAt T G x v):DAt T' G' x v:=by
 cases x with
 | lst l=>obtain⟨a,xs,e,h1,h2⟩:=h;exact⟨a,xs,e,t.lst h1,h2.stay g⟩
 | dct=>obtain⟨a,kvs,e,h1,h2⟩:=h;exact⟨a,kvs,e,t _ _ h1 λk q=>by cases q;exact h2,h2⟩
 | _=>exact Is.stay g h
def DAt.full(t:yO T H)(g:yO G H)(h:DAt T G x v):Is H x v:=(DAt.up (zu.same t) (zu.same g) h).is
def uE {κ:Type}(G:Hp):List (κ×Dt)->List (κ×V)->Prop
 | [],ks=>ks=[]
 | q::r,ks=>∃v s,ks=(q.1,v)::s/\Is G q.2 v/\uE G r s
def uE.stay {κ:Type}{G G':Hp}(s:zu G G'):∀ {kvs:List (κ×Dt)} {ks:List (κ×V)},uE G kvs ks->uE G' kvs ks
 | [],_,h=>h
 | q::r,ks,⟨v,t,e,h1,h2⟩=>⟨v,t,e,h1.stay s,uE.stay s h2⟩
def SIs (G:Hp)(ks:AF)(xs:AE):Prop:=ks=xs.map (·.1)/\(∀q∈xs,G q.2=some (.tup (q.1.map V.int)))/\ks.Nodup
def SIs.stay{ks:AF}{xs:AE}(h:SIs G ks xs)(s:zu G G'):SIs G' ks xs:=⟨h.1,λq B=>s _ _ (h.2.1 q B) (λ_ e=>by cases e),h.2.2⟩
noncomputable def zcN (a:Addr)(H:Hp):Hp:=zL (λb=>b≠a/\∃xs,H b=some (.lst xs)) H
def ze5:yO (zcN a H) H:=zq
def zhW(s:zu H H'):zu (zcN a H) (zcN a H'):=λb o e n=>by obtain⟨h1,h2⟩:=zp.mp e;have q:=s b o h2 n;show zr (λz=>h1 ⟨z.1,?_⟩) q;obtain⟨xs,B⟩:=z.2;rw[q] at B;cases B;exact⟨_,h2⟩
def WAt (T G:Hp):W->V->Prop
 | .d x,v=>DAt T G x v
 | .pen p,v=>v = .ref p
 | .dk kvs,v=>∃a ks,v = .ref a/\T a=some (.dK ks)/\uE G kvs ks/\xE ks (Sum.inr "at" : Key)=none
 | .dt kvs,v=>∃a ks,v = .ref a/\T a=some (dtO ks)/\uE G kvs ks
 | .ss P w ks,v=>∃a xs,v = .ref a/\T a=some (zih P w a (uM xs))/\SIs G ks xs
 | .df kvs,v=>∃a ob ks,v = .ref a/\T a=some (.frz ob (dtO ks))/\uE G kvs ks
 | .kf kvs,v=>∃a ob ks,v = .ref a/\T a=some (.frz ob (.dK ks))/\uE G kvs ks
 | .fl l,v=>∃a ob xs,v = .ref a/\T a=some (.frz ob (.lst xs))/\IsL G l xs
 | .ad a x,v=>(∃b,v = .ref b)/\Is (zcN a G) x v
 | .tz kvs x,v=>∃a b ob ks y,v = .ref a/\G a=some (.tup [.ref b,y])/\G b=some (.frz ob (dtO ks))/\uE G kvs ks/\Is G x y
def WAt.up(t:zu T T')(g:zu G G')(h:WAt T G w v):WAt T' G' w v:=by
 cases w with
 | d x=>exact DAt.up t g h
 | pen p=>exact h
 | dk kvs=>
  obtain⟨a,ks,e,h1,h2,B⟩:=h;exact⟨a,ks,e,t _ _ h1 λk q=>by cases q;exact B,h2.stay g,B⟩
 | dt kvs=>
  obtain⟨a,ks,e,h1,h2⟩:=h;exact⟨a,ks,e,t _ _ h1 (λk q=>by cases q),h2.stay g⟩
 | ss P w kvs=>
  obtain⟨a,ks,e,h1,h2⟩:=h;exact⟨a,ks,e,t _ _ h1 zg7,h2.stay g⟩
 | df kvs=>
  obtain⟨a,ob,ks,e,h1,h2⟩:=h;exact⟨a,ob,ks,e,t _ _ h1 (λk q=>by cases q),h2.stay g⟩
 | kf kvs=>
  obtain⟨a,ob,ks,e,h1,h2⟩:=h;exact⟨a,ob,ks,e,t _ _ h1 (λk q=>by cases q),h2.stay g⟩
 | fl kvs=>
  obtain⟨a,ob,ks,e,h1,h2⟩:=h;exact⟨a,ob,ks,e,t _ _ h1 (λk q=>by cases q),h2.stay g⟩
 | ad a x=>exact⟨h.1,Is.stay (zhW g) h.2⟩
 | tz kvs x=>
  obtain⟨a,b,ob,ks,y,e,h1,h2,B,F⟩:=h;exact⟨a,b,ob,ks,y,e,g.tup h1,g _ _ h2 (λk q=>by cases q),B.stay g,F.stay g⟩
abbrev W.mut:W->Bool
 | .d (.lst _)=>true
 | .d .dct=>true
 | .dk _=>true
 | .dt _=>true
 | .ss _ _ _=>true
 | _=>false
abbrev Val (A:AL)(H:Hp)(w:W)(v:V):Prop:=WAt (zL A H) (zL A H) w v
abbrev Bor (A:AL)(H:Hp)(w:W)(v:V):Prop:=WAt H (zL A H) w v
def Val.bor(h:Val A H w v):Bor A H w v:=WAt.up (zu.same zq) (zu.refl _) h
def Val.stay(h:Val A H w v)(s:zu H H'):Val A H' w v:=WAt.up (yx s) (yx s) h
def Bor.stay(h:Bor A H w v)(s:zu H H'):Bor A H' w v:=WAt.up s (yx s) h
def Bor.is(h:Bor A H (.d x) v):Is H x v:=DAt.full (zfh _) zq h
def Val.is(h:Val A H (.d x) v):Is (zL A H) x v:=DAt.is h
def Val.of(h:Is (zL A H) x v):Val A H (.d x) v:=DAt.of h
mutual
def zgX {A:AL}{H:Hp}(hA:∀a xs,A a->H a≠some (.tup xs)):∀ {x:Dt} {v:V},x.noL=true->Is H x v->Is (zL A H) x v
 | .non,_,_,h=>h
 | .bl _,_,_,h=>h
 | .int _,_,_,h=>h
 | .str _,_,_,h=>h
 | .tup l,_,n,h=>by obtain⟨p,xs,e,hp,hl⟩:=h;exact⟨p,xs,e,zr (λz=>hA p xs z hp) hp,uH hA (by simpa [Dt.noL] using n) hl⟩
 | .lst l,_,n,_=>by simp[Dt.noL] at n
 | .dct,_,n,_=>by simp[Dt.noL] at n
def uH {A:AL}{H:Hp}(hA:∀a xs,A a->H a≠some (.tup xs)):∀ {ds:AS} {xs:AT},Dt.noLs ds=true->IsL H ds xs->IsL (zL A H) ds xs
 | [],_,_,h=>h
 | d::ds,xs,n,h=>by
  obtain⟨x,r,e,h1,h2⟩:=h;have n':(d.noL&&Dt.noLs ds)=true:=by simpa [Dt.noLs] using n
  rw[bI] at n';exact⟨x,r,e,zgX hA n'.1 h1,uH hA n'.2 h2⟩
end
def uC (Pn:PN)(A:AL)(n:Nat)(H:Hp):Prop:=
 (match Pn.pn with
 | none=>True
 | some (p,c,ns)=>Pen H p c ns n/\(∀r,ns=0::r->¬ A c)/\¬ A p)/\Pn.J.K A H
def Own (A:AL)(H:Hp)(w:W)(v:V):Prop:=∃a,v = .ref a/\A a/\Bor A H w v/\w.mut=true
def Al (A:AL)(H:Hp):Prop:=∀a,A a->∃o,H a=some o/\NP o/\Mt o
structure EnvR (A:AL)(M:AR)(σ:St)(H:Hp)(ρ:Ev):Prop where
 len:σ.length=ρ.length
 val:∀i w,ρ[i]?=some (some w)->∃v,σ[i]?=some (some v)/\(i∉M->Val A H w v)/\(i∈M->Own A H w v)
 dis:∀i j w u a,i∈M->j∈M->i≠j->ρ[i]?=some (some w)->ρ[j]?=some (some u)->σ[i]?=some (some (.ref a))->σ[j]?≠some (some (.ref a))
 al:Al A H
def EnvR.stay(E:EnvR A M σ H ρ)(s:zu H H'):EnvR A M σ H' ρ where
 len:=E.len
 val:=λi w e=>by obtain⟨v,h1,h2,q⟩:=E.val i w e;show⟨v,h1,λz=>(h2 z).stay s,λz=>?_⟩;obtain⟨a,e,B,F,I⟩:=q z;exact⟨a,e,B,F.stay s,I⟩
 dis:=E.dis
 al:=λa h=>by obtain⟨o,h1,h2,q⟩:=E.al a h;exact⟨o,s _ _ h1 h2,h2,q⟩
def EnvR.new(E:EnvR A M σ H ρ)(h:H p=none):¬ A p:=λz=>by
 obtain⟨o,h1,_⟩:=E.al p z;grind
def Fr (H:Hp)(a:Addr):Prop:=∀o,H a=some o->¬ NP o
def Fr.of(h:H a=none):Fr H a:=λo e=>by rw[h] at e;cases e
def Fr.back(h:Fr H1 a)(s:zu H H1):Fr H a:=λo e n=>h o (s _ _ e n) n
def FrV (A:AL)(H H':Hp)(w:W)(v:V):Prop:=∃a,v = .ref a/\Fr H a/\WAt H' (zL (λb=>A b\/b=a) H') w v
def FrV.back(h:FrV A H1 H' w v)(s:zu H H1):FrV A H H' w v:=let ⟨a,e,f,g⟩:=h;⟨a,e,f.back s,g⟩
def FrV.less(h:FrV A H H' w v)(s:∀a,A0 a->A a):FrV A0 H H' w v:=let ⟨a,e,f,g⟩:=h;⟨a,e,f,WAt.up (zu.refl _) (zu.same (xa λb z=>z.elim (λz=>.inl (s b z)) .inr)) g⟩
def EnvR.newF(E:EnvR A M σ H ρ)(h:Fr H p):¬ A p:=λz=>by obtain⟨o,h1,h2,_⟩:=E.al p z;exact h o h1 h2
def xT(s:zu H H')(n:Fr H p):zu (zL A H) (zL (λb=>A b\/b=p) H'):=λb o e q=>by obtain⟨h1,h2⟩:=zp.mp e;exact zr (λz=>z.elim h1 λz=>by subst z;exact n o h2 q) (s b o h2 q)
structure Go (Pn:PN)(A:AL)(H:Hp)(n:Nat)(H':Hp):Prop where
 st:zu H H'
 pn:uC Pn A n H'
def Go.trans(a:Go Pn A H n H1)(b:Go Pn A H1 m H2):Go Pn A H m H2:=⟨a.st.trans b.st,b.pn⟩
structure RE (Pn:PN)(M:AR)(fr:Bool)(te:TE)(f:AD):Prop where
 run:∀A σ H ρ n Q R,EnvR A M σ H ρ->uC Pn A n H->f ρ n R->(∀w m v H',R w m->Val A H' w v->Go Pn A H m H'->(fr=true->FrV A H H' w v)->Q v H')->te σ H Q
structure RB (Pn:PN)(M:AR)(te:TE)(f:AD):Prop where
 run:∀A σ H ρ n Q R,EnvR A M σ H ρ->uC Pn A n H->f ρ n R->(∀w m v H',R w m->Bor A H' w v->Go Pn A H m H'->Q v H')->te σ H Q
structure RT (Pn:PN)(M:AR)(te:TT)(f:Ev->Mo Bool):Prop where
 run:∀A σ H ρ n Q R,EnvR A M σ H ρ->uC Pn A n H->f ρ n R->(∀b m H',R b m->Go Pn A H m H'->Q b H')->te σ H Q
def zqH (A:AL)(H:Hp):AU->AT->Prop
 | [],vs=>vs=[]
 | w::q,vs=>∃v r,vs=v::r/\Bor A H w v/\zqH A H q r
def za0 (A:AL)(H:Hp):AU->AT->Prop
 | [],vs=>vs=[]
 | w::q,vs=>∃v r,vs=v::r/\Val A H w v/\za0 A H q r
def za0.bor:∀ {q:AU} {vs:AT},za0 A H q vs->zqH A H q vs
 | [],_,h=>h
 | _::_,_,⟨v,r,e,h1,h2⟩=>⟨v,r,e,h1.bor,za0.bor h2⟩
structure RA (Pn:PN)(M:AR)(ta:TA)(f:AC):Prop where
 run:∀A σ H ρ n Q R,EnvR A M σ H ρ->uC Pn A n H->f ρ n R->(∀ws m vs H',R ws m->za0 A H' ws vs->Go Pn A H m H'->Q vs H')->ta σ H Q
structure RAB (Pn:PN)(M:AR)(ta:TA)(f:AC):Prop where
 run:∀A σ H ρ n Q R,EnvR A M σ H ρ->uC Pn A n H->f ρ n R->(∀ws m vs H',R ws m->zqH A H' ws vs->Go Pn A H m H'->Q vs H')->ta σ H Q
structure Kt where
 nx:Ev->Nat->Prop
 rt:AV
 bk:Ev->Nat->Prop:=λ_ _=>False
 ct:Ev->Nat->Prop:=λ_ _=>False
abbrev Ms:=Ev->Nat->Kt->Prop
def StX (q:AL)(H0 H:Hp):Prop:=∀b o,H0 b=some o->NP o->¬ q b->H b=some o
def StX.of(s:zu H0 H):StX q H0 H:=λb o e n _=>s b o e n
def StX.stay(s:StX (λ_=>False) H0 H):zu H0 H:=λb o e n=>s b o e n λz=>z
structure Frm (A0:AL)(H0:Hp)(ca:AL)(A:AL)(H:Hp):Prop where
 sub:∀a,A0 a->A a
 new:∀a,A a->A0 a\/Fr H0 a\/ca a
 st:StX ca H0 H
 al:Al A0 H0
 cn:∀a,ca a->¬ A0 a
 cs:∀a,ca a->∃o,H a=some o/\NP o
def Frm.back(f:Frm A0 H0 B A H)(h:Fr H a)(n:¬ A a):Fr H0 a:=λo e q=>h o (f.st a o e q λz=>let ⟨o2,e2,n2⟩:=f.cs a z;h o2 e2 n2) q
structure Bs where
 ca:AL:=λ_=>False
 A0:AL
 H0:Hp
 G0:Hp
 σ0:St
def NoL (G:Hp):Prop:=∀a xs,G a≠some (.lst xs)
structure At3 (Pn:PN)(B:Bs)(S M:AR)(A:AL)(σ:St)(H:Hp)(ρ:Ev)(n:Nat):Prop where
 env:EnvR A M σ H ρ
 frm:Frm B.A0 B.H0 B.ca A H
 pn:uC Pn A n H
 prot:zu B.G0 (zL A H)
 fix:(∀i∈S,σ[i]?=B.σ0[i]?)/\(9999∈S->NoL B.G0/\NoL B.H0)
 mine:∀i w a,i∈M->ρ[i]?=some (some w)->σ[i]?=some (some (.ref a))->Fr B.H0 a\/B.ca a
structure KOk (Pn:PN)(B:Bs)(S M:AR)(fr:Bool)(k:Kt)(D:Ends):Prop where
 nx:∀A σ H ρ n,At3 Pn B S M A σ H ρ n->k.nx ρ n->D.nx σ H
 bk:∀A σ H ρ n,At3 Pn B S M A σ H ρ n->k.bk ρ n->D.bk σ H
 ct:∀A σ H ρ n,At3 Pn B S M A σ H ρ n->k.ct ρ n->D.ct σ H
 fc:∀a,¬ B.ca a
 rt:∀w n v H,Val B.A0 H w v->StX B.ca B.H0 H->uC Pn B.A0 n H->(fr=true->FrV B.A0 B.H0 H w v)->k.rt w n->D.rt v H
structure RS (Pn:PN)(S M:AR)(fr:Bool)(ts:TS)(fs:Ms):Prop where
 run:∀B A σ H ρ n k D,At3 Pn B S M A σ H ρ n->KOk Pn B S M fr k D->fs ρ n k->ts D σ H
structure RG (S M:AR)(g:TG)(mg:W->Ev->(Ev->Prop)->Prop):Prop where
 run:∀A σ H ρ v w Q R,EnvR A M σ H ρ->Val A H w v->mg w ρ R->(∀ σ' ρ',R ρ'->EnvR A M σ' H ρ'->(∀i∈S,σ'[i]?=σ[i]?/\ρ'[i]?=ρ[i]?)->Q σ' H)->g v σ H Q
structure RGs (S M:AR)(g:TGs)(mg:AS->Ev->(Ev->Prop)->Prop):Prop where
 run:∀A σ H ρ vs ds Q R,EnvR A M σ H ρ->IsL (zL A H) ds vs->mg ds ρ R->(∀ σ' ρ',R ρ'->EnvR A M σ' H ρ'->(∀i∈S,σ'[i]?=σ[i]?/\ρ'[i]?=ρ[i]?)->Q σ' H)->g vs σ H Q
structure ItV (ow:Bool)(A:AL)(H:Hp)(J:It)(l:AU):Prop where
 one:∀i w A2 H2,l[i]?=some w->zu (zL A H) (zL A2 H2)->(ow=true->zu H H2)->(∀p,H2 p=none->¬ A2 p)->J.go i H2/\∀x H3,J.yld i H2 x H3->yO H2 H3/\Val A2 H3 w x
 stop:∀A2 H2,zu (zL A H) (zL A2 H2)->(ow=true->zu H H2)->J.stop l.length H2
structure RI (Pn:PN)(M:AR)(ow:Bool)(wi:TI)(f:AC):Prop where
 run:∀A σ H ρ n Q R,EnvR A M σ H ρ->uC Pn A n H->f ρ n R->(∀l m J H',R l m->ItV ow A H' J l->Go Pn A H m H'->Q J H')->wi σ H Q
def RE.rb(h:RE Pn M fr te f):RB Pn M te f:=
 ⟨λA σ H ρ n Q R E P q k=>h.run A σ H ρ n Q R E P q λw m v H' r a g _=>k w m v H' r a.bor g⟩
def RA.rab(h:RA Pn M te f):RAB Pn M te f:=
 ⟨λA σ H ρ n Q R E P q k=>h.run A σ H ρ n Q R E P q λw m v H' r a g=>k w m v H' r a.bor g⟩
def uC.same(h:uC Pn A n H)(s:yO H H'):uC Pn A n H':=by
 show⟨?_,Pn.J.same h.2 s⟩;have h:=h.1;split at h;trivial;exact⟨h.1.same s,h.2⟩
def Go.same(h:uC Pn A n H)(s:yO H H'):Go Pn A H n H':=⟨zu.same s,h.same s⟩
def Go.refl(h:uC Pn A n H):Go Pn A H n H:=⟨zu.refl _,h⟩
structure JE (X:Cx)(Pn:PN)(M:AR)(fr:Bool)(e:Expr)(f:AD):Prop where
 ex:∃te,QE X e te/\RE Pn M fr te f
structure JB (X:Cx)(Pn:PN)(M:AR)(e:Expr)(f:AD):Prop where
 ex:∃te,QE X e te/\RB Pn M te f
structure JT (X:Cx)(Pn:PN)(M:AR)(e:Expr)(f:Ev->Mo Bool):Prop where
 ex:∃te,QT X e te/\RT Pn M te f
structure JW (X:Cx)(Pn:PN)(M:AR)(e:Expr)(f:Ev->Mo Bool):Prop where
 ex:∃te,QW X e te/\RT Pn M te f
structure JA (X:Cx)(Pn:PN)(M:AR)(es:AO)(f:AC):Prop where
 ex:∃te,QA X es te/\RA Pn M te f
structure JAB (X:Cx)(Pn:PN)(M:AR)(es:AO)(f:AC):Prop where
 ex:∃te,QA X es te/\RAB Pn M te f
structure JO (X:Cx)(Pn:PN)(M:AR)(e:Option Expr)(f:Ev->Mo AQ):Prop where
 ex:∃t,QO X e t/\∀A σ H ρ n Q R,EnvR A M σ H ρ->uC Pn A n H->f ρ n R->(∀o m H',R o m->Go Pn A H m H'->Q o H')->t σ H Q
section
variable {X:Cx}{Pn:PN}{M:AR}{fr:Bool}{e a b c:Expr}{es:AO}{f fa fb fc:AD}{pos p:Pos}
def zrF (i:Nat):AD:=λρ n Q=>∃w,ρ[i]?=some (some w)/\Q w n
abbrev mC (w:W):AD:=λ_ n Q=>Q w n
abbrev znl (F:W->W->Mo W) (fa fb:AD):AD:=λρ n Q=>fa ρ n λx q=>fb ρ q λy B=>F x y B Q
abbrev mUn (F:W->Mo W) (fa:AD):AD:=λρ n Q=>fa ρ n λx q=>F x q Q
def znm (fa:AD):Ev->Mo Bool:=λρ n Q=>fa ρ n λx q=>∃c,x = .d (.bl c)/\Q c q
def ztH (t u:Ev->Mo Bool):Ev->Mo Bool:=λρ n Q=>t ρ n λc q=>if c=true then u ρ q Q else Q false q
def mOr (t u:Ev->Mo Bool):Ev->Mo Bool:=λρ n Q=>t ρ n λc q=>if c=true then Q true q else u ρ q Q
def zuU (t:Ev->Mo Bool):Ev->Mo Bool:=λρ n Q=>t ρ n λc q=>Q (!c) q
def zoP (fa fb:AD):AD:=λρ n Q=>fa ρ n λx q=>∃c,x = .d (.bl c)/\if c=true then fb ρ q Q else Q (.d (.bl false)) q
abbrev mNil:AC:=λ_ n Q=>Q [] n
abbrev zrB (fa:AD) (fr:AC):AC:=λρ n Q=>fa ρ n λx q=>fr ρ q λxs B=>Q (x::xs) B
abbrev zuM (F:AU->Mo W) (fa:AC):AD:=λρ n Q=>fa ρ n λxs q=>F xs q Q
def JE.bo (h:JE X Pn M fr e f):JB X Pn M e f:=let ⟨te,h1,h2⟩:=h.ex;⟨te,h1,h2.rb⟩
def JA.bo {f:AC}(h:JA X Pn M es f):JAB X Pn M es f:=let ⟨te,h1,h2⟩:=h.ex;⟨te,h1,h2.rab⟩
def zrr (h:JE X Pn M true e f):JE X Pn M false e f:=let ⟨te,h1,h2⟩:=h.ex;⟨te,h1,⟨λA σ H ρ n Q R E P q k=>h2.run A σ H ρ n Q R E P q λw m v H' r a g _=>k w m v H' r a g λz=>by cases z⟩⟩
def zsJ(hi:i∉M):RE Pn M false (zaU i) (zrF i):=⟨λA σ H ρ n Q R E P q k=>by obtain⟨w,e,r⟩:=q;obtain⟨v,h1,h2,_⟩:=E.val i w e;exact⟨v,h1,k w n v H r (h2 hi) (Go.refl P) λz=>by cases z⟩⟩
def zsE:RB Pn M (zaU i) (zrF i):=⟨λA σ H ρ n Q R E P q k=>by
 obtain⟨w,e,r⟩:=q;obtain⟨v,h1,h2,B⟩:=E.val i w e;show⟨v,h1,k w n v H r ?_ (Go.refl P)⟩;by_cases hi:i∈M;obtain⟨a,_,_,h,_⟩:=B hi;exact h;exact (h2 hi).bor⟩
def zuH (i:Nat){x:Str}(hi:i∉M:=by ext)(B:X.N[i]?=some x:=by rfl)(F:Vis X.env.scope x:=by walk_at "v")(I:Ah x:=by ext)
  (q:(x==("__classdict__" : Str))=false:=by ext):JE X Pn M false (.Name x pos) (zrF i):=⟨_,qv i B F I q,zsJ hi⟩
def zuD(i:Nat)(B:X.N[i]?=some x:=by rfl)(F:Vis X.env.scope x:=by walk_at "v")(I:Ah x:=by ext)(q:(x==("__classdict__" : Str))=false:=by ext):JB X Pn M (.Name x pos) (zrF i):=⟨_,qv i B F I q,zsE⟩
def ztU(h:∀G,Is G x v):RE Pn M false (tC v) (mC (.d x)):=⟨λA σ H ρ n Q R E P q k=>k _ n v H q (Val.of (h _)) (Go.refl P) λz=>by cases z⟩
def zj{i:Int}:JE X Pn M false (.Constant (.int i) j pos) (mC (.d (.int i))):=⟨_,yk,ztU λ_=>rfl⟩
def zjn:JE X Pn M false (.Constant (.bool k) j pos) (mC (.d (.bl k))):=⟨_,zpy,ztU λ_=>rfl⟩
def zoA:JE X Pn M false (.Constant .none j pos) (mC (.d .non)):=⟨_,zsy,ztU λ_=>rfl⟩
def zoB:JE X Pn M false (.Constant (.str x) j pos) (mC (.d (.str x))):=⟨_,xi,ztU λ_=>rfl⟩
def Al.new {A:AL}{H:Hp}(h:Al A H){p:Addr}(e:H p=none):¬ A p:=λz=>by
 obtain⟨o,h1,_⟩:=h p z;grind
def Al.stay(h:Al A H)(s:zu H H'):Al A H':=λa z=>by obtain⟨o,h1,h2,q⟩:=h a z;exact⟨o,s _ _ h1 h2,h2,q⟩
def Al.noT(h:Al A H):∀a xs,A a->H a≠some (.tup xs):=λa xs z e=>by
 obtain⟨o,h1,_,q⟩:=h a z;have:=q.tup;grind
def Al.noT' {A:AL}{H H':Hp}(h:Al A H)(s:zu H H'){p:Addr}{xs:AT}(e:H' p=some (.tup xs)):¬ A p:=λz=>(h.stay s).noT p xs z e
structure F2 (Pn:PN)(fr:Bool)(r:R2)(F:W->W->Mo W):Prop where
 run:∀A H x y wx wy n Q R,Al A H->Bor A H wx x->Bor A H wy y->uC Pn A n H->F wx wy n R->(∀w m v H',R w m->Val A H' w v->Go Pn A H m H'->(fr=true->FrV A H H' w v)->Q v H')->r x y H Q
structure FL (Pn:PN)(fr:Bool)(r:AT->Hp->VK->Prop)(F:AU->Mo W):Prop where
 run:∀A H xs ws n Q R,Al A H->zqH A H ws xs->uC Pn A n H->F ws n R->(∀w m v H',R w m->Val A H' w v->Go Pn A H m H'->(fr=true->FrV A H H' w v)->Q v H')->r xs H Q
def zmw(B:F2 Pn fr r F)(I:RB Pn M ta fa)(J:RB Pn M tb fb):RE Pn M fr (tOp r ta tb) (znl F fa fb):=⟨λA σ H ρ n Q R E P O k=>by show I.run A σ H ρ n _ _ E P O λx U Y H1 Z b1 q=>?_;show J.run A σ H1 ρ U _ _ (E.stay q.st) q.pn Z λy n2 v2 H2 r2 b2 g2=>?_;have g:=q.trans g2;exact B.run A H2 Y v2 x y n2 _ _ (E.stay g.st).al (b1.stay g2.st) b2 g2.pn r2 λw m v H' h1 h2 h3 h4=>k w m v H' h1 h2 (g.trans h3) λz=>(h4 z).back g.st⟩
def zsF {r:AT->Hp->VK->Prop}{F:AU->Mo W}{ta:TA}{fa:AC}(B:FL Pn fr r F)(I:RAB Pn M ta fa):RE Pn M fr (tCB r ta) (zuM F fa):=⟨λA σ H ρ n Q R E P J k=>by show I.run A σ H ρ n _ _ E P J λx O U H1 Y Z q=>?_;exact B.run A H1 U x O _ _ (E.stay q.st).al Z q.pn Y λw m v H' h1 h2 h3 h4=>k w m v H' h1 h2 (q.trans h3) λz=>(h4 z).back q.st⟩
def uI(B:OpQ X (binaryOp q) r)(I:F2 Pn fr r F)(J:JB X Pn M a fa)(O:JB X Pn M b fb):JE X Pn M fr (.BinOp a q b pos) (znl F fa fb):=by obtain⟨ta,U,ra⟩:=J.ex;obtain⟨tb,Y,rb⟩:=O.ex;exact⟨_,yF B U Y,zmw I ra rb⟩
def zox(B:OpQ X (compareOp q) r)(I:F2 Pn fr r F)(J:JB X Pn M a fa)(O:JB X Pn M b fb)(U:behindInMarks q b=false):JE X Pn M fr (.Compare a [q] [b] pos) (znl F fa fb):=by obtain⟨ta,Y,ra⟩:=J.ex;obtain⟨tb,Z,rb⟩:=O.ex;exact⟨_,zpA B Y Z U,zmw I ra rb⟩
def znF(h:RB Pn M ta fa):RT Pn M (zqk ta) (znm fa):=⟨λA σ H ρ n Q R E P B k=>by show h.run A σ H ρ n _ _ E P B  ?_;rintro x F I H1 ⟨c,e,r⟩ J O;subst e;have q:I = .bl c:=J;exact⟨c,q,k c F H1 r O⟩⟩
def zF(B:OpQ X (compareOp q) r)(I:F2 Pn fr r F)(J:JB X Pn M a fa)(O:JB X Pn M b fb)(U:behindInMarks q b=false):JT X Pn M (.Compare a [q] [b] pos) (znm (znl F fa fb)):=by obtain⟨ta,Y,ra⟩:=J.ex;obtain⟨tb,Z,rb⟩:=O.ex;exact⟨_,uW B Y Z U,znF (zmw I ra rb).rb⟩
def zc4 (h:JB X Pn M e f)(he:∀whole,isTrue e X.env whole=(do let v <- whole;standAt e.pos;holding [v] (truthy v)):=by intro _;rfl):JT X Pn M e (znm f):=by obtain⟨ta,qa,ra⟩:=h.ex;exact⟨_,znB qa he,znF ra⟩
def zc3(h:JT X Pn M a t):JT X Pn M (.UnaryOp .Not a pos) (zuU t):=by obtain⟨ta,q,ra⟩:=h.ex;exact⟨_,zsA q,⟨λA σ H ρ n Q R E P B k=>ra.run A σ H ρ n _ _ E P B λb m H' r g=>k _ m H' r g⟩⟩
def zah(B:q = .And\/q = .Or)(h:JT X Pn M a t):JW X Pn M (.BoolOp q [a] pos) t:=by
 obtain⟨ta,F,ra⟩:=h.ex;rcases B with rfl | rfl;exact⟨_,zgh F,ra⟩;exact⟨_,zsB F,ra⟩
def zsS(h:RT Pn M t q)(h':RT Pn M u B):RT Pn M (zvx t u) (ztH q B):=⟨λA σ H ρ n Q R E P F k=>by
 show h.run A σ H ρ n _ _ E P F λc m H1 r g=>?_
 cases c with
 | true=>exact h'.run A σ H1 ρ m _ _ (E.stay g.st) g.pn (by simpa using r) λb I H' J g'=>k b I H' J (g.trans g')
 | false=>exact k false m H1 (by simpa using r) g⟩
def zvv(h:RT Pn M t q)(h':RT Pn M u B):RT Pn M (tOr t u) (mOr q B):=⟨λA σ H ρ n Q R E P F k=>by
 show h.run A σ H ρ n _ _ E P F λc m H1 r g=>?_
 cases c with
 | false=>exact h'.run A σ H1 ρ m _ _ (E.stay g.st) g.pn (by simpa using r) λb I H' J g'=>k b I H' J (g.trans g')
 | true=>exact k true m H1 (by simpa using r) g⟩
def zaA {zy:AO}{t u:Ev->Mo Bool}(h:JT X Pn M a t)(h':JW X Pn M (.BoolOp .And (b::zy) pos) u):JW X Pn M (.BoolOp .And (a::b::zy) pos) (ztH t u):=by obtain⟨ta,q,ra⟩:=h.ex;obtain⟨tb,B,rb⟩:=h'.ex;exact⟨_,zho q B,zsS ra rb⟩
def zoJ {zy:AO}{t u:Ev->Mo Bool}(h:JT X Pn M a t)(h':JW X Pn M (.BoolOp .Or (b::zy) pos) u):JW X Pn M (.BoolOp .Or (a::b::zy) pos) (mOr t u):=by obtain⟨ta,q,ra⟩:=h.ex;obtain⟨tb,B,rb⟩:=h'.ex;exact⟨_,zvo q B,zvv ra rb⟩
def JW.t {t:Ev->Mo Bool}(h:JW X Pn M e t):JT X Pn M e t:=let ⟨te,h1,h2⟩:=h.ex;⟨te,h1.pt,h2⟩
def zuG(h:JE X Pn M false a fa):JE X Pn M false (.BoolOp q [a] pos) fa:=let ⟨te,h1,h2⟩:=h.ex;⟨te,zsz h1,h2⟩
def zuC {zy:AO}(h:JB X Pn M a fa)(h':JE X Pn M false (.BoolOp .And (b::zy) pos) fb):JE X Pn M false (.BoolOp .And (a::b::zy) pos) (zoP fa fb):=by
 obtain⟨ta,B,ra⟩:=h.ex;obtain⟨tb,F,rb⟩:=h'.ex;show⟨_,zsv B F,⟨λA σ H ρ n Q R E P I k=>?_⟩⟩;show ra.run A σ H ρ n _ _ E P I  ?_;rintro x m v H1 ⟨c,J,r⟩ O g;subst J;have q:v = .bl c:=O;show⟨c,q,?_⟩
 cases c with
 | true=>
  rw[if_pos rfl] at r ⊢;exact rb.run A σ H1 ρ m _ _ (E.stay g.st) g.pn r λw U Y H' Z a' g' _=>k w U Y H' Z a' (g.trans g') λz=>by cases z
 | false=>
  rw[if_neg (by ext)] at r ⊢;exact k _ m _ H1 r (Val.of rfl) g λz=>by cases z
abbrev isNon:W->Bool
 | .d .non=>true
 | _=>false
def Bor.isNon(h:Bor A H w v):decide (v = .non)=isNon w:=by
 cases w with
 | d x=>
  cases x with
  | non=>have:v = .non:=h;subst this;rfl
  | bl c=>have:v = .bl c:=h;subst this;rfl
  | int c=>have:v = .int c:=h;subst this;rfl
  | str c=>have:v = .str c:=h;subst this;rfl
  | tup l=>obtain⟨a,_,rfl,_⟩:=h;rfl
  | lst l=>obtain⟨a,_,rfl,_⟩:=h;rfl
  | dct=>obtain⟨a,_,rfl,_⟩:=h;rfl
 | pen p=>have:v = .ref p:=h;subst this;rfl
 | dk k=>obtain⟨a,_,rfl,_⟩:=h;rfl
 | dt k=>obtain⟨a,_,rfl,_⟩:=h;rfl
 | ss P w k=>obtain⟨a,_,rfl,_⟩:=h;rfl
 | df k=>obtain⟨a,_,_,rfl,_⟩:=h;rfl
 | kf k=>obtain⟨a,_,_,rfl,_⟩:=h;rfl
 | fl k=>obtain⟨a,_,_,rfl,_⟩:=h;rfl
 | ad a x=>obtain⟨⟨b,rfl⟩,_⟩:=h;rfl
 | tz k x=>obtain⟨a,_,_,_,_,rfl,_⟩:=h;rfl
abbrev mIsN (fa:AD):AD:=λρ n Q=>fa ρ n λx q=>Q (.d (.bl (isNon x))) q
abbrev zrC (fa:AD):AD:=λρ n Q=>fa ρ n λx q=>Q (.d (.bl (!isNon x))) q
def zsI(h:RB Pn M ta fa):RE Pn M false (zvB ta) (mIsN fa):=⟨λA σ H ρ n Q R E P q k=>by show h.run A σ H ρ n _ _ E P q λx m v H1 r B g=>?_;exact k _ m _ H1 r (Val.of (by rw[B.isNon];rfl)) g λz=>by cases z⟩
def zpR(h:RB Pn M ta fa):RE Pn M false (zqi ta) (zrC fa):=⟨λA σ H ρ n Q R E P q k=>by show h.run A σ H ρ n _ _ E P q λx m v H1 r B g=>?_;exact k _ m _ H1 r (Val.of (by rw[B.isNon];rfl)) g λz=>by cases z⟩
def zp1(h:RB Pn M ta fa):RT Pn M (tB ta) (znm fa):=⟨λA σ H ρ n Q R E P B k=>by show h.run A σ H ρ n _ _ E P B  ?_;rintro x F I H1 ⟨c,e,r⟩ J O;subst e;have q:I = .bl c:=J;exact⟨c,q,k c F H1 r O⟩⟩
def zjv(h:JB X Pn M a fa):JT X Pn M (.Compare a [.Is] [.Constant .none j pos'] pos) (znm (mIsN fa)):=by obtain⟨ta,q,ra⟩:=h.ex;exact⟨_,zhn (zny q),zp1 (zsI ra).rb⟩
def zoI(h:JB X Pn M a fa):JT X Pn M (.Compare a [.IsNot] [.Constant .none j pos'] pos) (znm (zrC fa)):=by obtain⟨ta,q,ra⟩:=h.ex;exact⟨_,zhn (zpx q),zp1 (zpR ra).rb⟩
def zd:JA X Pn M [] mNil:=⟨_,yC,⟨λA σ H ρ n Q R E P q k=>k [] n [] H q rfl (Go.refl P)⟩⟩
def za(B:JE X Pn M fr e f)(F:JA X Pn M es fs)(hs:starEach (e::es) X.env=(false,eval e X.env)::starEach es X.env:=by rfl):JA X Pn M (e::es) (zrB f fs):=by obtain⟨ta,I,ra⟩:=B.ex;obtain⟨tb,J,rb⟩:=F.ex;show⟨_,zE I J hs,⟨λA σ H ρ n Q R E P O k=>?_⟩⟩;show ra.run A σ H ρ n _ _ E P O λx U Y H1 Z b1 q _=>?_;exact rb.run A σ H1 ρ U _ _ (E.stay q.st) q.pn Z λxs n2 vs H2 r2 b2 g2=>k _ n2 _ H2 r2 ⟨Y,vs,rfl,b1.stay g2.st,b2⟩ (q.trans g2)
def zk:JAB X Pn M [] mNil:=zd.bo
def zi(B:JB X Pn M e f)(F:JAB X Pn M es fs)(hs:starEach (e::es) X.env=(false,eval e X.env)::starEach es X.env:=by rfl):JAB X Pn M (e::es) (zrB f fs):=by obtain⟨ta,I,ra⟩:=B.ex;obtain⟨tb,J,rb⟩:=F.ex;show⟨_,zE I J hs,⟨λA σ H ρ n Q R E P O k=>?_⟩⟩;show ra.run A σ H ρ n _ _ E P O λx U Y H1 Z b1 q=>?_;exact rb.run A σ H1 ρ U _ _ (E.stay q.st) q.pn Z λxs n2 vs H2 r2 b2 g2=>k _ n2 _ H2 r2 ⟨Y,vs,rfl,b1.stay g2.st,b2⟩ (q.trans g2)
def lim:Nat:=500000
def zc6(h:n<=lim):n<=sizeLine:=aA h (by ext)
def zg2(h:n<=lim):n<sizeLine:=aZ h (by ext)
def dts:AU->Option AS
 | []=>some []
 | .d x::r=>(dts r).map (x::·)
 | _::_=>none
def za0.dts:∀ {q:AU} {vs:AT} {l:AS},za0 A H q vs->dts q=some l->IsL (zL A H) l vs
 | [],vs,l,h,e=>by cases e;exact h
 | .d x::q,vs,l,⟨v,r,B,h1,h2⟩,e=>by obtain⟨l',F,rfl⟩:=aL.mp e;exact⟨v,r,B,h1.is,za0.dts h2 F⟩
 | .pen _::_,_,_,_,e=>by cases e
 | .dk _::_,_,_,_,e=>by cases e
 | .dt _::_,_,_,_,e=>by cases e
 | .ss _ _ _::_,_,_,_,e=>by cases e
 | .df _::_,_,_,_,e=>by cases e
 | .kf _::_,_,_,_,e=>by cases e
 | .fl _::_,_,_,_,e=>by cases e
 | .ad _ _::_,_,_,_,e=>by cases e
 | .tz _ _::_,_,_,_,e=>by cases e
def za0.len:∀ {q:AU} {vs:AT},za0 A H q vs->vs.length=q.length
 | [],_,h=>by cases h;rfl
 | _::q,vs,⟨v,r,e,_,h2⟩=>by rw[e,aO,aO,za0.len h2]
def zeo {A:AL}{H H':Hp}{p:Addr}{xs:AT}{l:AS}(q:IsL (zL A H) l xs)(s:zu H H')(n:¬ A p)(g:H' p=some (.tup xs)):Val A H' (.d (.tup l)) (.ref p):=
 Val.of ⟨p,xs,rfl,zr n g,q.stay (yx s)⟩
def uu {A:AL}{H H':Hp}{p:Addr}{xs:AT}{l:AS}(q:IsL (zL A H) l xs)(s:zu H H')(n:¬ A p)(g:H' p=some (.lst xs)):Val A H' (.d (.lst l)) (.ref p):=
 Val.of ⟨p,xs,rfl,zr n g,q.stay (yx s)⟩
def uh {A:AL}{H H':Hp}{p:Addr}{xs:AT}{l:AS}(q:IsL (zL A H) l xs)(s:yO H H')(n:H p=none)(g:H' p=some (.lst xs)):FrV A H H' (.d (.lst l)) (.ref p):=
 ⟨p,rfl,.of n,p,xs,rfl,g,q.stay (xT (zu.same s) (.of n))⟩
abbrev ztP:Nat->AU->(AS->Prop)->Prop
 | _,[],P=>P []
 | k+1,.d x::r,P=>ztP k r λl=>P (x::l)
 | _,_,_=>False
def zdX:∀ {k:Nat} {l:AU} {P:AS->Prop},ztP k l P->∃ds,dts l=some ds/\P ds/\l.length<=k
 | 0,[],P,h=>⟨[],rfl,h,aM _⟩
 | k+1,[],P,h=>⟨[],rfl,h,aM _⟩
 | 0,.d x::r,P,h=>h.elim
 | k+1,.d x::r,P,h=>by obtain⟨ds,e,h2,q⟩:=zdX (k:=k) (l:=r) (P:=λl=>P (x::l)) h;exact⟨x::ds,by simp[dts,e],h2,dE q⟩
 | 0,.pen _::r,P,h=>h.elim
 | k+1,.pen _::r,P,h=>h.elim
 | 0,.dk _::r,P,h=>h.elim
 | k+1,.dk _::r,P,h=>h.elim
 | 0,.dt _::r,P,h=>h.elim
 | 0,.ss _ _ _::r,P,h=>h.elim
 | 0,.df _::r,P,h=>h.elim
 | 0,.kf _::r,P,h=>h.elim
 | 0,.fl _::r,P,h=>h.elim
 | 0,.ad _ _::r,P,h=>h.elim
 | 0,.tz _ _::r,P,h=>h.elim
 | k+1,.dt _::r,P,h=>h.elim
 | k+1,.ss _ _ _::r,P,h=>h.elim
 | k+1,.df _::r,P,h=>h.elim
 | k+1,.kf _::r,P,h=>h.elim
 | k+1,.fl _::r,P,h=>h.elim
 | k+1,.ad _ _::r,P,h=>h.elim
 | k+1,.tz _ _::r,P,h=>h.elim
abbrev zu0 (fa:AC):AD:=λρ n Q=>fa ρ n λq m=>ztP 200 q λl=>Q (.d (.tup l)) m
def yD{x1}(h:JA X Pn M es fs):JE X Pn M false (.Tuple es x1 pos) (zu0 fs):=by obtain⟨ta,q,ra⟩:=h.ex;show⟨_,zd5 q,⟨λA σ H ρ n Q R E P B k=>?_⟩⟩;show ra.run A σ H ρ n _ _ E P B λU m vs H1 F b g=>?_;obtain⟨l,e,r,I⟩:=zdX F;show⟨zc6 (by rw[b.len];exact aA I (by ext)),λp H2 J O S=>?_⟩;exact k _ m _ H2 r (zeo (b.dts e) (zu.same S) ((E.stay g.st).new J) O) (g.trans (Go.same g.pn S)) λz=>by cases z
abbrev zuT (fa:AC):AD:=λρ n Q=>fa ρ n λq m=>ztP 200 q λl=>Q (.d (.lst l)) m
def ui(h:JA X Pn M es fs):JE X Pn M true (.List es pos) (zuT fs):=by obtain⟨ta,F,ra⟩:=h.ex;show⟨_,zpD F,⟨λA σ H ρ n Q R E P I k=>?_⟩⟩;show ra.run A σ H ρ n _ _ E P I λU m vs H1 J b g=>?_;obtain⟨l,e,r,O⟩:=zdX J;show⟨zc6 (by rw[b.len];exact aA O (by ext)),λp H2 q B S=>?_⟩;exact k _ m _ H2 r (uu (b.dts e) (zu.same S) ((E.stay g.st).new q) B) (g.trans (Go.same g.pn S)) λ_=>(uh (b.dts e) S q B).back g.st
def zX {id:String}{r:AT->Hp->VK->Prop}{F:AU->Mo W}{x:Str}{fs:AC}(I:CallQ X (.builtin id) r)(J:FL Pn fr r F)(O:Gl X x)(U:X.mg x=none)(Y:bootBuiltins x=some (.builtin id))(Z:JAB X Pn M (e::es) fs)(hn:x ≠ "__name__" := by ext)(q:Ah x:=by ext)
  (he:starEach (e::es) X.env=(false,eval e X.env)::starEach es X.env:=by rfl) (B:(backTo pos (starEach es X.env)).any (·.1)=false:=by rfl):JE X Pn M fr (.Call (.Name x p) (e::es) [] pos) (zuM F fs):=by
 obtain⟨ta,qa,ra⟩:=Z.ex;exact⟨_,yZ I O U Y qa hn q he B,zsF J ra⟩
def yp(I:CallQ X (.type T) r)(J:FL Pn fr r F)(O:Gl X x)(U:X.mg x=none)(Y:bootBuiltins x=some (.type T))(Z:JAB X Pn M (e::es) fs)(hn:x ≠ "__name__" := by ext)(q:Ah x:=by ext)(he:starEach (e::es) X.env=(false,eval e X.env)::starEach es X.env:=by rfl)(B:(backTo pos (starEach es X.env)).any (·.1)=false:=by rfl):JE X Pn M fr (.Call (.Name x p) (e::es) [] pos) (zuM F fs):=by
 obtain⟨ta,qa,ra⟩:=Z.ex;exact⟨_,zcn I O U Y qa hn q he B,zsF J ra⟩
end
section
variable {Pn:PN}{K:AH}{A:AL}{H:Hp}
def yG{i:Int}(h:Bor A H (.d (.int i)) v):v = .int i:=h
def zqQ(h:Bor A H (.d (.bl i)) v):v = .bl i:=h
def ue(h:Bor A H (.d (.tup l)) v):∃a xs,v = .ref a/\H a=some (.tup xs)/\IsL (zL A H) l xs:=by obtain⟨a,xs,e,h1,h2⟩:=h;exact⟨a,xs,e,zq _ _ h1,h2⟩
def y9(h:Bor A H (.d (.lst l)) v):∃a xs,v = .ref a/\H a=some (.lst xs)/\IsL (zL A H) l xs:=h
def zis(h:Bor A H (.d (.lst l)) v\/Bor A H (.d (.tup l)) v):∃a xs,v = .ref a/\(SqL K H a xs\/SqT K H a xs)/\IsL (zL A H) l xs:=by
 rcases h with h | h;obtain⟨a,xs,e,h1,h2⟩:=y9 h;exact⟨a,xs,e,.inl (.of h1),h2⟩;obtain⟨a,xs,e,h1,h2⟩:=ue h;exact⟨a,xs,e,.inr (.of h1),h2⟩
def fI (C:Int->Int->Prop)(g:Int->Int->Dt):W->W->Mo W:=λx y n Q=>∃i j,x = .d (.int i)/\y = .d (.int j)/\C i j/\Q (.d (g i j)) n
def fI0 (g:Int->Int->Dt):W->W->Mo W:=λx y n Q=>∃i j,x = .d (.int i)/\y = .d (.int j)/\Q (.d (g i j)) n
def zup {C:Int->Int->Prop}{g:Int->Int->V}{g':Int->Int->Dt}(B:∀i j G,Is G (g' i j) (g i j)):F2 Pn false (rI C g) (fI C g'):=⟨by
 rintro A H x y O U n Q R Y F q P ⟨i,j,I,J,c,r⟩ k;subst I J;exact⟨i,j,yG F,yG q,c,k _ n _ H r (Val.of (B _ _ _)) (Go.refl P) λz=>by cases z⟩⟩
def ziX {g:Int->Int->V}{g':Int->Int->Dt}(B:∀i j G,Is G (g' i j) (g i j)):F2 Pn false (rI0 g) (fI0 g'):=⟨by
 rintro A H x y O U n Q R Y F q P ⟨i,j,I,J,r⟩ k;subst I J;exact⟨i,j,yG F,yG q,k _ n _ H r (Val.of (B _ _ _)) (Go.refl P) λz=>by cases z⟩⟩
abbrev fAdd:=fI0 λi j=>.int (i+j)
abbrev fSub:=fI0 λi j=>.int (i - j)
abbrev fMul:=fI zm0 λi j=>.int (i * j)
abbrev fDiv:=fI zqA λi j=>.int (i / j)
abbrev fMod:=fI (λ_ j=>0<j) λi j=>.int (i % j)
abbrev fLt:=fI0 λi j=>.bl (decide (i<j))
abbrev fLe:=fI0 λi j=>.bl (decide (i<=j))
abbrev fGt:=fI0 λi j=>.bl (decide (j<i))
def zvG:F2 Pn false (rI0 λi j=>.int (i+j)) fAdd:=ziX λ_ _ _=>rfl
def zvP:F2 Pn false (rI0 λi j=>.int (i - j)) fSub:=ziX λ_ _ _=>rfl
def zvN:F2 Pn false (rI zm0 λi j=>.int (i * j)) fMul:=zup λ_ _ _=>rfl
def ztt:F2 Pn false (rI zqA λi j=>.int (i / j)) fDiv:=zup λ_ _ _=>rfl
def zvM:F2 Pn false (rI (λ_ j=>0<j) λi j=>.int (i % j)) fMod:=zup λ_ _ _=>rfl
def v_lt:F2 Pn false (rI0 λi j=>.bl (decide (i<j))) fLt:=ziX λ_ _ _=>rfl
def v_le:F2 Pn false (rI0 λi j=>.bl (decide (i<=j))) fLe:=ziX λ_ _ _=>rfl
def v_gt:F2 Pn false (rI0 λi j=>.bl (decide (j<i))) fGt:=ziX λ_ _ _=>rfl
abbrev sEq:Dt->Dt->Option Bool
 | .int i,.int j=>some (decide (i=j))
 | .bl i,.bl j=>some (decide (i=j))
 | .str i,.str j=>some (decide (i=j))
 | .non,.non=>some true
 | .non,.int _=>some false
 | .int _,.non=>some false
 | .non,.bl _=>some false
 | .bl _,.non=>some false
 | .non,.str _=>some false
 | .str _,.non=>some false
 | .int _,.str _=>some false
 | .str _,.int _=>some false
 | _,_=>none
def plain:Dt->Option V
 | .int i=>some (.int i)
 | .bl i=>some (.bl i)
 | .str i=>some (.str i)
 | .non=>some .non
 | _=>none
def znI(h:sEq a b=some r):∃x y,plain a=some x/\plain b=some y/\zvw x y=true/\decide (x=y)=r:=by cases a <;> cases b <;> cases h <;> show⟨_,_,rfl,rfl,rfl,?_⟩ <;> first | rfl | exact a8 (by lia) | exact decide_eq_decide.mpr (by simp)
def zav(h:Bor A H (.d a) v)(e:plain a=some x):v=x:=by cases a <;> cases e <;> exact h
def fEq:W->W->Mo W:=λx y n Q=>∃a b r,x = .d a/\y = .d b/\sEq a b=some r/\Q (.d (.bl r)) n
def fNe:W->W->Mo W:=λx y n Q=>∃a b r,x = .d a/\y = .d b/\sEq a b=some r/\Q (.d (.bl (!r))) n
def v_eq:F2 Pn false rEq fEq:=⟨by
 rintro A H x y J O n Q R U B q P ⟨a,b,r,F,I,e,h⟩ k;subst F I;obtain⟨Y,Z,p1,p2,s,d⟩:=znI e;obtain rfl:=zav B p1;obtain rfl:=zav q p2;exact⟨s,k _ n _ H h (Val.of (by rw[d];rfl)) (Go.refl P) λz=>by cases z⟩⟩
def v_ne:F2 Pn false rNe fNe:=⟨by
 rintro A H x y J O n Q R U B q P ⟨a,b,r,F,I,e,h⟩ k;subst F I;obtain⟨Y,Z,p1,p2,s,d⟩:=znI e;obtain rfl:=zav B p1;obtain rfl:=zav q p2;exact⟨s,k _ n _ H h (Val.of (by rw[d];rfl)) (Go.refl P) λz=>by cases z⟩⟩
def zuq:W->W->Mo W:=λx y n Q=>∃a b,x = .d a/\y = .d b/\a.eqOk/\b.eqOk/\∀r:Bool,(r=true↔a=b)->Q (.d (.bl r)) n
def zuv:W->W->Mo W:=λx y n Q=>∃a b,x = .d a/\y = .d b/\a.eqOk/\b.eqOk/\∀r:Bool,(r=true↔a=b)->Q (.d (.bl (!r))) n
def zvH:F2 Pn false ztR zuq:=⟨by
 rintro A H x y Y Z n Q R al B q P ⟨a,b,F,I,J,O,h⟩ k;subst F I;exact⟨a,b,B.is,q.is,J,O,λr U=>k _ n _ H (h r U) (Val.of rfl) (Go.refl P) λz=>by cases z⟩⟩
def zvO:F2 Pn false ztT zuv:=⟨by
 rintro A H x y Y Z n Q R al B q P ⟨a,b,F,I,J,O,h⟩ k;subst F I;exact⟨a,b,B.is,q.is,J,O,λr U=>k _ n _ H (h r U) (Val.of rfl) (Go.refl P) λz=>by cases z⟩⟩
def zfL:W->W->Mo W:=λx y n Q=>∃ (b:Int) (ns:AG),x = .d (.int b)/\(y = .d (.lst (ns.map .int))\/y = .d (.tup (ns.map .int)))/\Q (.d (.bl (!ns.contains b))) n
def zmV:F2 Pn false (rIn K true) zfL:=⟨by
 rintro A H x y O U n Q R Y q B P ⟨b,ns,F,Z,h⟩ k;subst F;have I:Bor A H (.d (.lst (ns.map .int))) y\/Bor A H (.d (.tup (ns.map .int))) y:=by grind
 obtain⟨a,xs,e,hs,J⟩:=zis (K:=K) I;obtain rfl:=J.of_ints;obtain rfl:=yG q;exact⟨a,_,e,hs,rfl,zeM ns,k _ n _ H h (Val.of (by rw[zgT];rfl)) (Go.refl P) λz=>by cases z⟩⟩
def zur (q:Bool):W->W->Mo W:=λx y n Q=>∃d ds,x = .d d/\(y = .d (.lst ds)\/y = .d (.tup ds))/\d.eqOk/\(Dt.lst ds).eqOk/\∀b:Bool,(b=true↔d∈ds)->Q (.d (.bl (if q then !b else b))) n
def zvI:F2 Pn false (zvq q) (zur q):=⟨by
 rintro A H x y Z wy n Q R al F B P ⟨d,ds,I,J,O,U,h⟩ k;subst I;show⟨d,ds,F.is,?_,O,U,λb Y=>k _ n _ H (h b Y) (Val.of rfl) (Go.refl P) λz=>by cases z⟩;rcases J with rfl | rfl;exact .inl B.is;exact .inr B.is⟩
def zne{i:Int}(h:IsL G l xs)(e:atI l i=some d):∃v,atI xs i=some v/\Is G d v:=by
 unfold atI at e ⊢;rw[h.length];obtain⟨j,h1,h2⟩:=Option.bind_eq_some_iff.mp e;obtain⟨v,q,B⟩:=h.getD h2;right
def zut:W->W->Mo W:=λx y n Q=>∃l i d,x = .d (.tup l)/\y = .d (.int i)/\atI l i=some d/\Q (.d d) n
def zus:W->W->Mo W:=λx y n Q=>∃l i d,x = .d (.lst l)/\y = .d (.int i)/\atI l i=some d/\Q (.d d) n
def zvK:F2 Pn false (zqF K) zut:=⟨by
 rintro A H x y Y Z n Q R al B q P ⟨l,i,d,F,I,e,h⟩ k;subst F I;obtain⟨a,xs,J,O,U⟩:=ue B;obtain⟨v,h1,h2⟩:=zne U e;exact⟨a,xs,i,v,J,yG q,.of O,h1,k _ n _ H h (Val.of h2) (Go.refl P) λz=>by cases z⟩⟩
def zvJ:F2 Pn false (ztS K) zus:=⟨by
 rintro A H x y Y Z n Q R al B q P ⟨l,i,d,F,I,e,h⟩ k;subst F I;obtain⟨a,xs,J,O,U⟩:=y9 B;obtain⟨v,h1,h2⟩:=zne U e;exact⟨a,xs,i,v,J,yG q,.of O,h1,k _ n _ H h (Val.of h2) (Go.refl P) λz=>by cases z⟩⟩
def zfK:W->W->Mo W:=λx y n Q=>∃l m,x = .d (.tup l)/\y = .d (.tup m)/\l.length+m.length<=lim/\Q (.d (.tup (l++m))) n
def zts:F2 Pn false (zmr K) zfK:=⟨by
 rintro A H x y wx wy n Q R I J q P ⟨l,m,O,U,z,h⟩ k;subst O U;obtain⟨a,xs,Y,Z,B⟩:=ue J;obtain⟨b,ys,eb,hb,F⟩:=ue q;show⟨a,b,xs,ys,Y,eb,Z,hb,zc6 (by rw[B.length,F.length];exact z),λp H' g S=>?_⟩;exact k _ n _ H' h (zeo (B.append F) (zu.same S) (I.noT' (zu.same S) g) g) (Go.same P S) λz=>by cases z⟩
def zn6:W->W->Mo W:=λx y n Q=>∃l m,x = .d (.lst l)/\y = .d (.lst m)/\l.length+m.length<=lim/\Q (.d (.lst (l++m))) n
def ztr:F2 Pn true zpM zn6:=⟨by
 rintro A H x y wx wy n Q R J O q P ⟨l,m,U,Y,z,h⟩ k;subst U Y;obtain⟨a,xs,Z,ha,B⟩:=y9 O;obtain⟨b,ys,eb,hb,F⟩:=y9 q;show⟨a,b,xs,ys,Z,eb,ha,hb,zc6 (by rw[B.length,F.length];exact z),λp H' I g S=>?_⟩;exact k _ n _ H' h (uu (B.append F) (zu.same S) (J.new I) g) (Go.same P S) λz=>uh (B.append F) S I g⟩
abbrev lenD:W->Option Nat
 | .d (.lst l)=>some l.length
 | .d (.tup l)=>some l.length
 | _=>none
def zuu:AU->Mo W:=λq n Q=>∃x k,q=[x]/\lenD x=some k/\Q (.d (.int (k:Int))) n
def za3(h:zqH A H [w] vs):∃v,vs=[v]/\Bor A H w v:=by obtain⟨v,r,e,h1,h2⟩:=h;cases h2;exact⟨v,e,h1⟩
def zvL:FL Pn false (λxs H Q=>∃x n,xs=[x]/\ztz K x H n/\Q (.int n) H) zuu:=⟨by
 rintro A H xs O n Q R U b P ⟨x,j,J,q,h⟩ k;subst J;obtain⟨v,rfl,I⟩:=za3 b;show⟨v,j,rfl,?_,k _ n _ H h (Val.of rfl) (Go.refl P) λz=>by cases z⟩
 cases x with
 | d x=>
  cases x with
  | lst l=>
   cases q;obtain⟨a,ys,rfl,B,F⟩:=y9 I;exact .inl ⟨ys,.of B,F.length.symm⟩
  | tup l=>
   cases q;obtain⟨a,ys,rfl,B,F⟩:=ue I;exact .inr ⟨ys,.of B,F.length.symm⟩
  | _=>cases q
 | _=>cases q⟩
def zrb:AU->Mo W:=λq n Q=>∃l,(q=[.d (.lst l)]\/q=[.d (.tup l)])/\Q (.d (.lst l)) n
def ztv:FL Pn true (zku K) zrb:=⟨by
 rintro A H xs O n Q R F b P ⟨l,I,h⟩ k
 obtain⟨v,rfl,J⟩:∃v,xs=[v]/\(Bor A H (.d (.lst l)) v\/Bor A H (.d (.tup l)) v):=by
  rcases I with rfl | rfl;obtain⟨v,e,h⟩:=za3 b;exact⟨v,e,.inl h⟩;obtain⟨v,e,h⟩:=za3 b;exact⟨v,e,.inr h⟩
 obtain⟨a,ys,rfl,hs,q⟩:=zis (K:=K) J;exact⟨a,ys,rfl,hs,λp H' B g S=>k _ n _ H' h (uu q (zu.same S) (F.new B) g) (Go.same P S) λz=>uh q S B g⟩⟩
def znc:AU->Mo W:=λq n Q=>∃l,(q=[.d (.lst l)]\/q=[.d (.tup l)])/\Q (.d (.tup l)) n
def zqw:FL Pn false (zgj K) znc:=⟨by
 rintro A H xs U n Q R I b P ⟨l,J,h⟩ k;rcases J with rfl | rfl;obtain⟨v,rfl,B⟩:=za3 b;obtain⟨a,ys,rfl,q,F⟩:=y9 B;exact⟨a,ys,rfl,.inl ⟨.of q,λp H' O g S=>k _ n _ H' h (zeo F (zu.same S) (I.new O) g) (Go.same P S) λz=>by cases z⟩⟩;obtain⟨v,rfl,B⟩:=za3 b;obtain⟨a,ys,e,q,F⟩:=id B;subst e;exact⟨a,ys,rfl,.inr ⟨.of (zq _ _ q),k _ n _ H h (Val.of ⟨a,ys,rfl,q,F⟩) (Go.refl P) λz=>by cases z⟩⟩⟩
def uw {α:Type}(xs:List α)(lo hi:AQ):List α:=(xs.drop (HT.sIx xs.length 0 lo)).take (HT.sIx xs.length xs.length hi - HT.sIx xs.length 0 lo)
def zfU{lo hi:AQ}(h:IsL G l xs):IsL G (uw l lo hi) (zc0 xs lo hi):=by unfold uw zc0;rw[h.length];exact (h.drop _).take _
def xW {κ:Type}[DecidableEq κ](kvs:List (κ×Dt))(k:κ):Option Dt:=(kvs.find? λq=>decide (q.1=k)).map (·.2)
def uE.look {κ:Type}[DecidableEq κ]{G:Hp}{k:κ}:∀ {kvs:List (κ×Dt)} {ks:List (κ×V)},uE G kvs ks->(xW kvs k=none->xE ks k=none)/\∀d,xW kvs k=some d->∃v,xE ks k=some v/\Is G d v
 | [],_,h=>by cases h;exact⟨λ_=>rfl,λd e=>by cases e⟩
 | q::r,ks,⟨v,s,e,h1,h2⟩=>by
  subst e;have F:=uE.look (k:=k) h2;by_cases B:q.1=k;show⟨λz=>?_,λd z=>?_⟩;simp[xW,cq,B] at z;simp[xW,cq,B] at z;subst z;exact⟨v,z6 B,h1⟩;have I:xW (q::r) k=xW r k:=by simp[xW,cq,B]
  rw[I,z5 B];exact F
end
section
variable {X:Cx}{Pn:PN}{M S:AR}{fr:Bool}{e a b c:Expr}{es:AO}{f fa fb fc:AD}{pos p:Pos}
def uD(q:IxQ X r)(B:F2 Pn fr r F)(I:JB X Pn M a fa)(J:JB X Pn M b fb)(hs:zfy b):JE X Pn M fr (.Subscript a b pos) (znl F fa fb):=by obtain⟨ta,O,ra⟩:=I.ex;obtain⟨tb,U,rb⟩:=J.ex;exact⟨_,zkk q O U hs,zmw B ra rb⟩
abbrev zoT:Ev->Mo AQ:=λ_ n Q=>Q none n
def zoV (fa:AD):Ev->Mo AQ:=λρ n Q=>fa ρ n λx m=>∃i,x = .d (.int i)/\Q (some i) m
def uJ:JO X Pn M none zoT:=⟨_,zge,λA σ H ρ n Q R E P q k=>k none n H q (Go.refl P)⟩
def uK (h:JB X Pn M e f):JO X Pn M (some e) (zoV f):=by obtain⟨te,q,r⟩:=h.ex;show⟨_,zgf q,λA σ H ρ n Q R E P B k=>?_⟩;show r.run A σ H ρ n _ _ E P B  ?_;rintro w m v H' ⟨i,e,r⟩ F g;subst e;exact⟨i,yG F,k (some i) m H' r g⟩
def zuY (fa:AD)(fl q:Ev->Mo AQ):AD:=λρ n Q=>fa ρ n λx B=>fl ρ B λlo F=>q ρ F λhi I=>∃l,x = .d (.tup l)/\Q (.d (.tup (uw l lo hi))) I
def zuX (fa:AD)(fl q:Ev->Mo AQ):AD:=λρ n Q=>fa ρ n λx B=>fl ρ B λlo F=>q ρ F λhi I=>∃l,x = .d (.lst l)/\Q (.d (.lst (uw l lo hi))) I
def zrs{fl I:Ev->Mo AQ}(O:JB X Pn M e f)(B:JO X Pn M lo fl)(U:JO X Pn M hi I):JE X Pn M false (.Subscript e (.Slice lo hi none p2) pos) (zuY f fl I):=by obtain⟨te,Y,Z⟩:=O.ex;obtain⟨tl,ql,rl⟩:=B.ex;obtain⟨th,qh,rh⟩:=U.ex;show⟨_,zbO zgo Y ql qh,⟨λA σ H ρ n Q R E P hf k=>?_⟩⟩;show Z.run A σ H ρ n _ _ E P hf λw m v H1 r1 bb q=>?_;show rl A σ H1 ρ m _ _ (E.stay q.st) q.pn r1 λo m2 H2 r2 g2=>?_;show rh A σ H2 ρ m2 _ _ ((E.stay q.st).stay g2.st) g2.pn r2  ?_;rintro o3 m3 H3 ⟨l,e,r3⟩ F;subst e;have g:=(q.trans g2).trans F;obtain⟨ad,xs,rfl,ha,B⟩:=ue (bb.stay (g2.trans F).st);exact⟨ad,xs,rfl,ha,λp H' J S=>k _ m3 _ H' r3 (zeo (zfU B) (zu.same S) (Al.noT' (E.stay g.st).al (zu.same S) J) J) (g.trans (Go.same F.pn S)) λz=>by cases z⟩
def zhL{fl J:Ev->Mo AQ}(O:JB X Pn M e f)(q:JO X Pn M lo fl)(U:JO X Pn M hi J):JE X Pn M true (.Subscript e (.Slice lo hi none p2) pos) (zuX f fl J):=by obtain⟨te,Y,Z⟩:=O.ex;obtain⟨tl,ql,rl⟩:=q.ex;obtain⟨th,qh,rh⟩:=U.ex;show⟨_,zbO zqa Y ql qh,⟨λA σ H ρ n Q R E P hf k=>?_⟩⟩;show Z.run A σ H ρ n _ _ E P hf λw m v H1 r1 bb B=>?_;show rl A σ H1 ρ m _ _ (E.stay B.st) B.pn r1 λo m2 H2 r2 g2=>?_;show rh A σ H2 ρ m2 _ _ ((E.stay B.st).stay g2.st) g2.pn r2  ?_;rintro o3 m3 H3 ⟨l,e,r3⟩ F;subst e;have g:=(B.trans g2).trans F;obtain⟨ad,xs,rfl,ha,q⟩:=y9 (bb.stay (g2.trans F).st);show⟨ad,xs,rfl,.of ha,λp I=>?_⟩;have S:=yO.upd (o:=.lst (zc0 xs o o3)) I;exact k _ m3 _ _ r3 (uu (zfU q) (zu.same S) ((E.stay g.st).new I) zg) (g.trans (Go.same F.pn S)) λz=>(uh (zfU q) S I zg).back g.st
def zfV:∀ {ds:AS} {xs:AT},IsL G ds xs->IsL G ds.reverse xs.reverse
 | [],_,h=>by cases h;rfl
 | d::ds,xs,h=>by obtain⟨x,r,rfl,h1,h2⟩:=h;rw[cJ,cJ];exact (zfV h2).append (IsL.one h1)
def zoX (fa:AD):AD:=λρ n Q=>fa ρ n λx m=>∃l,x = .d (.lst l)/\Q (.d (.lst l.reverse)) m
def zjq(I:JB X Pn M e f):JE X Pn M true (.Subscript e (.Slice none none (some (.UnaryOp .USub (.Constant (.int 1) j p4) p3)) p2) pos) (zoX f):=by obtain⟨te,J,O⟩:=I.ex;show⟨_,zpE J,⟨λA σ H ρ n Q R E P U k=>?_⟩⟩;show O.run A σ H ρ n _ _ E P U  ?_;rintro w m v H1 ⟨l,e,r⟩ Y g;subst e;obtain⟨Z,xs,rfl,ha,q⟩:=y9 Y;exact⟨Z,xs,rfl,ha,λp H' B F S=>k _ m _ H' r (uu (zfV q) (zu.same S) ((E.stay g.st).new B) F) (g.trans (Go.same g.pn S)) λz=>(uh (zfV q) S B F).back g.st⟩
abbrev ztG:W->Option Key
 | .d (.int i)=>some (Sum.inl i)
 | .d (.str x)=>some (Sum.inr x)
 | _=>none
abbrev prD (q:Int×Dt):Dt:=.tup [.int q.1,q.2]
def kvD (q:Int×Dt):Key×Dt:=(Sum.inl q.1,q.2)
def spV (k:Nat)(fr:Bool)(F:PN->AU->Mo W):Sp:=λvs H Q _=>∃Pn A q n R,Al A H/\za0 A H q vs/\q.length=k/\uC Pn A n H/\F Pn q n R/\∀w m v H',R w m->Val A H' w v->Go Pn A H m H'->(fr=true->FrV A H H' w v)->Q v H'
def mFn (k:Nat)(F:AU->Mo W)(fa:AC):AD:=λρ n Q=>fa ρ n λq m=>q.length=k/\F q m Q
def zsG(q:RA Pn M ta fs):RE Pn M fr (zcP (spV k fr F) [] E0 ta) (mFn k (F Pn) fs):=⟨λA σ H ρ n Q R E P B I=>by show q.run A σ H ρ n _ _ E P B  ?_;rintro J m vs H1 ⟨O,r⟩ b g;rw[cY];exact⟨Pn,A,J,m,R,(E.stay g.st).al,b,O,g.pn,r,λw U v H' h1 h2 Y Z=>I w U v H' h1 h2 (g.trans Y) λz=>(Z z).back g.st⟩⟩
def yK(D:Dfn X.K X.mg x st ps fA fd)(G:FnOk X.prog X.w X.K X.mg X.base CX0 j fA fd ps (spV k fr F))(O:Room J X.A)(U:JA X Pn M (e::es) fs)(q:j<=J:=by ext)(Y:Gl X x:=by rfl)(B:Ah x:=by ext)(Z:starEach (e::es) X.env=(false,eval e X.env)::starEach es X.env:=by rfl)(I:(backTo pos (starEach es X.env)).any (·.1)=false:=by rfl) :
  JE X Pn M fr (.Call (.Name x p) (e::es) [] pos) (mFn k (F Pn) fs):=by
 obtain⟨ta,qa,ra⟩:=U.ex;exact⟨_,zkj D G O qa q Y B Z I,zsG ra⟩
abbrev W.flat (fr:Bool):W->Bool
 | .d (.lst l)=>fr&&Dt.noLs l
 | .d x=>x.noL
 | .pen _=>true
 | .dk _=>false
 | .dt _=>false
 | .ss _ _ _=>false
 | .df _=>false
 | .kf _=>false
 | .fl _=>false
 | .ad _ _=>false
 | .tz _ _=>false
def uC.less(h:uC Pn A n H)(s:∀a,A' a->A a):uC Pn A' n H:=by
 show⟨?_,Pn.J.grow h.2 λa z=>.inl (s a z)⟩;have h:=h.1;split at h;trivial;exact⟨h.1,λr e z=>h.2.1 r e (s _ z),λz=>h.2.2 (s _ z)⟩
end
structure JG (X:Cx)(S M:AR)(e:Expr)(mg:W->Ev->(Ev->Prop)->Prop):Prop where
 ex:∃g,QG X e g/\RG S M g mg
structure JGs (X:Cx)(S M:AR)(es:AO)(mg:AS->Ev->(Ev->Prop)->Prop):Prop where
 ex:∃g,QGs X es g/\RGs S M g mg
structure JI (X:Cx)(Pn:PN)(M:AR)(ow:Bool)(tg e:Expr)(f:AC):Prop where
 ex:∃wi,QI X tg e wi/\RI Pn M ow wi f
structure JTs (X:Cx)(Pn:PN)(M:AR)(es:AO)(f:Ev->Mo Bool):Prop where
 ex:∃t,QTs X es t/\RT Pn M t f
section
variable {X:Cx}{Pn:PN}{M S:AR}{fr:Bool}{e a b c:Expr}{es:AO}{f fa fb fc:AD}{pos p:Pos}
def gN (i:Nat):W->Ev->(Ev->Prop)->Prop:=λw ρ Q=>Q (ρ.set i (some w))
def gNl:AS->Ev->(Ev->Prop)->Prop:=λds ρ Q=>ds=[]/\Q ρ
def gCn (g:W->Ev->(Ev->Prop)->Prop)(u:AS->Ev->(Ev->Prop)->Prop):AS->Ev->(Ev->Prop)->Prop:=λds ρ Q=>∃d r,ds=d::r/\g (.d d) ρ λq=>u r q Q
def gTp (n:Nat)(u:AS->Ev->(Ev->Prop)->Prop):W->Ev->(Ev->Prop)->Prop:=λw ρ Q=>∃ds,w = .d (.tup ds)/\ds.length=n/\u ds ρ Q
def EnvR.set(E:EnvR A M σ H ρ)(hi:i∉M)(h:Val A H w v):EnvR A M (σ.set i (some v)) H (ρ.set i (some w)) where
 len:=by rw[bN,bN];exact E.len
 val:=λj u e=>by
  by_cases q:j=i;subst q
  have J:j<ρ.length:=by
   have:=(aj.mp e).1;right
  rw[aU J] at e;cases e;exact⟨v,aU (by rw[E.len];exact J),λ_=>h,λz=>absurd z hi⟩;rw[av (Ne.symm q)] at e ⊢;exact E.val j u e
 dis:=λj k u u' ad q O B U Y Z=>by have F:i≠j:=λz=>hi (z ▸ q);have I:i≠k:=λz=>hi (z ▸ O);rw[av F] at U Z;rw[av I] at Y ⊢;exact E.dis j k u u' ad q O B U Y Z
 al:=E.al
def zcr(hi:i∉M)(hs:i∉S):RG S M (za5 i) (gN i):=⟨λA σ H ρ v w Q R E h r k=>k _ _ r (E.set hi h) λj q=>⟨av λ(z:i=j)=>hs (by rw[z];exact q),av λ(z:i=j)=>hs (by rw[z];exact q)⟩⟩
def zt(q:X.N.Nodup)(B:X.N[i]?=some x:=by rfl)(F:Loc X.env.scope x:=by first | exact Or.inl rfl | exact Or.inr rfl)(hi:i∉M:=by ext)(hs:i∉S:=by ext)(I:X.fn x=true\/X.env.scope.names.lookup x=some .local:=by walk_at "l"):JG X S M (.Name x pos) (gN i):=⟨_,xj q B F I,zcr hi hs⟩
def zfX:JGs X S M [] gNl:=⟨_,zco,⟨by
 rintro A σ H ρ vs ds Q R E h ⟨e,r⟩ k;subst e;exact⟨h,k σ ρ r E λ_ _=>⟨rfl,rfl⟩⟩⟩⟩
def xq(h1:JG X S M e g)(h2:JGs X S M es u)(hs:(assignEach (e::es) X.env).map (·.2)=assign e X.env::(assignEach es X.env).map (·.2):=by rfl):JGs X S M (e::es) (gCn g u):=by obtain⟨t1,U,Y⟩:=h1.ex;obtain⟨t2,Z,r2⟩:=h2.ex;show⟨_,yH U Z hs,⟨ ?_⟩⟩;rintro A σ H ρ vs ds Q R E h ⟨d,r,e,hg⟩ k;subst e;obtain⟨v,s,rfl,hv,hr⟩:=h;show⟨v,s,rfl,?_⟩;show Y.run A σ H ρ v _ _ _ E (Val.of hv) hg λq B hu E' J=>?_;exact r2.run A q H B s _ _ _ E' hr hu λF I hR E2 O=>k F I hR E2 λi hi=>⟨(O i hi).1.trans (J i hi).1,(O i hi).2.trans (J i hi).2⟩
def zjr {k n:Nat}{u:AS->Ev->(Ev->Prop)->Prop}(K:AH)(I:X.K=K)(J:X.calm=true)(h:JGs X S M es u)(hn:(assignEach es X.env).length=n:=by rfl)(q:(assignEach es X.env).findIdx? (·.1)=none:=by rfl):JG X S M (.Tuple es k pos) (gTp n u):=by obtain⟨t1,O,U⟩:=h.ex;show⟨_,zkn K I J O hn q,⟨ ?_⟩⟩;rintro A σ H ρ v w Q R E h ⟨ds,e,Y,Z⟩ kk;subst e;obtain⟨ad,xs,rfl,B,F⟩:=h;exact⟨ad,xs,rfl,.of (zq _ _ B),by rw[F.length];exact Y,U.run A σ H ρ xs ds _ _ E F Z kk⟩
def ztK (fa:AD):AC:=λρ n Q=>fa ρ n λx m=>∃l,x = .d (.lst l)/\Q (l.map W.d) m
def ztM (fa:AD):AC:=λρ n Q=>fa ρ n λx m=>∃l,x = .d (.tup l)/\Q (l.map W.d) m
def zfW {G G':Hp}{l:AS}{xs:AT}{i:Nat}{w:W}(h:IsL G l xs)(e:(l.map W.d)[i]?=some w)(s:zu G G'):∃d x,w = .d d/\xs[i]?=some x/\Is G' d x:=by rw[aN] at e;obtain⟨d,h1,rfl⟩:=aL.mp e;obtain⟨x,h2,q⟩:=h.getD h1;exact⟨d,x,rfl,h2,q.stay s⟩
def zgY(h:zL A H q=some (.lst xs))(B:IsL (zL A H) l xs):ItV false A H (Itl K q) (l.map W.d) where
 one:=λi w A2 H2 e s _ _=>by obtain⟨d,x,rfl,F,I⟩:=zfW B e s;have g:=zq _ _ (s.lst h);show⟨⟨xs,x,.of g,F⟩,?_⟩;rintro y H3 ⟨J,O⟩;subst J;have:=O xs (.of g);rw[F] at this;cases this;exact⟨λ_ _ z=>z,Val.of I⟩
 stop:=λA2 H2 s _=>⟨xs,.of (zq _ _ (s.lst h)),by rw[af,B.length];exact ak _⟩
def zou(h:zL A H q=some (.tup xs))(B:IsL (zL A H) l xs):ItV false A H (Itt K q) (l.map W.d) where
 one:=λi w A2 H2 e s _ _=>by obtain⟨d,x,rfl,F,I⟩:=zfW B e s;have g:=zq _ _ (s.tup h);show⟨⟨xs,x,.of g,F⟩,?_⟩;rintro y H3 ⟨J,O⟩;subst J;have:=O xs (.of g);rw[F] at this;cases this;exact⟨λ_ _ z=>z,Val.of I⟩
 stop:=λA2 H2 s _=>⟨xs,.of (zq _ _ (s.tup h)),by rw[af,B.length];exact ak _⟩
def xI(K:AH)(F:X.K=K)(h:JE X Pn M fr e f):JI X Pn M false tg e (ztK f):=by obtain⟨te,q,r⟩:=h.ex;show⟨_,zhl K F q,⟨λA σ H ρ n Q R E P I k=>?_⟩⟩;show r.run A σ H ρ n _ _ E P I  ?_;rintro w m v H1 ⟨l,e,r⟩ J g _;subst e;obtain⟨O,xs,rfl,B,U⟩:=J;exact⟨O,rfl,⟨xs,.of (zq _ _ B)⟩,k _ m _ H1 r (zgY B U) g⟩
def zeT(K:AH)(F:X.K=K)(h:JE X Pn M fr e f):JI X Pn M false tg e (ztM f):=by obtain⟨te,q,r⟩:=h.ex;show⟨_,zpH K F q,⟨λA σ H ρ n Q R E P I k=>?_⟩⟩;show r.run A σ H ρ n _ _ E P I  ?_;rintro w m v H1 ⟨l,e,r⟩ J g _;subst e;obtain⟨O,xs,rfl,B,U⟩:=J;exact⟨O,rfl,⟨xs,.of (zq _ _ B)⟩,k _ m _ H1 r (zou B U) g⟩
def zet (lo:Int)(n:Nat):AU:=(List.range n).map λi:Nat=>W.d (.int (lo+i))
def zot{lo:Int}:ItV false A H (Itr lo n) (zet lo n) where
 one:=λi w A2 H2 e s _ _=>by unfold zet at e;rw[aN] at e;obtain⟨j,h1,rfl⟩:=aL.mp e;obtain⟨hi,h2⟩:=aj.mp h1;rw[cx] at h2;subst h2;rw[aE] at hi;show⟨hi,?_⟩;rintro y H3 ⟨q,B⟩;subst q B;exact⟨λ_ _ z=>z,Val.of rfl⟩
 stop:=λA2 H2 s _=>by
  change n<=(zet lo n).length;unfold zet;right
def ztL (fa:AC):AC:=λρ n Q=>fa ρ n λq m=>∃j:Int,q=[.d (.int j)]/\j<=1000000/\-1000000<=j/\Q (zet 0 j.toNat) m
def yc(B:Gl X "range")(F:X.mg "range" = none)(I:JAB X Pn M [a] fs)(hs:starEach [a] X.env=[(false,eval a X.env)]:=by rfl):JI X Pn M false tg (.Call (.Name "range" p) [a] [] pos) (ztL fs):=by obtain⟨te,q,r⟩:=I.ex;show⟨_,zfc B F q hs,⟨λA σ H ρ n Q R E P J k=>?_⟩⟩;show r.run A σ H ρ n _ _ E P J  ?_;rintro Y m vs H1 ⟨j,e,Z,j2,r⟩ O g;subst e;obtain⟨v,rfl,U⟩:=za3 O;obtain rfl:=yG U;exact⟨j,rfl,by lia,by lia,k _ m _ H1 r zot g⟩
def enW:Nat->AS->AU
 | _,[]=>[]
 | k,x::r=>.d (.tup [.int k,x])::enW (k+1) r
def ziW:AS->AS->AU
 | x::r,y::s=>.d (.tup [x,y])::ziW r s
 | _,_=>[]
def zk4:∀ (l k:AS) (i:Nat),l.length=k.length->(ziW l k)[i]?=(l[i]?).bind λx=>(k[i]?).map λy=>W.d (.tup [x,y])
 | [],[],_,_=>by simp[ziW]
 | [],_::_,_,h=>by simp at h
 | _::_,[],_,h=>by simp at h
 | x::r,y::s,0,_=>by simp[ziW]
 | x::r,y::s,i+1,h=>by have:=zk4 r s i (by simpa using h);simp only[ziW,dX,this]
def zk5:∀ (l k:AS),l.length=k.length->(ziW l k).length=l.length
 | [],[],_=>rfl
 | [],_::_,h=>by simp at h
 | _::_,[],h=>by simp at h
 | x::r,y::s,h=>by rw[ziW,aO,aO,zk5 r s (by simpa using h)]
def zlJ(q:l.length=k.length)(h:∀ {A2:AL} {H2:Hp},zu (zL A H) (zL A2 H2)->SqV kb K H2 J xs)(U:IsL (zL A H) l xs)(h':zL A H O=some (.tup ys))(hk:IsL (zL A H) k ys):ItV false A H (Izg kb K J O) (ziW l k) where
 one:=λi w A2 H2 e s _ hA=>by rw[zk4 _ _ _ q] at e;obtain⟨d,h1,e⟩:=Option.bind_eq_some_iff.mp e;obtain⟨d',B,rfl⟩:=aL.mp e;obtain⟨x,Y,hd⟩:=U.getD h1;obtain⟨y,Z,F⟩:=hk.getD B;have g:=h s;have g':=zq _ _ (s.tup h');show⟨⟨xs,ys,x,y,g,.of g',Y,Z⟩,?_⟩;rintro v H3 ⟨T,z,z',e1,hT,e3,hz,I⟩;subst e1 e3;have q1:=hz xs g;have q2:=I ys (.of g');rw[Y] at q1;rw[Z] at q2;cases q1;cases q2;have S:=yO.upd (o:=.tup [x,y]) hT;exact⟨S,Val.of ⟨T,_,rfl,zr (hA T hT) zg,_,_,rfl,(hd.stay s).stay (zu.same (zb0 S)),_,_,rfl,(F.stay s).stay (zu.same (zb0 S)),rfl⟩⟩
 stop:=λA2 H2 s _=>⟨xs,h s,by rw[zk5 _ _ q,U.length];exact ak _⟩
def zig (ρ:Ev)(cix:List (Option Nat)):Ev:=cix.map λo=>match o with
 | none=>none
 | some i=>(ρ[i]?).join
def zbG (M:AR)(cix:List (Option Nat)):AR:=(List.range cix.length).filter λk=>match cix[k]? with
 | some (some i)=>M.contains i
 | _=>false
def zbK:k∈zbG M cix↔∃i,cix[k]?=some (some i)/\i∈M:=by
 unfold zbG;rw[b7,aQ];constructor;rintro⟨h1,h2⟩;rw[ax h1] at h2 ⊢
 cases e:cix[k] with
 | none=>rw[e] at h2;cases h2
 | some i=>rw[e] at h2;exact⟨i,rfl,by simpa using h2⟩
 rintro⟨i,h1,h2⟩;exact⟨(aj.mp h1).1,by right⟩
def za4 {α:Type}{l:List (Option α)}{cix:List (Option Nat)}{k:Nat}{x:α}:(cix.map λo=>match o with | none=>none | some i=>(l[i]?).join)[k]?=some (some x)↔∃i,cix[k]?=some (some i)/\l[i]?=some (some x):=by
 rw[aN]
 cases e:cix[k]? with
 | none=>simp
 | some o=>
  cases o with
  | none=>simp
  | some i=>
   simp only[Option.map_some,Option.some.injEq];constructor;intro h;show⟨i,rfl,?_⟩
   cases q:l[i]? with
   | none=>rw[q] at h;cases h
   | some z=>rw[q] at h;cases z with
    | none=>cases h
    | some y=>cases h;rfl
   right
def EnvR.cap(E:EnvR A M σ H ρ)(hn:(cix.filterMap id).Nodup):EnvR A (zbG M cix) (zeD σ cix) H (zig ρ cix) where
 len:=by unfold zeD zig;rw[af,af]
 val:=λk w e=>by
  obtain⟨i,h1,h2⟩:=za4.mp e;obtain⟨v,Y,Z,s3⟩:=E.val i w h2;show⟨v,za4.mpr ⟨i,h1,Y⟩,λz=>Z λy=>z (zbK.mpr ⟨i,h1,y⟩),λz=>?_⟩;obtain⟨j,h3,h4⟩:=zbK.mp z;right
 dis:=λk k' w u ad hk aa ab e1 e2 Y Z=>by
  obtain⟨i,h1,h2⟩:=za4.mp e1;obtain⟨i',q,ac⟩:=za4.mp e2;obtain⟨j,h3,h4⟩:=za4.mp Y;obtain⟨j',F,ag⟩:=za4.mp Z;rw[h1] at h3;cases h3;rw[q] at F;cases F;obtain⟨m,m1,m2⟩:=zbK.mp hk;rw[h1] at m1;cases m1;obtain⟨m',I,an⟩:=zbK.mp aa;rw[q] at I;cases I;show E.dis _ _ w u ad m2 an (λz=>?_) h2 ac h4 ag;subst z
  have key:∀ (l:List (Option Nat)) (a b:Nat) (x:Nat),(l.filterMap id).Nodup->l[a]?=some (some x)->l[b]?=some (some x)->a=b:=by
   intro l
   induction l with
   | nil=>intro a b x _ h;simp at h
   | cons o l ih=>
    intro a b x hn J O;have U:∀ (l:List (Option Nat)) (a:Nat),l[a]?=some (some x)->x∈l.filterMap id:=λl a h=>dh.mpr ⟨some x,aJ h,rfl⟩
    cases o with
    | none=>
     have ap:(l.filterMap id).Nodup:=by simpa using hn
     cases a with
     | zero=>simp at J
     | succ a=>
      cases b with
      | zero=>simp at O
      | succ b=>rw[ih a b x ap (by simpa using J) (by simpa using O)]
    | some y=>
     have B:y∉l.filterMap id/\(l.filterMap id).Nodup:=by right
     cases a with
     | zero=>
      have as:y=x:=by simpa using J
      subst as
      cases b with
      | zero=>rfl
      | succ b=>exact absurd (U l b (by simpa using O)) B.1
     | succ a=>
      cases b with
      | zero=>
       have a0:y=x:=by simpa using O
       subst a0;exact absurd (U l a (by simpa using J)) B.1
      | succ b=>rw[ih a b x B.2 (by simpa using J) (by simpa using O)]
  exact ab (key cix k k' _ hn h1 q)
 al:=E.al
def EnvR.more {A:AL}{σ:St}{H H':Hp}{ρ:Ev}(E:EnvR A M σ H ρ){p:Addr}{o:HO}(s:zu H H')(n:Fr H p)(g:H' p=some o)(B:NP o)(F:Mt o):EnvR (λb=>A b\/b=p) M σ H' ρ where
 len:=E.len
 val:=λi w e=>by obtain⟨v,h1,h2,q⟩:=E.val i w e;show⟨v,h1,λz=>WAt.up (xT s n) (xT s n) (h2 z),λz=>?_⟩;obtain⟨a,e,I,J,O⟩:=q z;exact⟨a,e,.inl I,WAt.up s (xT s n) J,O⟩
 dis:=E.dis
 al:=λa h=>by
  rcases h with h | h;obtain⟨o,h1,h2,q⟩:=E.al a h;exact⟨o,s _ _ h1 h2,h2,q⟩;subst h;exact⟨o,g,B,F⟩
def EnvR.upd{A:AL}{σ:St}{H:Hp}{ρ:Ev}(E:EnvR A M σ H ρ){p:Addr}(Z:A p)(hn:∀i w,i∈M->ρ[i]?=some (some w)->σ[i]?≠some (some (.ref p)))(np:NP o)(nt:Mt o):EnvR A M σ (L2.upd H p o) ρ where
 len:=E.len
 val:=λi w e=>by
  obtain⟨v,h1,h2,h3⟩:=E.val i w e;show⟨v,h1,λz=>?_,λz=>?_⟩;change WAt _ _ _ _;rw[yg Z];exact h2 z;obtain⟨a,F,h4,O,Y⟩:=h3 z;have J:a≠p:=λq=>hn i w z e (by rw[h1,F,q]);show⟨a,F,h4,?_,Y⟩;change WAt _ _ _ _;rw[yg Z]
  cases w with
  | d x=>
   cases x with
   | lst l=>obtain⟨U,xs,B,I,g2⟩:=O;rw[F] at B;cases B;exact⟨a,xs,F,by rw[ze J];exact I,g2⟩
   | dct=>obtain⟨U,xs,B,I,g2⟩:=O;rw[F] at B;cases B;exact⟨a,xs,F,by rw[ze J];exact I,g2⟩
   | _=>cases Y
  | pen p=>cases Y
  | dk k=>obtain⟨U,xs,B,I,g2⟩:=O;rw[F] at B;cases B;exact⟨a,xs,F,by rw[ze J];exact I,g2⟩
  | dt k=>obtain⟨U,xs,B,I,g2⟩:=O;rw[F] at B;cases B;exact⟨a,xs,F,by rw[ze J];exact I,g2⟩
  | ss P w k=>obtain⟨U,xs,B,I,g2⟩:=O;rw[F] at B;cases B;exact⟨a,xs,F,by rw[ze J];exact I,g2⟩
  | df k=>obtain⟨U,ob,xs,B,I,g2⟩:=O;rw[F] at B;cases B;exact⟨a,ob,xs,F,by right,g2⟩
  | kf k=>obtain⟨U,ob,xs,B,I,g2⟩:=O;rw[F] at B;cases B;exact⟨a,ob,xs,F,by right,g2⟩
  | ad a x=>cases Y
  | tz kvs x=>cases Y
  | fl k=>obtain⟨U,ob,xs,B,I,g2⟩:=O;rw[F] at B;cases B;exact⟨a,ob,xs,F,by right,g2⟩
 dis:=E.dis
 al:=λa h=>by
  by_cases ha:a=p;subst ha;exact⟨o,zg,np,nt⟩;rw[ze ha];exact E.al a h
def uC.upd{A:AL}{H:Hp}{p:Addr}(h:uC Pn A n H)(B:A p):uC Pn A n (L2.upd H p o):=by
 show⟨?_,Pn.J.upd h.2 B⟩;have h:=h.1;split at h;trivial
 ·show⟨?_,h.2⟩;rename_i q c ns _;obtain⟨h1,h2,F⟩:=h;have I:∀r,ns=0::r->c≠p:=λr e z=>h2 r e (z ▸ B);have O:q≠p:=λz=>F (z ▸ B);obtain⟨a,l,U,g2,Y,Z⟩:=h1.ob;exact⟨⟨a,l,by rw[ze O];exact U,g2,Y,Z⟩,h1.ls.upd I,h1.len⟩
end
structure JS (X:Cx)(Pn:PN)(S M:AR)(fr:Bool)(st:Stmt)(fs:Ms):Prop where
 ex:∃ts,QS X st ts/\RS Pn S M fr ts fs
structure JSs (X:Cx)(Pn:PN)(S M:AR)(fr:Bool)(st:List Stmt)(fs:Ms):Prop where
 ex:∃ts,QSs X st ts/\RS Pn S M fr ts fs
section
variable {X:Cx}{Pn:PN}{M S:AR}{fr fr':Bool}{e a b c:Expr}{es:AO}{f fa fb fc:AD}{pos p:Pos}
def uC.grow'(h:uC Pn A n H)(h':uC Pn A m H')(I:Fr H q)(g:H' q=some o)(B:NP o)(O:Mt o):uC Pn (λb=>A b\/b=q) m H':=by
 show⟨?_,Pn.J.grow h'.2 λa z=>z.imp_right λe=>⟨o,by rw[e];exact g,B,O⟩⟩;have h:=h.1;have h':=h'.1;revert h h'
 cases Pn.pn with
 | none=>exact λ_ _=>trivial
 | some x=>
  obtain⟨p,c,ns⟩:=x;intro h h';show⟨h'.1,λr F z=>z.elim (h'.2.1 r F) λz=>?_,λz=>z.elim h'.2.2 λz=>?_⟩;subst z;rcases h.1.ls with ⟨r',e',o,z⟩ | ⟨r',e'⟩;exact I _ z (λ_ e=>by cases e);rw[F] at e';cases e';subst z;obtain⟨a,l,e,_⟩:=h'.1.ob;rw[e] at g;cases g;have:=B _ rfl;rw[zpk] at this;cases this
def ztm(h:∀C s H ex,JE (zV X scope N C s H ex) Pn M fr e f):∃te,(∀C s H ex,QE (zV X scope N C s H ex) e te)/\RE Pn M fr te f:=
 ⟨λσ H Q=>∀C s H0 ex,(h C s H0 ex).ex.choose σ H Q,λC s H0 ex=>⟨λpins s' σ H Q I z=>(h C s H0 ex).ex.choose_spec.1.run pins s' σ H Q I (z C s H0 ex)⟩,
  ⟨λA σ H ρ n Q R E P q k C s H0 ex=>(h C s H0 ex).ex.choose_spec.2.run A σ H ρ n Q R E P q k⟩⟩
def zto(h:∀C s H ex,JTs (zV X scope N C s H ex) Pn M es q):∃te,(∀C s H ex,QTs (zV X scope N C s H ex) es te)/\RT Pn M te q:=
 ⟨λσ H Q=>∀C s H0 ex,(h C s H0 ex).ex.choose σ H Q,λC s H0 ex=>⟨λpins s' σ H Q I z=>(h C s H0 ex).ex.choose_spec.1.run pins s' σ H Q I (z C s H0 ex)⟩,
  ⟨λA σ H ρ n Q R E P B k C s H0 ex=>(h C s H0 ex).ex.choose_spec.2.run A σ H ρ n Q R E P B k⟩⟩
def ztn(h:∀C s H ex,JG (zV X scope N C s H ex) S M e mg):∃g,(∀C s H ex,QG (zV X scope N C s H ex) e g)/\RG S M g mg:=
 ⟨λv σ H Q=>∀C s H0 ex,(h C s H0 ex).ex.choose v σ H Q,λC s H0 ex=>⟨λpins s' σ H v u Q I q z=>(h C s H0 ex).ex.choose_spec.1.run pins s' σ H v u Q I q (z C s H0 ex)⟩,
  ⟨λA σ H ρ v w Q R E B F k C s H0 ex=>(h C s H0 ex).ex.choose_spec.2.run A σ H ρ v w Q R E B F k⟩⟩
def zdw (mg:W->Ev->(Ev->Prop)->Prop)(U:Ev->Mo Bool)(Y:AD)(J:Ev)(Q:AV):AU->Nat->Prop:=λl Z=>l.length<=lim/\∃I:Nat->Ev->Nat->AS->Prop,I 0 J Z []/\
 (∀i w q F acc,l[i]?=some w->I i q F acc->mg w q λB=>U B F λb O=>if b=true then Y B O λx n3=>∃d,x = .d d/\I (i+1) B n3 (acc++[d]) else I (i+1) B O acc)/\
 ∀ q F acc,I l.length q F acc->Q (.d (.lst acc)) F
abbrev zoQ (q:AC) (mg:W->Ev->(Ev->Prop)->Prop) (B:Ev->Mo Bool) (F:AD) (cix:List (Option Nat)):AD:=λρ n Q=>q ρ n (zdw mg B F (zig ρ cix) Q)
def zkx(hn:(cix.filterMap id).Nodup)(hi:RI Pn M ow wi fi)(hg:RG (zbG M cix) (zbG M cix) g mg)(ht:RT Pn (zbG M cix) ti ft)(he:RE Pn (zbG M cix) fr' te fe):RE Pn M true (zkK wi g ti te cix) (zoQ fi mg ft fe cix):=⟨λA σ H ρ n Q R E P hf k=>by
 show hi.run A σ H ρ n _ _ E P hf λl m J H1 ⟨hz,I,i0,it,ie⟩ iv g1=>λacc B=>?_;have E1:=E.stay g1.st;have E2:=(E1.cap hn).more (zu.upd (o:=.lst []) B) (Fr.of B) zg NP.lst rfl;have P2:uC Pn (λb=>A b\/b=acc) m (L2.upd H1 acc (.lst [])):=g1.pn.grow' (g1.pn.same (yO.upd B)) (Fr.of B) zg NP.lst rfl;have a1:∀k w,k∈zbG M cix->(zig ρ cix)[k]?=some (some w)->(zeD σ cix)[k]?≠some (some (.ref acc)):=λk w hk hw z=>by obtain⟨v,s1,_,s3⟩:=(E1.cap hn).val k w hw;obtain⟨a,e,hA,_⟩:=s3 hk;rw[z] at s1;cases s1;cases e;exact E1.new B hA
 have key:∀ O F H',EnvR (λb=>A b\/b=acc) (zbG M cix) O H' F->(∀k∈zbG M cix,O[k]?=(zeD σ cix)[k]?/\F[k]?=(zig ρ cix)[k]?)->∀k w,k∈zbG M cix->F[k]?=some (some w)->O[k]?≠some (some (.ref acc)):=λO F H' E' al k w hk hw z=>by right
 show⟨λi mm O H'=>mm=l.length - i/\i<=l.length/\∃ F n' q xs,EnvR (λb=>A b\/b=acc) (zbG M cix) O H' F/\uC Pn (λb=>A b\/b=acc) n' H'/\I i F n' q/\H' acc=some (.lst xs)/\IsL (zL (λb=>A b\/b=acc) H') q xs/\q.length<=i/\zu (zL A H1) (zL (λb=>A b\/b=acc) H')/\zu H1 H'/\(∀k∈zbG M cix,O[k]?=(zeD σ cix)[k]?/\F[k]?=(zig ρ cix)[k]?),
  ⟨l.length,by simp,aM _,_,m,[],[],E2,P2,i0,zg,rfl,ak _,xT (zu.upd B) (Fr.of B),zu.upd B,λk hk=>⟨rfl,rfl⟩⟩,?_⟩
 rintro i mm O H' ⟨rfl,a2,F,n',q,xs,E',P',hI,ab,Y,a3,st,s1,al⟩;by_cases ap:i<l.length
 show Or.inr ?_;have ag:l[i]?=some l[i]:=ax ap;obtain⟨go,yl⟩:=iv.one i l[i] _ H' ag st (λ_=>s1) λp hp=>E'.new hp
 show⟨go,λan H2=>∃ F n' q xs,EnvR (λb=>A b\/b=acc) (zbG M cix) an H2 F/\uC Pn (λb=>A b\/b=acc) n' H2/\I (i+1) F n' q/\H2 acc=some (.lst xs)/\IsL (zL (λb=>A b\/b=acc) H2) q xs/\q.length<=i+1/\zu (zL A H1) (zL (λb=>A b\/b=acc) H2)/\zu H1 H2/\(∀k∈zbG M cix,an[k]?=(zeD σ cix)[k]?/\F[k]?=(zig ρ cix)[k]?),
  λan H2 h=>⟨l.length - (i+1),by lia,rfl,ap,h⟩,λx H2 hy=>?_⟩
 obtain⟨S2,V2⟩:=yl x H2 hy;show hg.run _ O H2 F x l[i] _ _ (E'.stay (zu.same S2)) V2 (it i l[i] F n' q ag hI) λac U r3 E3 f3=>?_;have Z:∀k∈zbG M cix,ac[k]?=(zeD σ cix)[k]?/\U[k]?=(zig ρ cix)[k]?:=λk hk=>⟨(f3 k hk).1.trans (al k hk).1,(f3 k hk).2.trans (al k hk).2⟩;show ht.run _ ac H2 U n' _ _ E3 (P'.same S2) r3 λb m3 H4 r4 g4=>?_;have aa:=(zu.same S2).trans g4.st
 cases b with
 | false=>
  rw[if_neg (by ext)] at r4 ⊢;exact⟨U,m3,q,xs,E3.stay g4.st,g4.pn,r4,aa.lst ab,Y.stay (yx aa),by lia,st.trans (yx aa),s1.trans aa,Z⟩
 | true=>
  rw[if_pos rfl] at r4 ⊢;show he.run _ ac H4 U m3 _ _ (E3.stay g4.st) g4.pn r4  ?_;rintro w5 m5 v5 H5 ⟨d,e5,r5⟩ V5 g5 _;subst e5;have ad:=aa.trans g5.st;have E5:=(E3.stay g4.st).stay g5.st;have as:=ad.lst ab;show⟨xs,as,zg2 (by rw[Y.length];lia),U,m5,q++[d],xs++[v5],E5.upd (.inr rfl) (key ac U H5 E5 Z) NP.lst rfl,g5.pn.upd (.inr rfl),r5,zg,?_,by right,?_,?_,Z⟩;rw[yg (.inr rfl)];exact (Y.stay (yx ad)).append (IsL.one V5.is);rw[yg (.inr rfl)];exact st.trans (yx ad);exact λb o e nn=>by rw[ze (zf e B)];exact s1.trans ad b o e nn
 show Or.inl ?_;have a0:i=l.length:=by lia
 subst a0;show⟨iv.stop _ H' st (λ_=>s1),k _ n' _ H' (ie F n' q hI) (Val.of ⟨acc,xs,rfl,zr (E1.new B) ab,Y.stay (zu.same (xa λb z=>.inl z))⟩) (g1.trans ⟨s1,P'.less λa z=>.inl z⟩) λ_=>⟨acc,rfl,(Fr.of B).back g1.st,acc,xs,rfl,ab,Y⟩⟩⟩
abbrev ztO:Ev->Mo Bool:=λ_ n Q=>Q true n
def xb:JTs X Pn M [] ztO:=⟨_,zpL,⟨λA σ H ρ n Q R E P q k=>k true n H q (Go.refl P)⟩⟩
def zb6(h:JT X Pn M c q):JTs X Pn M [c] q:=let ⟨t,h1,h2⟩:=h.ex;⟨t,zks h1,h2⟩
def xU(J:X.calm=true)(O:CompOk X scope N cix)(hi:JI X Pn M I tg iter q)(U:∀C s H ex,JG (zV X scope N C s H ex) (zbG M cix) (zbG M cix) tg mg)(Y:∀C s H ex,JTs (zV X scope N C s H ex) Pn (zbG M cix) ifs B)(Z:∀C s H ex,JE (zV X scope N C s H ex) Pn (zbG M cix) fr' elt F)(hn:(cix.filterMap id).Nodup:=by ext)(hs:∀x,foldedSetIterable iter X.env x=pure x:=by intro _;rfl):JE X Pn M true (.ListComp elt [⟨tg,iter,ifs,0⟩] scope pos) (zoQ q mg B F cix):=by
 obtain⟨ti,qi,ri⟩:=hi.ex;obtain⟨g,qg,rg⟩:=ztn U;obtain⟨tt,qt,rt⟩:=zto Y;obtain⟨te,qe,re⟩:=ztm Z;exact⟨_,zmm J O qi qg qt qe hs,zkx hn ri rg rt re⟩
def zdG{ifs:AO}{scope:Scope}{N:AM}{cix:List (Option Nat)}{O:AC}{mg:W->Ev->(Ev->Prop)->Prop}{U:Ev->Mo Bool}{Y:AD}{nx:Str}{px spos:Pos}(q:X.N.Nodup)(B:X.N[ix]?=some nx)(F:X.env.scope.names.lookup nx=some .local)(hc:X.calm=true)(cc:CompOk X scope N cix)(hi:JI X Pn M Z tg iter O)(hg:∀C s H ex,JG (zV X scope N C s H ex) (zbG M cix) (zbG M cix) tg mg)(ht:∀C s H ex,JTs (zV X scope N C s H ex) Pn (zbG M cix) ifs U)(he:∀C s H ex,JE (zV X scope N C s H ex) Pn (zbG M cix) fr' elt Y)(hn:(cix.filterMap id).Nodup:=by ext)(I:swapsWithSole [.Name nx px] (.ListComp elt [⟨tg,iter,ifs,0⟩] scope pos) spos.line X.env=pure true:=by rfl)(hs:∀x,foldedSetIterable iter X.env x=pure x:=by intro _;rfl)(J:(assignEach [.Name nx px] X.env).map (·.2)=[assign (.Name nx px) X.env]:=by rfl):∃te,QS X (.Assign [.Name nx px] (.ListComp elt [⟨tg,iter,ifs,0⟩] scope pos) spos) (zh6 te (za5 ix))/\RE Pn M true te (zoQ O mg U Y cix):=by
 obtain⟨ti,qi,ri⟩:=hi.ex;obtain⟨g,qg,rg⟩:=ztn hg;obtain⟨tt,qt,rt⟩:=zto ht;obtain⟨te,qe,re⟩:=ztm he;exact⟨_,zpK q B F hc cc qi qg qt qe I hs J,zkx hn ri rg rt re⟩
def At3.step(h:At3 Pn B S M A σ H ρ n)(g:Go Pn A H m H'):At3 Pn B S M A σ H' ρ m where
 env:=h.env.stay g.st
 frm:=⟨h.frm.sub,h.frm.new,λb o e n c=>g.st b o (h.frm.st b o e n c) n,h.frm.al,h.frm.cn,λa z=>let ⟨o,e,n⟩:=h.frm.cs a z;⟨o,g.st a o e n,n⟩⟩
 pn:=g.pn
 prot:=h.prot.trans (yx g.st)
 fix:=h.fix
 mine:=h.mine
abbrev mRet (f:AD):Ms:=λρ n k=>f ρ n k.rt
def zsQ(h:RE Pn M fr te f):RS Pn S M fr (zta te) (mRet f):=⟨λB A σ H ρ n k D a F I=>by
 show h.run A σ H ρ n _ _ a.env a.pn I λw m v H' r J g O=>?_;have U:=a.step g;exact F.rt w m v H' (WAt.up (zu.same (xa a.frm.sub)) (zu.same (xa a.frm.sub)) J) U.frm.st (g.pn.less a.frm.sub) (λz=>by obtain⟨b,e,q,Y⟩:=O z;exact FrV.less ⟨b,e,a.frm.back q (a.env.newF q),Y⟩ a.frm.sub) r⟩
def zM (h:JE X Pn M fr e f):JS X Pn S M fr (.Return (some e) pos) (mRet f):=let ⟨te,q,r⟩:=h.ex;⟨_,uV q,zsQ r⟩
def zoW (i:Nat):Ms:=λρ n k=>∃w,ρ[i]?=some (some w)/\k.rt w n
def zpZ(hi:i∈M):RS Pn S M fr (zta (zaU i)) (zoW i):=⟨by
 rintro B A σ H ρ n k D a kk ⟨w,e,r⟩;obtain⟨v,s1,_,s3⟩:=a.env.val i w e;obtain⟨ad,rfl,hA,J,Z⟩:=s3 hi;have Y:=a.mine i w ad hi e s1
 have hn:¬ B.A0 ad:=λz=>by
  rcases Y with Y | Y;obtain⟨o,o1,o2,_⟩:=a.frm.al ad z;exact Y o o1 o2;exact a.frm.cn ad Y z
 have q:yO (zL A H) (zL B.A0 H):=xa a.frm.sub;have O:yO (zL A H) (zL (λb=>B.A0 b\/b=ad) H):=xa λb z=>z.elim (a.frm.sub b) λz=>z ▸ hA;show⟨.ref ad,s1,kk.rt w n (.ref ad) H ?_ a.frm.st (a.pn.less a.frm.sub) (λz=>⟨ad,rfl,Y.resolve_right (kk.fc ad),WAt.up (zu.refl _) (zu.same O) J⟩) r⟩
 cases w with
 | d x=>
  cases x with
  | lst l=>obtain⟨U,xs,F,I,g2⟩:=J;cases F;exact⟨ad,xs,rfl,zr hn I,g2.stay (zu.same q)⟩
  | dct=>obtain⟨U,xs,F,I,g2⟩:=J;cases F;exact⟨ad,xs,rfl,zr hn I,g2⟩
  | _=>cases Z
 | pen p=>cases Z
 | dk kvs=>obtain⟨U,xs,F,I,g2,g3⟩:=J;cases F;exact⟨ad,xs,rfl,zr hn I,g2.stay (zu.same q),g3⟩
 | dt kvs=>obtain⟨U,xs,F,I,g2⟩:=J;cases F;exact⟨ad,xs,rfl,zr hn I,g2.stay (zu.same q)⟩
 | ss P w kvs=>obtain⟨U,xs,F,I,g2⟩:=J;cases F;exact⟨ad,xs,rfl,zr hn I,g2.stay (zu.same q)⟩
 | kf kvs=>obtain⟨U,ob,xs,F,I,g2⟩:=J;cases F;exact⟨ad,ob,xs,rfl,zr hn I,g2.stay (zu.same q)⟩
 | ad a x=>cases Z
 | tz kvs x=>cases Z
 | fl kvs=>obtain⟨U,ob,xs,F,I,g2⟩:=J;cases F;exact⟨ad,ob,xs,rfl,zr hn I,g2.stay (zu.same q)⟩
 | df kvs=>obtain⟨U,ob,xs,F,I,g2⟩:=J;cases F;exact⟨ad,ob,xs,rfl,zr hn I,g2.stay (zu.same q)⟩⟩
def zjt (i:Nat){x:Str}(hi:i∈M:=by ext)(B:X.N[i]?=some x:=by rfl)(F:Vis X.env.scope x:=by walk_at "v")(I:Ah x:=by ext)
  (q:(x==("__classdict__" : Str))=false:=by ext) {pos':Pos}:JS X Pn S M fr (.Return (some (.Name x pos)) pos') (zoW i):=⟨_,uV (qv i B F I q),zpZ hi⟩
abbrev zqC (f:AD) (mg:W->Ev->(Ev->Prop)->Prop):Ms:=λρ n k=>f ρ n λw m=>mg w ρ λq=>k.nx q m
def EnvR.mineG(a:At3 Pn B S M A σ H ρ n)(E:EnvR A M q H F)(f:∀i∈S++M,q[i]?=σ[i]?/\F[i]?=ρ[i]?):At3 Pn B S M A q H F n where
 env:=E
 frm:=a.frm
 pn:=a.pn
 prot:=a.prot
 fix:=⟨λi hi=>(f i (au.mpr (.inl hi))).1.trans (a.fix.1 i hi),a.fix.2⟩
 mine:=λi w I hi e s=>by obtain⟨J,O⟩:=f i (au.mpr (.inr hi));rw[J] at s;rw[O] at e;exact a.mine i w I hi e s
def znD(h:RE Pn M fr' te f)(J:RG (S++M) M g mg):RS Pn S M fr (zh6 te g) (zqC f mg):=⟨λB A σ H ρ n k D a O U=>by show h.run A σ H ρ n _ _ a.env a.pn U λw m v H' r Y g' _=>?_;have I:=a.step g';exact J.run A σ H' ρ v w _ _ I.env Y r λq F Z E2 f2=>O.nx A q H' F m (EnvR.mineG I E2 f2) Z⟩
def zz {i:Nat}{x:Str}{pos':Pos}(I:X.N.Nodup)(J:JE X Pn M fr' e f)(hi:X.N[i]?=some x:=by rfl)(O:Loc X.env.scope x:=by first | exact Or.inl rfl | exact Or.inr rfl)(B:i∉M:=by ext)(F:i∉S++M:=by ext)(hs:swapsWith e (some (.Name x pos')) pos.line X.env=pure false:=by rfl)(U:X.fn x=true\/X.env.scope.names.lookup x=some .local:=by walk_at "l") :
  JS X Pn S M fr (.Assign [.Name x pos'] e pos) (zqC f (gN i)):=let ⟨te,q,r⟩:=J.ex;⟨_,ux I hi O q hs U,znD r (zcr B F)⟩
def zoF{st:Stmt}(h:∃te,QS X st (zh6 te (za5 i))/\RE Pn M true te f)(B:i∉M:=by ext)(F:i∉S++M:=by ext):JS X Pn S M fr st (zqC f (gN i)):=let ⟨te,q,r⟩:=h;⟨_,q,znD r (zcr B F)⟩
def zrD (i:Nat)(f:AD):Ms:=λρ n k=>f ρ n λw m=>w.mut=true/\k.nx (ρ.set i (some w)) m
def zoZ(h:WAt T G w v)(hm:w.mut=true):∃a o,v = .ref a/\T a=some o/\NP o/\Mt o:=by
 cases w with
 | d x=>
  cases x with
  | lst l=>obtain⟨a,xs,e,g1,_⟩:=h;exact⟨a,_,e,g1,NP.lst,rfl⟩
  | dct=>obtain⟨a,xs,e,g1,g2⟩:=h;exact⟨a,_,e,g1,λk z=>by cases z;exact g2,rfl⟩
  | _=>cases hm
 | pen p=>cases hm
 | dk kvs=>obtain⟨a,xs,e,g1,_,g3⟩:=h;exact⟨a,_,e,g1,λk z=>by cases z;exact g3,rfl⟩
 | dt kvs=>obtain⟨a,xs,e,g1,_⟩:=h;exact⟨a,_,e,g1,(λk z=>by cases z),rfl⟩
 | ss P w kvs=>obtain⟨a,xs,e,g1,_⟩:=h;exact⟨a,_,e,g1,zg7,rfl⟩
 | df kvs=>cases hm
 | kf kvs=>cases hm
 | ad a x=>cases hm
 | tz kvs x=>cases hm
 | fl kvs=>cases hm
def znE(h:RE Pn M true te f)(hi:i∈M)(hs:i∉S):RS Pn S M fr (zh6 te (za5 i)) (zrD i f):=⟨λB A σ H ρ n k D a kk hf=>by
 show h.run A σ H ρ n _ _ a.env a.pn hf  ?_;rintro w m v H' ⟨hm,r⟩ hv g' ab;obtain⟨Z,rfl,U,hb⟩:=ab rfl;obtain⟨a2,o,Y,ho,np,nt⟩:=zoZ hb hm;cases Y;have E1:=a.env.more g'.st U ho np nt;have aa:¬ A Z:=a.env.newF U;show kk.nx (λb=>A b\/b=Z) _ H' _ m ⟨⟨?_,?_,?_,E1.al⟩,⟨λb z=>.inl (a.frm.sub b z),λb z=>?_,λb o e n c=>g'.st b o (a.frm.st b o e n c) n,a.frm.al,a.frm.cn,λb z=>let ⟨o,e,n⟩:=a.frm.cs b z;⟨o,g'.st b o e n,n⟩⟩,a.pn.grow' g'.pn U ho np nt,a.prot.trans (xT g'.st U),⟨λj I=>?_,a.fix.2⟩,λj u b I e s=>?_⟩ r;rw[bN,bN];exact a.env.len;intro j u e;by_cases I:j=i;subst I
 have J:j<ρ.length:=by
  have:=(aj.mp e).1;right
 rw[aU J] at e;cases e;exact⟨.ref Z,aU (by rw[a.env.len];exact J),λz=>absurd hi z,λ_=>⟨Z,rfl,.inr rfl,hb,hm⟩⟩;rw[av (Ne.symm I)] at e ⊢;exact E1.val j u e;intro j l u u' b I J O e1 Y s1 s2
 have ac:∀q u,q∈M->q≠i->ρ[q]?=some (some u)->σ[q]?≠some (some (.ref Z)):=λq u hq ap eq sq=>by
  obtain⟨v,s,_,s3⟩:=a.env.val q u eq;obtain⟨c,ec,hc,_⟩:=s3 hq;right
 have ag:∀q (u:W),(ρ.set i (some w))[q]?=some (some u)->q<σ.length:=λq u e=>by have:=(aj.mp e).1;rw[bN] at this;rw[a.env.len];exact this
 by_cases F:j=i;subst F;rw[aU (ag _ _ e1)] at s1;cases s1;rw[av O] at Y s2;exact ac l u' J (Ne.symm O) Y s2;rw[av (Ne.symm F)] at e1 s1;by_cases an:l=i;right;rw[av (Ne.symm an)] at Y s2;exact a.env.dis j l u u' b I J O e1 Y s1 s2;rcases z with z | z;exact a.frm.new b z;subst z;exact .inr (.inl (a.frm.back U aa));rw[av λ(z:i=j)=>hs (by rw[z];exact I)];exact a.fix.1 j I;by_cases F:j=i;subst F
 have J:j<σ.length:=by
  have:=(aj.mp s).1;right
 rw[aU J] at s;cases s;exact .inl (a.frm.back U aa);rw[av (Ne.symm F)] at e s;exact a.mine j u b I e s⟩
def xt {i:Nat}{x:Str}{pos':Pos}(I:X.N.Nodup)(J:JE X Pn M true e f)(hi:X.N[i]?=some x:=by rfl)(O:Loc X.env.scope x:=by first | exact Or.inl rfl | exact Or.inr rfl)(B:i∈M:=by ext)(F:i∉S:=by ext)(hs:swapsWith e (some (.Name x pos')) pos.line X.env=pure false:=by rfl)(U:X.fn x=true\/X.env.scope.names.lookup x=some .local:=by walk_at "l") :
  JS X Pn S M fr (.Assign [.Name x pos'] e pos) (zrD i f):=let ⟨te,q,r⟩:=J.ex;⟨_,ux I hi O q hs U,znE r B F⟩
def zjs{st:Stmt}(h:∃te,QS X st (zh6 te (za5 i))/\RE Pn M true te f)(B:i∈M:=by ext)(F:i∉S:=by ext):JS X Pn S M fr st (zrD i f):=let ⟨te,q,r⟩:=h;⟨_,q,znE r B F⟩
variable {st:Stmt}{sts:List Stmt}{fs gs:Ms}
abbrev mNx:Ms:=λρ n k=>k.nx ρ n
structure blk (g:Ms)(ρ:Ev)(n:Nat)(k:Kt):Prop where
 go:g ρ n k
def zqP(h:g ρ n k):blk g ρ n k:=⟨h⟩
def zqO:blk g ρ n k=g ρ n k:=propext ⟨λh=>h.go,λh=>⟨h⟩⟩
abbrev mSeq (f g:Ms):Ms:=λρ n k=>f ρ n { k with nx:=λq B=>blk g q B k }
def zuQ (t:Ev->Mo Bool)(f g:Ms):Ms:=λρ n k=>t ρ n λc m=>if c=true then blk f ρ m k else blk g ρ m k
def zA:JSs X Pn S M fr [] mNx:=⟨_,zcp,⟨λB A σ H ρ n k D a q F=>q.nx A σ H ρ n a F⟩⟩
def zsR(h1:RS Pn S M fr t fs)(h2:RS Pn S M fr u gs):RS Pn S M fr (zqj t u) (mSeq fs gs):=⟨λB A σ H ρ n k D a F O=>
 h1.run B A σ H ρ n { k with nx:=λq I=>blk gs q I k } _ a ⟨λA' J H' q I U r=>h2.run B A' J H' q I k D U F r.go,F.bk,F.ct,F.fc,F.rt⟩ O⟩
def zb (h1:JS X Pn S M fr st fs)(h2:JSs X Pn S M fr sts gs):JSs X Pn S M fr (st::sts) (mSeq fs gs):=let ⟨t,q,r⟩:=h1.ex;let ⟨u,q2,r2⟩:=h2.ex;⟨_,z8 q q2,zsR r r2⟩
def zh (h1:JS X Pn S M fr st fs):JSs X Pn S M fr [st] fs:=let ⟨t,q,r⟩:=h1.ex;⟨_,xk q,r⟩
def yE(F:JT X Pn M c t)(I:JSs X Pn S M fr body fs)(J:JSs X Pn S M fr other gs):JS X Pn S M fr (.If c body other pos) (zuQ t fs gs):=by
 obtain⟨tc,O,U⟩:=F.ex;obtain⟨ta,Y,ra⟩:=I.ex;obtain⟨tb,Z,rb⟩:=J.ex;show⟨_,zkr O Y Z,⟨λB A σ H ρ n k D a q hf=>?_⟩⟩;show U.run A σ H ρ n _ _ a.env a.pn hf λc m H1 r g=>?_
 cases c with
 | true=>rw[if_pos rfl] at r ⊢;exact ra.run B A σ H1 ρ m k D (a.step g) q r.go
 | false=>rw[if_neg (by ext)] at r ⊢;exact rb.run B A σ H1 ρ m k D (a.step g) q r.go
abbrev mDrop (f:AD):Ms:=λρ n k=>f ρ n λ_ m=>k.nx ρ m
def zfY:JS X Pn S M fr (.Continue pos) (λρ n k=>k.ct ρ n):=⟨_,zgg,⟨λB A σ H ρ n k D a q F=>q.ct A σ H ρ n a F⟩⟩
def At3.wr(h:At3 Pn B S M A σ H ρ n)(hi:i∈M)(e:ρ[i]?=some (some w))(s:σ[i]?=some (some (.ref ad)))(hl:IsL (zL A H) l xs):At3 Pn B S M A σ (L2.upd H ad (.lst xs)) (ρ.set i (some (.d (.lst l)))) n:=by
 obtain⟨v,s1,_,s3⟩:=h.env.val i w e;rw[s] at s1;cases s1;obtain⟨Y,F,hA,_,_⟩:=s3 hi;cases F;have aa:i<ρ.length:=(aj.mp e).1
 have hE:EnvR A M σ (L2.upd H ad (.lst xs)) (ρ.set i (some (.d (.lst l)))):=by
  show⟨by rw[bN];exact h.env.len,λj u Z=>?_,λj q u u' b hj hq I e1 F=>?_,λb hb=>?_⟩;by_cases hj:j=i;subst hj;rw[aU aa] at Z;cases Z;exact⟨.ref ad,s,λz=>absurd hi z,λ_=>⟨ad,rfl,hA,⟨ad,xs,rfl,zg,by rw[yg hA];exact hl⟩,rfl⟩⟩;rw[av (Ne.symm hj)] at Z;obtain⟨v,t1,t2,t3⟩:=h.env.val j u Z;show⟨v,t1,λz=>?_,λz=>?_⟩;change WAt _ _ _ _;rw[yg hA];exact t2 z;obtain⟨b,rfl,hb,J,hm⟩:=t3 z;have I:b≠ad:=λq=>h.env.dis i j w u ad hi z (Ne.symm hj) e Z s (by rw[t1,q]);show⟨b,rfl,hb,?_,hm⟩;change WAt _ _ _ _;rw[yg hA]
  cases u with
  | d x=>
   cases x with
   | lst l=>obtain⟨Y,xs,F,O,g2⟩:=J;cases F;exact⟨b,xs,rfl,by rw[ze I];exact O,g2⟩
   | dct=>obtain⟨Y,xs,F,O,g2⟩:=J;cases F;exact⟨b,xs,rfl,by rw[ze I];exact O,g2⟩
   | _=>cases hm
  | pen p=>cases hm
  | dk k=>obtain⟨Y,xs,F,O,g2⟩:=J;cases F;exact⟨b,xs,rfl,by rw[ze I];exact O,g2⟩
  | dt k=>obtain⟨Y,xs,F,O,g2⟩:=J;cases F;exact⟨b,xs,rfl,by rw[ze I];exact O,g2⟩
  | ss P w k=>obtain⟨Y,xs,F,O,g2⟩:=J;cases F;exact⟨b,xs,rfl,by rw[ze I];exact O,g2⟩
  | df k=>obtain⟨Y,ob,xs,F,O,g2⟩:=J;cases F;exact⟨b,ob,xs,rfl,by right,g2⟩
  | kf k=>obtain⟨Y,ob,xs,F,O,g2⟩:=J;cases F;exact⟨b,ob,xs,rfl,by right,g2⟩
  | ad a x=>cases hm
  | tz kvs x=>cases hm
  | fl k=>obtain⟨Y,ob,xs,F,O,g2⟩:=J;cases F;exact⟨b,ob,xs,rfl,by right,g2⟩
  have ab:∀q (u:W),(ρ.set i (some (.d (.lst l))))[q]?=some (some u)->∃u',ρ[q]?=some (some u'):=λq u z=>by
   by_cases hq:q=i;subst hq;exact⟨w,e⟩;rw[av (Ne.symm hq)] at z;exact⟨u,z⟩
  obtain⟨v1,f1⟩:=ab j u e1;obtain⟨v2,f2⟩:=ab q u' F;exact h.env.dis j q v1 v2 b hj hq I f1 f2;by_cases U:b=ad;subst U;exact⟨_,zg,NP.lst,rfl⟩;rw[ze U];exact h.env.al b hb
 show⟨hE,⟨h.frm.sub,h.frm.new,λb o eb nn nc=>?_,h.frm.al,h.frm.cn,λb z=>(by
  by_cases U:b=ad;subst U;exact⟨_,zg,NP.lst⟩;rw[ze U];exact h.frm.cs b z)⟩,h.pn.upd hA,by rw[yg hA];exact h.prot,h.fix,λj u b hj Z sj=>?_⟩
 have I:b≠ad:=λq=>by
  subst q;rcases h.mine i w b hi e s with z | z;exact z o eb nn;exact nc z
 rw[ze I];exact h.frm.st b o eb nn nc;by_cases ac:j=i;subst ac;exact h.mine j w b hj e sj;rw[av (Ne.symm ac)] at Z;exact h.mine j u b hj Z sj
def ztI (i:Nat)(f:AD):Ms:=λρ n k=>(∃l,ρ[i]?=some (some (.d (.lst l))))/\f ρ n λw m=>∃l d,ρ[i]?=some (some (.d (.lst l)))/\w = .d d/\l.length<lim/\k.nx (ρ.set i (some (.d (.lst (l++[d]))))) m
def zsO(h:RE Pn M fr' te f)(hi:i∈M):RS Pn S M fr (zmM (tBM K "list" zgi (zaU i) (zbD te zqh))) (ztI i f):=⟨by
 rintro B A σ H ρ n k D a Y ⟨⟨l0,Z⟩,hf⟩;obtain⟨v,q,_,s3⟩:=a.env.val i _ Z;obtain⟨I,rfl,hA,hb,_⟩:=s3 hi;obtain⟨a2,aa,e2,g0,_⟩:=hb;cases e2;show⟨.ref I,q,.inl ⟨rfl,_,SqL.of g0⟩,?_⟩;show h.run A σ H ρ n _ _ a.env a.pn hf  ?_;rintro w m v H' ⟨l,d,e,ed,hz,r⟩ hv g _;subst ed;have J:=a.step g;obtain⟨v2,O,_,t3⟩:=J.env.val i _ e;rw[q] at O;cases O;obtain⟨a3,e3,ab,F,_⟩:=t3 hi;cases e3;obtain⟨a4,xs,e4,g4,U⟩:=F;cases e4;exact⟨I,xs,v,rfl,rfl,g4,zg2 (by rw[U.length];exact cH hz),Y.nx A σ _ _ m (J.wr hi e q (U.append (IsL.one hv.is))) r⟩⟩
def zgZ (i:Nat){x:Str}{Z J sp O:Pos}(he:JE X Pn M fr' e f)(hi:i∈M:=by ext)(hN:X.N[i]?=some x:=by rfl)(hv:Vis X.env.scope x:=by walk_at "v")(hd:Ah x:=by ext)
  (aa:(x==("__classdict__" : Str))=false:=by ext) (U:starEach (e::[]) X.env=(false,eval e X.env)::starEach [] X.env:=by rfl) (hs:swapsWith (.Call (.Attribute (.Name x O) "append" Z) [e] [] J) none sp.line X.env=pure false:=by rfl) (F:attributeBase (.Name x O) "append" X.env (eval (.Name x O) X.env)=eval (.Name x O) X.env:=by rfl) (I:(Z.endLine==J.line)=true:=by rfl)
  (Y:((backTo J (starEach [e] X.env)).all (λx=>!x.1)&&(backToKw J (keywordEach [] X.env)).all (λx=>x.1.isSome)&&decide (([e]:AO).length+([]:List Keyword).length+(if ([]:List Keyword).isEmpty then 0 else 1)<30))=true:=by rfl) (B:(backTo J (starEach [] X.env)).any (·.1)=false:=by rfl) :
  JS X Pn S M fr (.Expr (.Call (.Attribute (.Name x O) "append" Z) [e] [] J) sp) (ztI i f):=by
 obtain⟨te,q,r⟩:=he.ex;exact⟨_,zd8 (zsw (qv i hN hv hd aa) (zE q yC U) F Y I U B) hs,zsO r hi⟩
def zog (mg:W->Ev->(Ev->Prop)->Prop)(fb:Ms)(ρ:Ev)(k:Kt):AU->Nat->Prop:=λl J=>∃I:Nat->Ev->Nat->Prop,I 0 ρ J/\
 (∀i w q B,l[i]?=some w->I i q B->mg w q λF=>fb F B { k with nx:=I (i+1),ct:=I (i+1),bk:=k.nx })/\∀ q B,I l.length q B->k.nx q B
abbrev ztJ (q:AC) (mg:W->Ev->(Ev->Prop)->Prop) (fb:Ms):Ms:=λρ n k=>q ρ n (zog mg fb ρ k)
def zgQ{B:Bs}{A:AL}{σ:St}{H1:Hp}{ρ:Ev}{k:Kt}{D:Ends}{J:It}{l:AU}{g:TG}{tb:TS}{mg:W->Ev->(Ev->Prop)->Prop}{fb:Ms}(hg:RG (S++M) M g mg)(hb:RS Pn S M fr tb fb)(hS:9999∉S)(a1:At3 Pn B S M A σ H1 ρ m)(kk:KOk Pn B S M fr k D)(iv:ItV false A H1 J l)(hf:zog mg fb ρ k l m) :
  ∃W:Nat->Nat->St->Hp->Prop,(∃m,W 0 m σ H1)/\∀i m σ H,W i m σ H->(J.stop i H/\D.nx σ H)\/(J.go i H/\∃N:St->Hp->Prop,(∀ O H',N O H'->∃m',m'<m/\W (i+1) m' O H')/\∀x H',J.yld i H x H'->g x σ H' λZ H2=>tb { D with nx:=N,ct:=N,bk:=D.nx } Z H2):=by
 obtain⟨I,i0,it,ie⟩:=hf;have out:∀ {A':AL} {O:St} {H':Hp} {F:Ev} {U:Nat},At3 Pn { B with G0:=zL A H1 } S M A' O H' F U->At3 Pn B S M A' O H' F U:=λ{A' O H' F U} q=>⟨q.env,q.frm,q.pn,a1.prot.trans q.prot,⟨q.fix.1,a1.fix.2⟩,q.mine⟩;show⟨λi mm O H'=>mm=l.length - i/\i<=l.length/\∃A' F U,At3 Pn { B with G0:=zL A H1 } S M A' O H' F U/\I i F U,⟨l.length,by simp,aM _,A,ρ,m,⟨a1.env,a1.frm,a1.pn,zu.refl _,⟨a1.fix.1,λz=>absurd z hS⟩,a1.mine⟩,i0⟩,?_⟩;rintro i mm O H' ⟨rfl,an,A',F,U,a',hI⟩;by_cases ac:i<l.length
 show Or.inr ?_;have aa:l[i]?=some l[i]:=ax ac;obtain⟨go,yl⟩:=iv.one i l[i] A' H' aa a'.prot (λz=>by cases z) λp hp=>a'.env.new hp;show⟨go,λZ H2=>∃A' F U,At3 Pn { B with G0:=zL A H1 } S M A' Z H2 F U/\I (i+1) F U,λZ H2 h=>⟨l.length - (i+1),by lia,rfl,ac,h⟩,λx H2 hy=>?_⟩;obtain⟨S2,V2⟩:=yl x H2 hy;have a2:=a'.step (Go.same a'.pn S2);show hg.run A' O H2 F x l[i] _ _ a2.env V2 (it i l[i] F U aa hI) λad ag r3 E3 f3=>?_;show hb.run { B with G0:=zL A H1 } A' ad H2 ag U _ _ (EnvR.mineG a2 E3 f3) ⟨?_,?_,?_,kk.fc,?_⟩ r3
 exact λA4 ab H4 Y n4 a4 r4=>⟨A4,Y,n4,a4,r4⟩;exact λA4 ab H4 Y n4 a4 r4=>kk.nx A4 ab H4 Y n4 (out a4) r4;exact λA4 ab H4 Y n4 a4 r4=>⟨A4,Y,n4,a4,r4⟩;exact kk.rt;show Or.inl ?_;have al:i=l.length:=by lia
 subst al;exact⟨iv.stop A' H' a'.prot (λz=>by cases z),kk.nx A' O H' F U (out a') (ie F U hI)⟩
def zsP {wi:TI}{g:TG}{tb:TS}{q:AC}{mg:W->Ev->(Ev->Prop)->Prop}{fb:Ms}(hi:RI Pn M false wi q)(F:RG (S++M) M g mg)(I:RS Pn S M fr tb fb)(O:9999∉S):RS Pn S M fr (ztV wi g tb) (ztJ q mg fb):=⟨λB A σ H ρ n k D a U Y=>hi.run A σ H ρ n _ _ a.env a.pn Y λl m J H1 Z iv g1=>zgQ F I O (a.step g1) U iv Z⟩
def xV {tg iter:Expr}{body:List Stmt}{q:AC}{mg:W->Ev->(Ev->Prop)->Prop}{fb:Ms}(B:PassesOwn (model X.prog X.w) X.A X.env X.xe)(F:X.calm=true)(hi:JI X Pn M false tg iter q)(I:JG X (S++M) M tg mg)(J:JSs X Pn S M fr body fb)(hs:∀x,foldedSetIterable iter X.env x=pure x:=by intro _;rfl)(O:9999∉S:=by ext) :
  JS X Pn S M fr (.For tg iter body [] pos) (ztJ q mg fb):=by
 obtain⟨ti,U,Y⟩:=hi.ex;obtain⟨Z,qg,rg⟩:=I.ex;obtain⟨tb,qb,rb⟩:=J.ex;exact⟨_,zhm B F U qg qb hs,zsP Y rg rb O⟩
def zaS (N:AM)(q:AU):Ev:=q.map some++List.replicate (N.length - q.length) none
def za0.get:∀ {q:AU} {vs:AT} {i:Nat} {w:W},za0 A H q vs->q[i]?=some w->∃v,vs[i]?=some v/\Val A H w v
 | [],_,_,_,_,e=>by simp at e
 | x::q,vs,0,w,⟨v,r,B,h1,_⟩,e=>by right
 | x::q,vs,i+1,w,⟨v,r,B,_,h2⟩,e=>by
  subst B;obtain⟨u,F,I⟩:=za0.get (i:=i) h2 (by simpa using e);right
def ziS {A:AL}{H:Hp}{N:AM}{ws:AU}{vs:AT}(al:Al A H)(h:za0 A H ws vs)(hM:∀i∈M,ws.length<=i):EnvR A M (L2.xn N vs) H (zaS N ws) where
 len:=by unfold L2.xn zaS;rw[ao,ao,af,af,List.length_replicate,List.length_replicate,h.len]
 val:=λi w e=>by
  unfold zaS at e
  have hi:i<ws.length:=by
   apply bX;intro z;rw[bp (by right)] at e;obtain⟨_,q⟩:=aj.mp e;right
  rw[bD (by right),aN] at e;obtain⟨w',e1,e2⟩:=aL.mp e;cases e2;obtain⟨v,h1,h2⟩:=h.get e1;show⟨v,?_,λ_=>h2,λz=>absurd (hM i z) (by lia)⟩;unfold L2.xn;have hi':i<vs.length:=by rw[h.len];exact hi
  rw[bD (by right),aN,h1];rfl
 dis:=λi j w u ad hi hj hne e1=>by
  unfold zaS at e1;have:=hM i hi;rw[bp (by right)] at e1;obtain⟨_,q⟩:=aj.mp e1;right
 al:=al
def zrN{P:Aa}{w:Ab}{K:AH}{mg:AI}{base:Heap}{J:Str}{f:Addr}{fd:Ac}{N ps:AM}{F:PN->AU->Mo W}(M:AR)(aa:(∀vs H Q E,spV m fr F vs H Q E->vs.length=ps.length)->(∀ (I:Value) (A:Ae) (B:List Env) (s:AZ) (H:Hp) (vs:AT) (Q:VK) (E:XK),Room k (A.deeper (PyProof.Rows.envOfC J (zc st) s.heap.objs.size f I))->spV m fr F vs H Q E->
   ∃t,QSs (zes CX0 P w K mg base N J (zc st) f I A B s H E).nox (zw st) t/\t { nx:=λ_ H'=>Q .non H',rt:=Q } (L2.xn N vs) H)->FnOk P w K mg base CX0 (k+1) f fd ps (spV m fr F))(hm:m=ps.length)(hM:∀i∈M,m<=i)(O:∀ (I:Value) (A:Ae) (B:List Env) (s:AZ) (H:Hp) (E:XK) (Pn:PN),Room k (A.deeper (PyProof.Rows.envOfC J (zc st) s.heap.objs.size f I))->
   ∃fs,JSs (zes CX0 P w K mg base N J (zc st) f I A B s H E).nox Pn [] M fr (zw st) fs/\∀U n R,U.length=m->F Pn U n R->fs (zaS N U) n { nx:=λ_ Z=>fr=false/\R (.d .non) Z,rt:=R }):FnOk P w K mg base CX0 (k+1) f fd ps (spV m fr F):=by
 show aa (λvs H Q E h=>?_) (λI A B s H vs Q E hr h=>?_);obtain⟨Pn,A,U,n,R,_,hv,hl,_⟩:=h;rw[hv.len,hl,hm];obtain⟨Pn,A3,U,n,R,al,hv,hl,hp,hF,q⟩:=h;obtain⟨fs,⟨t,qs,rs⟩,ab⟩:=O I A B s H E Pn hr;show⟨t,qs,rs.run { A0:=A3,H0:=H,G0:=zL A3 H,σ0:=L2.xn N vs } A3 (L2.xn N vs) H (zaS N U) n _ _ ⟨ziS al hv (λi hi=>by right),⟨λ_ z=>z,λ_ z=>.inl z,.of (zu.refl _),al,λ_ z=>z.elim,λ_ z=>z.elim⟩,hp,zu.refl _,⟨λi hi=>rfl,λz=>by cases z⟩,λi w a hi e=>?_⟩ ⟨?_,?_,?_,λ_ z=>z,?_⟩ (ab U n R hl hF)⟩;exact absurd e (by unfold zaS;have:=hM i hi;rw[bp (by right)];intro z;obtain⟨_,q⟩:=aj.mp z;rw[List.getElem_replicate] at q;cases q);intro A' ad H' ag Z a' ⟨Y,r⟩;exact q _ Z .non H' r (Val.of (show Is _ .non .non from rfl)) ⟨a'.frm.st.stay,a'.pn.less a'.frm.sub⟩ λz=>by rw[Y] at z;cases z
 right;right;intro w Z v H' ac st pn Y r;exact q w Z v H' r ac ⟨st.stay,pn⟩ Y
end
section
variable {X:Cx}{Pn:PN}{M S:AR}{fr fr':Bool}{e a b c:Expr}{es:AO}{f fa fb fc:AD}{pos p p2:Pos}
def zqD (B:Dt->Bool)(f:AD):AD:=λρ n Q=>f ρ n λw m=>∃d,w = .d d/\Q (.d (.bl (B d))) m
def zky(q:∀d:Dt,PySem.W.kitOne K (.type d.ty) (.type T)=some (B d))(h:RB Pn M te f):RE Pn M false (tCB (λxs H Q=>∃x T t b,xs=[x,.ty T]/\TyOf K H x t/\PySem.W.kitOne K t (.type T)=some b/\Q (.bl b) H) (zbD te (zbD (tC (.ty T)) zqh))) (zqD B f):=⟨λA σ H ρ n Q R E P F k=>by show h.run A σ H ρ n _ _ E P F  ?_;rintro w m v H' ⟨d,e,r⟩ I g;subst e;exact⟨v,T,_,_,rfl,I.is.ty,q d,k _ m _ H' r (Val.of rfl) g λz=>by cases z⟩⟩
abbrev isStr:Dt->Bool
 | .str _=>true
 | _=>false
abbrev isDct:Dt->Bool
 | .dct=>true
 | _=>false
def zrq(Y:∀d:Dt,PySem.W.kitOne X.K (.type d.ty) (.type T)=some (B d))(Z:bootBuiltins x=some (.type T))(I:Gl X x)(hn:x ≠ "__name__")(hd:(x==("__debug__" : Str))=false)(hg:Gl X "isinstance")(hm:X.mg "isinstance" = none)(J:X.mg x=none)(h:JB X Pn M e f)(F:starEach (e::[.Name x p2]) X.env=(false,eval e X.env)::starEach [.Name x p2] X.env)(O:starEach (.Name x p2::[]) X.env=(false,eval (.Name x p2) X.env)::starEach [] X.env)(U:(backTo pos (starEach [.Name x p2] X.env)).any (·.1)=false):JE X Pn M false (.Call (.Name "isinstance" p) [e,.Name x p2] [] pos) (zqD B f):=by
 obtain⟨te,q,r⟩:=h.ex;exact⟨_,yZ ziA hg hm PyProof.Rows.boot_isinstance (zE q (zE (zpz (v:=.ty T) I J Z rfl hn hd) yC O) F) (by ext) (by ext) F U,zky Y r⟩
def zag (O:Gl X "isinstance")(U:X.mg "isinstance" = none)(q:X.mg "tuple" = none)(h:JB X Pn M e f)(B:Gl X "tuple" := by rfl)(F:starEach (e::[.Name "tuple" p2]) X.env=(false,eval e X.env)::starEach [.Name "tuple" p2] X.env:=by rfl)(I:starEach (.Name "tuple" p2::[]) X.env=(false,eval (.Name "tuple" p2) X.env)::starEach [] X.env:=by rfl)(J:(backTo pos (starEach [.Name "tuple" p2] X.env)).any (·.1)=false:=by rfl) :
  JE X Pn M false (.Call (.Name "isinstance" p) [e,.Name "tuple" p2] [] pos) (zqD Dt.isTup f):=zrq (zoM _) bv B (by ext) (by ext) O U q h F I J
def zdF (O:Gl X "isinstance")(U:X.mg "isinstance" = none)(q:X.mg "list" = none)(h:JB X Pn M e f)(B:Gl X "list" := by rfl)(F:starEach (e::[.Name "list" p2]) X.env=(false,eval e X.env)::starEach [.Name "list" p2] X.env:=by rfl)(I:starEach (.Name "list" p2::[]) X.env=(false,eval (.Name "list" p2) X.env)::starEach [] X.env:=by rfl)(J:(backTo pos (starEach [.Name "list" p2] X.env)).any (·.1)=false:=by rfl) :
  JE X Pn M false (.Call (.Name "isinstance" p) [e,.Name "list" p2] [] pos) (zqD Dt.isLst f):=zrq (zoL _) cN B (by ext) (by ext) O U q h F I J
def zmy (n:Nat):AS:=(List.range n).map λi:Nat=>Dt.int i
def zjg(n:Nat):IsL G (zmy n) ((List.range n).map λi:Nat=>V.int i):=by
 have q:zmy n=(((List.range n).map λi:Nat=>(i:Int))).map Dt.int:=by unfold zmy;rw[aF];rfl
 have B:((List.range n).map λi:Nat=>V.int i)=(((List.range n).map λi:Nat=>(i:Int))).map V.int:=by rw[aF];rfl
 rw[q,B];exact IsL.ints
def zdM (fa:AC):AD:=λρ n Q=>fa ρ n λq m=>∃j:Nat,q=[.d (.int (j:Int))]/\j<=1000/\Q (.d (.lst (zmy j))) m
def zeS{q:Pos}{J:Pos}(hm:X.mg "list" = none)(O:X.mg "range" = none)(ha:JAB X Pn M [a] fs)(hc:X.calm=true:=by rfl)(hg:Gl X "list" := by rfl)(U:Gl X "range" := by rfl)(hs:starEach (a::[]) X.env=(false,eval a X.env)::starEach [] X.env:=by rfl)(F:starEach (.Call (.Name "range" J) [a] [] q::[]) X.env=(false,eval (.Call (.Name "range" J) [a] [] q) X.env)::starEach [] X.env:=by rfl)(Y:(backTo q (starEach [] X.env)).any (·.1)=false:=by rfl)(Z:(backTo pos (starEach [] X.env)).any (·.1)=false:=by rfl):JE X Pn M true (.Call (.Name "list" p) [.Call (.Name "range" J) [a] [] q] [] pos) (zdM fs):=by
 obtain⟨ta,qa,ra⟩:=ha.ex;show⟨_,zcn (zfE hc) hg hm cN (zE (zcn zll U O PyProof.Rows.boot_range qa (by ext) (by ext) hs Y) yC F) (by ext) (by ext) F Z,⟨λA σ H ρ n Q R E P hf k=>?_⟩⟩;show ra.run A σ H ρ n _ _ E P hf  ?_;rintro ws m vs H1 ⟨j,e,hj,r⟩ bb g;subst e;obtain⟨v,rfl,b1⟩:=za3 bb;obtain rfl:=yG b1;show⟨_,rfl,λp1 H2 np g2 S2=>⟨p1,j,rfl,g2,hj,λp3 H3 I g3 S3=>?_⟩⟩;have B:=g.trans (Go.same g.pn S2);exact k _ m _ H3 r (uu (H:=H2) (zjg j) (zu.same S3) ((E.stay B.st).new I) g3) (B.trans (Go.same B.pn S3)) λ_=>(uh (H:=H2) (zjg j) S3 I g3).back B.st
abbrev truD:W->Option Bool
 | .d (.lst l)=>some (!l.isEmpty)
 | .d (.tup l)=>some (!l.isEmpty)
 | .d (.bl b)=>some b
 | .d (.int i)=>some (i != 0)
 | .d .non=>some false
 | _=>none
def At3.own(h:At3 Pn B S M A σ H ρ n)(hi:i∈M)(e:ρ[i]?=some (some (.d (.lst l)))):∃q xs,σ[i]?=some (some (.ref q))/\A q/\H q=some (.lst xs)/\IsL (zL A H) l xs:=by
 obtain⟨v,J,_,F⟩:=h.env.val i _ e;obtain⟨q,rfl,O,I,_⟩:=F hi;obtain⟨U,xs,Y,Z,hl⟩:=I;right
def zjh(q:Is G d v):∀ {ds:AS} {xs:AT} (k:Nat),IsL G ds xs->IsL G (ds.set k d) (xs.set k v)
 | [],_,_,h=>by cases h;rfl
 | x::ds,xs,0,⟨y,r,e,h1,h2⟩=>by subst e;exact⟨v,r,rfl,q,h2⟩
 | x::ds,xs,k+1,⟨y,r,e,h1,h2⟩=>by subst e;exact⟨y,_,rfl,h1,zjh q k h2⟩
def zuW (i:Nat)(fk f:AD):Ms:=λρ n k=>(∃l,ρ[i]?=some (some (.d (.lst l))))/\f ρ n λw m=>fk ρ m λy q=>∃l d j,ρ[i]?=some (some (.d (.lst l)))/\w = .d d/\y = .d (.int j)/\0<=j/\j<l.length/\k.nx (ρ.set i (some (.d (.lst (l.set j.toNat d))))) q
def znj (i:Nat){x:Str}{np sp:Pos}(hk:JB X Pn M c fc)(he:JE X Pn M fr' e f)(hi:i∈M:=by ext)(hN:X.N[i]?=some x:=by rfl)(hv:Vis X.env.scope x:=by walk_at "v")(hd:Ah x:=by ext)
  (hcd:(x==("__classdict__" : Str))=false:=by ext) (hs:swapsWithSole [.Subscript (.Name x np) c p] e sp.line X.env=pure false:=by rfl) (hw:swappedStores [.Subscript (.Name x np) c p] e X.env=pure none:=by rfl)
  (h1:(assignEach [.Subscript (.Name x np) c p] X.env).map (·.2)=[assign (.Subscript (.Name x np) c p) X.env]:=by rfl) (ha:∀v,assign (.Subscript (.Name x np) c p) X.env v=(do
   let ov <- holding [v] (eval (.Name x np) X.env)
   let iv <- holding [v,ov] (eval c X.env)
   standAt p
   holding [v,ov,iv] (setItem ov iv v)
   release [v,ov,iv] []):=by intro _;rfl) :
  JS X Pn S M fr (.Assign [.Subscript (.Name x np) c p] e sp) (zuW i fc f):=by
 obtain⟨te,q,r⟩:=he.ex;obtain⟨tk,qk,rk⟩:=hk.ex;show⟨_,zkq q (zpF (qv i hN hv hd hcd) qk ha) hs hw h1,⟨ ?_⟩⟩;rintro B A σ H ρ n k D a kk ⟨⟨l0,e0⟩,hf⟩;obtain⟨ad,xs0,s0,hA,_⟩:=a.own hi e0;show r.run A σ H ρ n _ _ a.env a.pn hf λw m v H1 r1 hv1 g1 _=>⟨.ref ad,s0,?_⟩;have a1:=a.step g1;show rk.run A σ H1 ρ m _ _ a1.env a1.pn r1  ?_;rintro y m2 v2 H2 ⟨l,d,j,e,ed,ey,j0,j1,r2⟩ b2 g2;subst ed ey;have a2:=a1.step g2;obtain⟨ad2,xs,s2,_,g,hl⟩:=a2.own hi e;rw[s0] at s2;cases s2;exact⟨ad,xs,j,rfl,yG b2,g,j0,by rw[hl.length];exact j1,kk.nx A σ _ _ m2 (a2.wr hi e s0 (zjh (hv1.stay g2.st).is _ hl)) r2⟩
end
section
variable {A:AL}{H:Hp}
def zvQ(h:za0 A H [w] vs):∃v,vs=[v]/\Val A H w v:=by obtain⟨v,r,e,h1,h2⟩:=h;cases h2;exact⟨v,e,h1⟩
def zqx(h:za0 A H [w,u] vs):∃v y,vs=[v,y]/\Val A H w v/\Val A H u y:=by obtain⟨v,r,e,h1,h2⟩:=h;obtain⟨y,rfl,q⟩:=zvQ h2;exact⟨v,y,e,h1,q⟩
def zvR(h:za0 A H [w,u,z] vs):∃v y x,vs=[v,y,x]/\Val A H w v/\Val A H u y/\Val A H z x:=by obtain⟨v,r,e,h1,h2⟩:=h;obtain⟨y,x,rfl,q,B⟩:=zqx h2;exact⟨v,y,x,e,h1,q,B⟩
def ztw{st:AG}(h:Val A H (.d (stD st)) v):∃a,v = .ref a/\H a=some (.tup (st.map V.int)):=by obtain⟨a,xs,e,h1,h2⟩:=h;obtain rfl:=h2.of_ints;exact⟨a,e,zq _ _ h1⟩
def zcf (st:AG):(stD st).noL=true:=by have:=yq [st];simpa [Dt.noLs] using this
end
structure RoomOk (rm:AG):Prop where
 ne:rm≠[]
 few:rm.length<=8
 box:∀r∈rm,2<=r/\r<=4
def RoomOk.pos {rm:AG}(h:RoomOk rm):1<=rm.length:=by
 cases rm with
 | nil=>exact absurd rfl h.ne
 | cons _ _=>simp
abbrev FV:=PN->AU->Mo W
def Lift (k:Nat)(fr:Bool)(F:FV)(sp:Sp):Prop:=∀vs H Q E,spV k fr F vs H Q E->sp vs H Q E
def FnOk.lift(h:FnOk P w K mg base CX j f fd ps sp)(l:Lift k fr F sp):FnOk P w K mg base CX j f fd ps (spV k fr F):=h.imp l
def uc (K:AH)(Pn:PN)(p:Addr):Prop:=∃c ns,Pn=⟨some (p,c,ns),J0⟩/\KL K c ns
def zij (K:AH):FV:=λPn q n R=>∃p zP,uc K Pn p/\q=[.pen p,.d (.int zP)]/\n<=1000000/\1<=zP/\zP<1073741824/\∀r,0<=r->r<zP->R (.d (.int r)) (n+1)
def zjC:Lift 2 false (zij K) (znM K):=by rintro vs H Q E ⟨Pn,A,ws,n,R,al,F,hl,B,⟨p,zP,⟨c,ns,rfl,I⟩,rfl,h1,h2,J,O⟩,q⟩;obtain⟨v,y,rfl,U,Y⟩:=zqx F;have Z:v = .ref p:=U;have e2:y = .int zP:=Y;subst Z e2;exact⟨p,c,ns,n,zP,rfl,I,B.1.1,h1,h2,J,λr H' r0 r1 P' S'=>q _ (n+1) _ H' (O r r0 r1) (Val.of rfl) ⟨S',⟨P',B.1.2⟩,trivial⟩ λz=>by cases z⟩
abbrev zty:FV:=λPn B n R=>∃p c ns q,Pn=⟨some (p,c,ns),J0⟩/\B=[.pen p,.d (.int q)]/\n+20<=1000000/\4<=q/\q<=256/\∀rm,RoomOk rm->zI rm<=q->R (.d (stD rm)) (n+10)
abbrev zm1:FV:=λPn q n R=>∃p c ns rm,Pn=⟨some (p,c,ns),J0⟩/\q=[.pen p,.d (stD rm)]/\n+20<=1000000/\RoomOk rm/\∀st,st.length=rm.length->(∀b:Int,0<=b->b<rm.length->0<=zP st b/\zP st b<zP rm b)->R (.d (stD st)) (n+10)
def zo2 (g:List (Int×Int)):(Dt.tup (g.map xK)).noL=true:=by
 have:∀g:List (Int×Int),Dt.noLs (g.map xK)=true:=by
  intro g
  induction g with
  | nil=>rfl
  | cons q g B=>simp only[aB,Dt.noLs,B,eM];rfl
 exact this g
abbrev zri (g:List (Int×Int)):Dt:=.tup (g.map xK)
abbrev zqI:FV:=λPn F n R=>∃p c ns rm B,Pn=⟨some (p,c,ns),J0⟩/\F=[.pen p,.d (stD rm),.d (.int B)]/\n+40<=1000000/\RoomOk rm/\∀g,Giv rm g->(∀q∈g,q.1≠B)->g.length<=8->R (.d (zri g)) (n+30)
abbrev ztZ:FV:=λ_ q n R=>∃d,q=[.d d]/\R (.d (.bl d.isWhole)) n
abbrev ztY:FV:=λ_ q n R=>∃a b,q=[.d (.bl a),.d (.bl b)]/\R (.d (.bl (a==b))) n
abbrev F_prod:FV:=λ_ q n R=>∃ns:AG,q=[.d (stD ns)]/\(∀n∈ns,2<=n/\n<=4)/\R (.d (.int (zI ns))) n
abbrev ztX:FV:=λ_ B n R=>∃st g,B=[.d (stD st),.d (zri g)]/\(∀q∈g,0<=q.1/\q.1<st.length)/\R (.d (.bl (xu st g))) n
abbrev xN (sts:AF):Dt:=.lst (sts.map stD)
abbrev F_all:FV:=λ_ q n R=>∃rm,q=[.d (stD rm)]/\RoomOk rm/\zI rm<=256/\R (.d (xN (uF (rm.map zG)))) n
abbrev lsD (c:AG):Dt:=.lst (c.map .int)
abbrev zqB:FV:=λ_ q n R=>∃cs:AF,q=[.d (.lst (cs.map lsD))]/\cs.length<=8/\(∀c∈cs,c.length<=4)/\R (.d (xN (uF cs))) n
def zu7 {P:Aa}{w:Ab}{K:AH}{mg:AI}{base:Heap}{x F:Str}{st:Stmt}{f:Addr}{fd:Ac}{N ps:AM}{k r:Nat}{S:AR}(M:AR)(Fu:Fun K x F st f fd)(Sc:FnScope N ps (zc st))(ac:ps.length=1)(hN:N.length=r+2)(hM:∀i∈M,2<=i)
  (Y:∀ (J:Value) (A:Ae) (B:List Env) (s:AZ) (H:Hp) (E:XK) (Pn:PN),Room k (A.deeper (PyProof.Rows.envOfC F (zc st) s.heap.objs.size f J))->
   ∃U zy fs,zw st=U::zy/\QS (zes CX0 P w K mg base N F (zc st) f J A B s H E).nox U (zh6 (zcP (zmK K) [] E0 (zbD (zaU 0) zqh)) (za5 1))/\
    JSs (zes CX0 P w K mg base N F (zc st) f J A B s H E).nox Pn S M false zy fs/\∀p c ns,Pn=⟨some (p,c,ns),J0⟩->KL K c ns->fs (none::some (.pen p)::List.replicate r none) 0 { nx:=λ_ _=>False,rt:=λw _=>w = .d (.bl true) }):FnOk P w K mg base CX0 (k+1) f fd ps (zh5 K):=by
 show Fun.okQ Fu Sc (λvs H Q E h=>?_) (λJ A B s H vs Q E hr h=>?_);obtain⟨a,ns,rfl,_⟩:=h;exact ac.symm;obtain⟨a,ns,rfl,hK,hS,hl,q⟩:=h;have Z:=λ(Pn:PN)=>Y J A B s H E Pn hr;have ab:L2.xn N [.ref a]=some (.ref a)::none::List.replicate r none:=by unfold L2.xn;rw[hN];rfl
 have hd:∃U zy,zw st=U::zy:=let ⟨U,zy,_,e,_⟩:=Z ⟨none,J0⟩;⟨U,zy,e⟩;obtain⟨U,zy,e0⟩:=hd;rw[e0];have c2:∀Pn,∃fs,JSs (zes CX0 P w K mg base N F (zc st) f J A B s H E).nox Pn S M false zy fs/\∀p c ns,Pn=⟨some (p,c,ns),J0⟩->KL K c ns->fs (none::some (.pen p)::List.replicate r none) 0 { nx:=λ_ _=>False,rt:=λw _=>w = .d (.bl true) }:=λPn=>by obtain⟨ad,aa,fs,e,_,h1,h2⟩:=Z Pn;rw[e0] at e;cases e;exact⟨fs,h1,h2⟩
 have q1:QS (zes CX0 P w K mg base N F (zc st) f J A B s H E).nox U (zh6 (zcP (zmK K) [] E0 (zbD (zaU 0) zqh)) (za5 1)):=by
  obtain⟨ad,aa,fs,e,h0,_⟩:=Z ⟨none,J0⟩;right
 show⟨_,z8 q1 (u:=λD σ H=>∃Pn,(c2 Pn).choose_spec.1.ex.choose D σ H) ⟨λpins s' σ H D I ⟨Pn,z⟩=>(c2 Pn).choose_spec.1.ex.choose_spec.1.run pins s' σ H D I z⟩,?_⟩;show⟨.ref a,by rw[ab];rfl,a,ns,rfl,hK,hS,hl,λp H1 P1 S1=>⟨⟨some (p,a,ns),J0⟩,?_⟩⟩;have hs:=(c2 ⟨some (p,a,ns),J0⟩).choose_spec.2 p a ns rfl hK;have e1:(L2.xn N [.ref a]).set 1 (some (.ref p))=some (.ref a)::some (.ref p)::List.replicate r none:=by rw[ab];rfl
 rw[e1]
 have O:∀i (u:W),(none::some (.pen p)::List.replicate r none:Ev)[i]?=some (some u)->i=1/\u = .pen p:=λi u e=>by
  match i,e with
  | 0,e=>simp at e
  | 1,e=>exact⟨rfl,by simpa using e.symm⟩
  | i+2,e=>
   simp only[dX] at e;obtain⟨_,q⟩:=aj.mp e;right
 show (c2 ⟨some (p,a,ns),J0⟩).choose_spec.1.ex.choose_spec.2.run { A0:=λ_=>False,H0:=λ_=>none,G0:=λ_=>none,σ0:=some (.ref a)::some (.ref p)::List.replicate r none } (λ_=>False) _ H1 _ 0 _ _ ⟨⟨?_,?_,?_,λ_ z=>z.elim⟩,⟨λ_ z=>z,λ_ z=>z.elim,(λb o (z:(none:Option HO)=some o)=>nomatch z),λ_ z=>z.elim,λ_ z=>z.elim,λ_ z=>z.elim⟩,⟨⟨P1,λ_ _ z=>z,λz=>z⟩,trivial⟩,(λb o (z:(none:Option HO)=some o)=>nomatch z),⟨λi hi=>rfl,λ_=>⟨λb xs (z:(none:Option HO)=some (.lst xs))=>(nomatch z),λb xs (z:(none:Option HO)=some (.lst xs))=>(nomatch z)⟩⟩,?_⟩ ⟨?_,?_,?_,λ_ z=>z,?_⟩ hs;simp;intro i u e;obtain⟨rfl,rfl⟩:=O i u e;exact⟨.ref p,rfl,λ_=>rfl,λz=>absurd (hM 1 z) (by lia)⟩;intro i j u u' b hi hj ag e1;obtain⟨rfl,rfl⟩:=O i u e1;exact absurd (hM 1 hi) (by lia);intro i u b hi e;obtain⟨rfl,rfl⟩:=O i u e;exact absurd (hM 1 hi) (by lia);intro _ _ _ _ _ _ z;exact z.elim;intro _ _ _ _ _ _ z;exact z.elim;intro _ _ _ _ _ _ z;exact z.elim;intro w n' v H' hv st pn _ r;have r':w = .d (.bl true):=r;subst r';have:v = .bl true:=hv;subst this;exact q H'
def ziy {α:Type}{l:AU}{F:Ev}{n:Nat}{mg:W->Ev->(Ev->Prop)->Prop}{Z:Ev->Mo Bool}{fe:AD}{Q:AV}(xs:List α)(I:α->W)(hl:l=xs.map I)(J:Ev->Prop)(P:α->Bool)(E:α->Dt)(aa:xs.length<=lim)(j0:J F)
  (h:∀a∈xs,∀ B,J B->∀C:Ev->Nat->Option Dt->Prop,(∀ q,J q->C q n (if P a then some (E a) else none))->mg (I a) B λq=>Z q n λb n2=>if b=true then fe q n2 λx O=>∃d,x = .d d/\C q O (some d) else C q n2 none)
  (fin:Q (.d (.lst ((xs.filter P).map E))) n):zdw mg Z fe F Q l n:=by
 subst hl;show⟨by right,λi B U acc=>J B/\U=n/\acc=((xs.take i).filter P).map E,⟨j0,rfl,by simp⟩,?_,?_⟩;rintro i w B U acc hw ⟨hj,rfl,rfl⟩;rw[aN] at hw;obtain⟨a,ha,rfl⟩:=aL.mp hw
 have:=h a (aJ ha) B hj (λq O o=>match o with
  | some d=>J q/\O=U/\((xs.take i).filter P).map E++[d]=((xs.take (i+1)).filter P).map E
  | none=>J q/\O=U/\((xs.take i).filter P).map E=((xs.take (i+1)).filter P).map E) (λq Y=>by
   rw[zm ha,List.filter_append,aH];by_cases hp:P a=true;right;rw[if_neg hp];exact⟨Y,rfl,by simp[hp]⟩)
 exact this;grind
def zlk {α:Type}{l:AU}{F:Ev}{n:Nat}{mg:W->Ev->(Ev->Prop)->Prop}{Z:AD}{Q:AV}(xs:List α)(I:α->W)(hl:l=xs.map I)(J:Ev->Prop)(E:α->Dt)(aa:xs.length<=lim)(j0:J F)
  (h:∀a∈xs,∀ B,J B->∀C:Ev->Nat->Dt->Prop,(∀ q,J q->C q n (E a))->mg (I a) B λq=>Z q n λx O=>∃d,x = .d d/\C q O d)
  (fin:Q (.d (.lst (xs.map E))) n):zdw mg ztO Z F Q l n:=by
 subst hl;show⟨by right,λi B U acc=>J B/\U=n/\acc=(xs.take i).map E,⟨j0,rfl,by simp⟩,?_,?_⟩;rintro i w B U acc hw ⟨hj,rfl,rfl⟩;rw[aN] at hw;obtain⟨a,ha,rfl⟩:=aL.mp hw;exact h a (aJ ha) B hj (λq O d=>J q/\O=U/\(xs.take i).map E++[d]=(xs.take (i+1)).map E) λq Y=>⟨Y,rfl,by rw[zm ha,aH];rfl⟩;grind
def zoh(I:Nat->Ev->Nat->Prop)(U:I 0 ρ n)(h:∀i q B,i<r->I i q B->mg (.d (.int (i:Int))) q λF=>fb F B { k with nx:=I (i+1),ct:=I (i+1),bk:=k.nx })(Y:∀ q B,I r q B->k.nx q B):zog mg fb ρ k (zet 0 r) n:=by
 show⟨I,U,λi w q B J O=>?_,λq B O=>Y q B ?_⟩;unfold zet at J;rw[aN] at J;obtain⟨j,h1,rfl⟩:=aL.mp J;obtain⟨hi,h2⟩:=aj.mp h1;rw[cx] at h2;right;unfold zet at O;right
def zi4{α:Type}(xs:List α)(F:α->W)(Y:l=xs.map F)(I:Nat->Ev->Nat->Prop)(Z:I 0 ρ n)(h:∀i a q B,xs[i]?=some a->I i q B->mg (F a) q λJ=>fb J B { k with nx:=I (i+1),ct:=I (i+1),bk:=k.nx })(hd:∀ q B,I xs.length q B->k.nx q B):zog mg fb ρ k l n:=by
 subst Y;show⟨I,Z,λi w q B O U=>?_,λq B U=>hd q B (by right)⟩;rw[aN] at O;obtain⟨a,ha,rfl⟩:=aL.mp O;exact h i a q B ha U
def zeN(I:Nat->Ev->Nat->Prop)(O:I 0 ρ n)(h:∀i q F,i<r->I i q F->∀ (C B:Ev->Nat->Prop) (E:AV),(∀ {ρ m},I (i+1) ρ m->C ρ m)->(∀ {ρ m},k.nx ρ m->B ρ m)->(∀ {w m},k.rt w m->E w m)->mg (.d (.int (i:Int))) q λJ=>fb J F { rt:=E,nx:=C,ct:=C,bk:=B })(U:∀ q F,I r q F->k.nx q F):zog mg fb ρ k (zet 0 r) n:=
 zoh I O (λi q F hi Y=>h i q F hi Y (I (i+1)) k.nx k.rt (λz=>z) (λz=>z) λz=>z) U
def yN{α:Type}(xs:List α)(F:α->W)(U:l=xs.map F)(I:Nat->Ev->Nat->Prop)(Y:I 0 ρ n)(h:∀i a q J,xs[i]?=some a->I i q J->∀ (C B:Ev->Nat->Prop) (E:AV),(∀ {ρ m},I (i+1) ρ m->C ρ m)->(∀ {ρ m},k.nx ρ m->B ρ m)->(∀ {w m},k.rt w m->E w m)->mg (F a) q λO=>fb O J { rt:=E,nx:=C,ct:=C,bk:=B })(Z:∀ q J,I xs.length q J->k.nx q J):zog mg fb ρ k l n:=
 zi4 xs F U I Y (λi a q J ha hI=>h i a q J ha hI (I (i+1)) k.nx k.rt (λz=>z) (λz=>z) λz=>z) Z
def zlj{α:Type}(xs:List α)(O:α->W)(hl:l=xs.map O)(Z:xs.length<=lim)(I:Nat->Ev->Nat->AS->Prop)(h0:I 0 J n [])(h:∀i a q B acc,xs[i]?=some a->I i q B acc->∀C:Ev->Nat->AS->Prop,(∀ {ρ m l},I (i+1) ρ m l->C ρ m l)->mg (O a) q λF=>U F B λb n2=>if b=true then Y F n2 λx n3=>∃d,x = .d d/\C F n3 (acc++[d]) else C F n2 acc)(fin:∀ q B acc,I xs.length q B acc->Q (.d (.lst acc)) B):zdw mg U Y J Q l n:=by
 subst hl;show⟨by right,I,h0,λi w q B acc hw hI=>?_,λq B acc hI=>fin q B acc (by right)⟩;rw[aN] at hw;obtain⟨a,ha,rfl⟩:=aL.mp hw;exact h i a q B acc ha hI (I (i+1)) λz=>z
def zex {α:Type}{l:List α}{i:Nat}{x:α}(h:l[i]?=some x):atI l (i:Int)=some x:=by
 have:=(aj.mp h).1;unfold atI ixN;right
def zqM {α:Type}{l:List α}{i:Int}(B:0<=i)(h1:i<l.length):∃d,atI l i=some d/\d∈l:=by
 obtain⟨j,rfl⟩:∃j:Nat,i=j:=⟨i.toNat,by lia⟩;have q:j<l.length:=by lia
 exact⟨l[j],zex (ax q),bP q⟩
def zt3 {a b:Dt}:atI [a,b] 0=some a:=rfl
def zt4 {a b:Dt}:atI [a,b] 1=some b:=rfl
def znT {st:AG}{b:Int}(B:0<=b)(h1:b<st.length):atI (st.map Dt.int) b=some (.int (zP st b)):=by
 obtain⟨j,rfl⟩:∃j:Nat,b=j:=⟨b.toNat,by lia⟩;have q:j<st.length:=by lia
 show zex ?_;rw[aN,ax q,zN];simp[q]
def gw (g:List (Int×Int))(i:Nat):AQ:=(g.find? λq=>decide (q.1=(i:Int))).map (·.2)
def cho (rm:AG)(g:List (Int×Int))(i:Nat):AG:=match gw g i with
 | some w=>[w]
 | none=>zG (rm.getD i 0)
def chs (rm:AG)(g:List (Int×Int)):AF:=(List.range rm.length).map (cho rm g)
def zuL (rm:AG)(g:List (Int×Int)):AF:=uF (chs rm g)
section
variable {X:Cx}{Pn:PN}{M S:AR}{fr fr':Bool}{e a b c:Expr}{es:AO}{f fa fb fc:AD}{pos p p2:Pos}
def zuP (i:Nat)(f:AD):Ms:=λρ n k=>(∃l,ρ[i]?=some (some (.d (.lst l))))/\f ρ n λw m=>∃l q,ρ[i]?=some (some (.d (.lst l)))/\w = .d (.lst q)/\l.length+q.length<=lim/\k.nx (ρ.set i (some (.d (.lst (l++q))))) m
def znh (i:Nat){x:Str}{ap U sp Y:Pos}(he:JE X Pn M fr' e f)(hi:i∈M:=by ext)(hN:X.N[i]?=some x:=by rfl)(hv:Vis X.env.scope x:=by walk_at "v")(hd:Ah x:=by ext)
  (ac:(x==("__classdict__" : Str))=false:=by ext) (Z:starEach (e::[]) X.env=(false,eval e X.env)::starEach [] X.env:=by rfl) (hs:swapsWith (.Call (.Attribute (.Name x Y) "extend" ap) [e] [] U) none sp.line X.env=pure false:=by rfl) (J:attributeBase (.Name x Y) "extend" X.env (eval (.Name x Y) X.env)=eval (.Name x Y) X.env:=by rfl) (O:(ap.endLine==U.line)=true:=by rfl)
  (aa:((backTo U (starEach [e] X.env)).all (λx=>!x.1)&&(backToKw U (keywordEach [] X.env)).all (λx=>x.1.isSome)&&decide (([e]:AO).length+([]:List Keyword).length+(if ([]:List Keyword).isEmpty then 0 else 1)<30))=true:=by rfl) (I:(backTo U (starEach [] X.env)).any (·.1)=false:=by rfl) :
  JS X Pn S M fr (.Expr (.Call (.Attribute (.Name x Y) "extend" ap) [e] [] U) sp) (zuP i f):=by
 obtain⟨te,q,r⟩:=he.ex;show⟨_,zd8 (znz de PySem.F.slot_list_extend PySem.F.type_list_extend zjS (qv i hN hv hd ac) (zE q yC Z) J aa O Z I) hs,⟨ ?_⟩⟩;rintro B A σ H ρ n k D a kk ⟨⟨l0,e0⟩,hf⟩;obtain⟨ad,al,s1,hA,g0,_⟩:=a.own hi e0;show⟨.ref ad,s1,.inl ⟨rfl,_,SqL.of g0⟩,?_⟩;show r.run A σ H ρ n _ _ a.env a.pn hf  ?_;rintro w m v H' ⟨l,l2,e,ed,hz,r⟩ hv g _;subst ed;have a':=a.step g;obtain⟨an,xs,s2,_,g4,hl⟩:=a'.own hi e;rw[s1] at s2;cases s2;obtain⟨b2,ys,rfl,ag,ab⟩:=hv;exact⟨ad,b2,xs,ys,rfl,rfl,g4,zq _ _ ag,zc6 (by rw[hl.length,ab.length];exact hz),kk.nx A σ _ _ m (a'.wr hi e s1 (hl.append ab)) r⟩
def znd {α:Type}(l:List α)(k:Nat)(x:α):List α:=l.take k++x::l.drop k
def zuR (i:Nat)(fk f:AD):Ms:=λρ n k=>(∃l,ρ[i]?=some (some (.d (.lst l))))/\fk ρ n λy m=>f ρ m λw q=>∃l d j,ρ[i]?=some (some (.d (.lst l)))/\w = .d d/\y = .d (.int j)/\0<=j/\j<=l.length/\l.length<lim/\k.nx (ρ.set i (some (.d (.lst (znd l j.toNat d))))) q
def zni(i:Nat){x:Str}{ap U sp Y:Pos}(hc:JE X Pn M ab c fc)(he:JE X Pn M fr' e f)(hi:i∈M:=by ext)(hN:X.N[i]?=some x:=by rfl)(hv:Vis X.env.scope x:=by walk_at "v")(hd:Ah x:=by ext)(ac:(x==("__classdict__" : Str))=false:=by ext)(Z:starEach (c::[e]) X.env=(false,eval c X.env)::starEach [e] X.env:=by rfl)(ag:starEach (e::[]) X.env=(false,eval e X.env)::starEach [] X.env:=by rfl)(hs:swapsWith (.Call (.Attribute (.Name x Y) "insert" ap) [c,e] [] U) none sp.line X.env=pure false:=by rfl)(J:attributeBase (.Name x Y) "insert" X.env (eval (.Name x Y) X.env)=eval (.Name x Y) X.env:=by rfl)(O:(ap.endLine==U.line)=true:=by rfl)(aa:((backTo U (starEach [c,e] X.env)).all (λx=>!x.1)&&(backToKw U (keywordEach [] X.env)).all (λx=>x.1.isSome)&&decide (([c,e]:AO).length+([]:List Keyword).length+(if ([]:List Keyword).isEmpty then 0 else 1)<30))=true:=by rfl)(I:(backTo U (starEach [e] X.env)).any (·.1)=false:=by rfl) :
  JS X Pn S M fr (.Expr (.Call (.Attribute (.Name x Y) "insert" ap) [c,e] [] U) sp) (zuR i fc f):=by
 obtain⟨te,q,r⟩:=he.ex;obtain⟨tc,qc,rc⟩:=hc.ex;show⟨_,zd8 (znz de PySem.F.slot_list_insert PySem.F.type_list_insert zjT (qv i hN hv hd ac) (zE qc (zE q yC ag) Z) J aa O Z I) hs,⟨ ?_⟩⟩;rintro B A σ H ρ n k D a kk ⟨⟨l0,e0⟩,hf⟩;obtain⟨ad,an,s1,hA,g0,_⟩:=a.own hi e0;show⟨.ref ad,s1,.inl ⟨rfl,_,SqL.of g0⟩,?_⟩;show rc.run A σ H ρ n _ _ a.env a.pn hf λw1 m1 v1 H1 r1 al g1 _=>?_;have a1:=a.step g1;show r.run A σ H1 ρ m1 _ _ a1.env a1.pn r1  ?_;rintro w m v H' ⟨l,d,j,e,ed,ey,j0,j1,hz,r⟩ hv g _;subst ed ey;have e1:v1 = .int j:=al;subst e1;have a':=a1.step g;obtain⟨as,xs,s2,_,g4,hl⟩:=a'.own hi e;rw[s1] at s2;cases s2;show⟨ad,xs,j,v,rfl,rfl,g4,j0,by rw[hl.length];exact j1,zg2 (by rw[hl.length];exact cH hz),kk.nx A σ _ _ m (a'.wr hi e s1 ?_) r⟩;exact (hl.take _).append ⟨v,_,rfl,hv.is,hl.drop _⟩
def zoa:AU->Mo W:=λq n Q=>(∃i,q=[.d (.int i)]/\Q (.d (.int i)) n)\/∃b,q=[.d (.bl b)]/\Q (.d (.int (if b then 1 else 0))) n
def ztu:FL Pn false (λxs H Q=>(∃i,xs=[.int i]/\Q (.int i) H)\/∃k,xs=[.bl k]/\Q (.int (if k then 1 else 0)) H) zoa:=⟨λA H xs B n Q R F b P h k=>by
 rcases h with ⟨i,e,h⟩ | ⟨i,e,h⟩;subst e;obtain⟨v,rfl,q⟩:=za3 b;exact .inl ⟨i,by rw[yG q],k _ n _ H h (Val.of rfl) (Go.refl P) λz=>by cases z⟩;subst e;obtain⟨v,rfl,q⟩:=za3 b;exact .inr ⟨i,by rw[zqQ q],k _ n _ H h (Val.of rfl) (Go.refl P) λz=>by cases z⟩⟩
def zi0:AU->Mo W:=λB n Q=>∃ns:AG,B=[.d (.lst (ns.map .int))]/\ns.length<64/\∀q:AG,q.Perm ns->q.Pairwise (·<=·)->Q (.d (.lst (q.map .int))) n
def zqu:FL Pn true zkv zi0:=⟨by
 rintro A H xs Z n Q R I b P ⟨ns,e,q,h⟩ k;subst e;obtain⟨v,rfl,J⟩:=za3 b;obtain⟨a,ys,rfl,O,U⟩:=y9 J;obtain rfl:=U.of_ints;exact⟨a,ns,rfl,O,q,λB Y hs p H' F g S=>k _ n _ H' (h B Y hs) (uu (H:=H) IsL.ints (zu.same S) (I.new F) g) (Go.same P S) λz=>uh (H:=H) IsL.ints S F g⟩⟩
def zi2:AU->Mo W:=λB n Q=>∃ (sts:AF) (m:Nat),B=[.d (.lst (sts.map stD))]/\1<=m/\(∀st∈sts,st.length=m)/\sts.Nodup/\∀q:AF,q.Perm sts->(q.Pairwise λa b=>HT.lexLt a b=true)->Q (.d (xN q)) n
def zqv:FL Pn true zpP zi2:=⟨by
 rintro A H xs ws n Q R J b P ⟨sts,m,e,h1,U,F,h⟩ k;subst e;obtain⟨v,rfl,Y⟩:=za3 b;obtain⟨a,ys,rfl,Z,hl⟩:=y9 Y;show⟨a,ys,sts,m,rfl,Z,hl.stay (zu.same zq),h1,U,F,λI q hy hp hs p H' O g S=>?_⟩;have B:IsL (zL A H) (q.map stD) I:=uH J.noT (yq q) hy;exact k _ n _ H' (h q hp hs) (uu B (zu.same S) (J.new O) g) (Go.same P S) λz=>uh B S O g⟩
def zjp:JE X Pn M true (.Dict [] [] pos) (mC (.dt [])):=⟨_,zmo,⟨λA σ H ρ n Q R E P B k=>λp H' q g S=>k _ n _ H' B ⟨p,[],rfl,zr (E.new q) g,rfl⟩ (Go.same P S) λ_=>⟨p,rfl,.of q,p,[],rfl,g,rfl⟩⟩⟩
def zhk {κ:Type}[DecidableEq κ](kvs:List (κ×Dt))(k:κ)(d:Dt):List (κ×Dt):=
 if (kvs.any λkv=>decide (kv.1=k))=true then kvs.map (λkv=>if kv.1=k then (kv.1,d) else kv) else kvs++[(k,d)]
def uE.any {κ:Type}[DecidableEq κ]{G:Hp}{k:κ}:∀ {kvs:List (κ×Dt)} {ks:List (κ×V)},uE G kvs ks->(ks.any λkv=>decide (kv.1=k))=kvs.any λkv=>decide (kv.1=k)
 | [],_,h=>by cases h;rfl
 | q::r,ks,⟨v,s,e,h1,h2⟩=>by subst e;rw[cR,cR,uE.any h2]
def uE.map1 {κ:Type}[DecidableEq κ]{G:Hp}{k:κ}{d:Dt}{x:V}(F:Is G d x):∀ {kvs:List (κ×Dt)} {ks:List (κ×V)},uE G kvs ks->uE G (kvs.map λkv=>if kv.1=k then (kv.1,d) else kv) (ks.map λkv=>if kv.1=k then (kv.1,x) else kv)
 | [],_,h=>by cases h;rfl
 | q::r,ks,⟨v,s,e,h1,h2⟩=>by
  subst e;rw[aB,aB];by_cases B:q.1=k;rw[if_pos B,if_pos B];exact⟨x,_,rfl,F,uE.map1 F h2⟩;rw[if_neg B,if_neg B];exact⟨v,_,rfl,h1,uE.map1 F h2⟩
def uE.snoc {κ:Type}{G:Hp}{k:κ}{d:Dt}{x:V}(B:Is G d x):∀ {kvs:List (κ×Dt)} {ks:List (κ×V)},uE G kvs ks->uE G (kvs++[(k,d)]) (ks++[(k,x)])
 | [],_,h=>by cases h;exact⟨x,[],rfl,B,rfl⟩
 | q::r,ks,⟨v,s,e,h1,h2⟩=>by subst e;exact⟨v,_,rfl,h1,uE.snoc B h2⟩
def uE.put{κ:Type}[DecidableEq κ]{k:κ}{kvs:List (κ×Dt)}{ks:List (κ×V)}(h:uE G kvs ks)(q:Is G d x):uE G (zhk kvs k d) (uU ks k x):=by
 unfold zhk uU;rw[h.any];split;exact h.map1 q;exact h.snoc q
def uE.len {κ:Type}{G:Hp}:∀ {kvs:List (κ×Dt)} {ks:List (κ×V)},uE G kvs ks->ks.length=kvs.length
 | [],_,h=>by cases h;rfl
 | q::r,ks,⟨v,s,e,h1,h2⟩=>by subst e;rw[aO,aO,uE.len h2]
def At3.wrX(h:At3 Pn B S M A σ H ρ n)(hi:i∈M)(e:ρ[i]?=some (some w))(s:σ[i]?=some (some (.ref ad)))(hw:WAt (L2.upd H ad o) (zL A H) w' (.ref ad))(hm':w'.mut=true)(np:NP o)(nt:Mt o):At3 Pn B S M A σ (L2.upd H ad o) (ρ.set i (some w')) n:=by
 obtain⟨v,s1,_,s3⟩:=h.env.val i w e;rw[s] at s1;cases s1;obtain⟨a2,e2,hA,_,_⟩:=s3 hi;cases e2;have hlen:i<ρ.length:=(aj.mp e).1
 have hE:EnvR A M σ (L2.upd H ad o) (ρ.set i (some w')):=by
  show⟨by rw[bN];exact h.env.len,λj u ej=>?_,λj q u u' b hj hq hne e1 e2=>?_,λb hb=>?_⟩;by_cases hj:j=i;subst hj;rw[aU hlen] at ej;cases ej;exact⟨.ref ad,s,λz=>absurd hi z,λ_=>⟨ad,rfl,hA,by change WAt _ _ _ _;rw[yg hA];exact hw,hm'⟩⟩;rw[av (Ne.symm hj)] at ej;obtain⟨v,t1,t2,t3⟩:=h.env.val j u ej;show⟨v,t1,λz=>?_,λz=>?_⟩;change WAt _ _ _ _;rw[yg hA];exact t2 z;obtain⟨b,rfl,hb,hbb,hm⟩:=t3 z;have hne:b≠ad:=λq=>h.env.dis i j w u ad hi z (Ne.symm hj) e ej s (by rw[t1,q]);show⟨b,rfl,hb,?_,hm⟩;change WAt _ _ _ _;rw[yg hA]
  cases u with
  | d x=>
   cases x with
   | lst l=>obtain⟨a2,xs,e2,g1,g2⟩:=hbb;cases e2;exact⟨b,xs,rfl,by rw[ze hne];exact g1,g2⟩
   | dct=>obtain⟨a2,xs,e2,g1,g2⟩:=hbb;cases e2;exact⟨b,xs,rfl,by rw[ze hne];exact g1,g2⟩
   | _=>cases hm
  | pen p=>cases hm
  | dk k=>obtain⟨a2,xs,e2,g1,g2⟩:=hbb;cases e2;exact⟨b,xs,rfl,by rw[ze hne];exact g1,g2⟩
  | dt k=>obtain⟨a2,xs,e2,g1,g2⟩:=hbb;cases e2;exact⟨b,xs,rfl,by rw[ze hne];exact g1,g2⟩
  | ss P w k=>obtain⟨a2,xs,e2,g1,g2⟩:=hbb;cases e2;exact⟨b,xs,rfl,by rw[ze hne];exact g1,g2⟩
  | df k=>obtain⟨a2,ob,xs,e2,g1,g2⟩:=hbb;cases e2;exact⟨b,ob,xs,rfl,by right,g2⟩
  | kf k=>obtain⟨a2,ob,xs,e2,g1,g2⟩:=hbb;cases e2;exact⟨b,ob,xs,rfl,by right,g2⟩
  | ad a x=>cases hm
  | tz kvs x=>cases hm
  | fl k=>obtain⟨a2,ob,xs,e2,g1,g2⟩:=hbb;cases e2;exact⟨b,ob,xs,rfl,by right,g2⟩
  have get:∀q (u:W),(ρ.set i (some w'))[q]?=some (some u)->∃u',ρ[q]?=some (some u'):=λq u z=>by
   by_cases hq:q=i;subst hq;exact⟨w,e⟩;rw[av (Ne.symm hq)] at z;exact⟨u,z⟩
  obtain⟨v1,f1⟩:=get j u e1;obtain⟨v2,f2⟩:=get q u' e2;exact h.env.dis j q v1 v2 b hj hq hne f1 f2;by_cases hb':b=ad;subst hb';exact⟨_,zg,np,nt⟩;rw[ze hb'];exact h.env.al b hb
 show⟨hE,⟨h.frm.sub,h.frm.new,λb o eb nn nc=>?_,h.frm.al,h.frm.cn,λb z=>(by
  by_cases hb':b=ad;subst hb';exact⟨_,zg,np⟩;rw[ze hb'];exact h.frm.cs b z)⟩,h.pn.upd hA,by rw[yg hA];exact h.prot,h.fix,λj u b hj ej sj=>?_⟩
 have hne:b≠ad:=λq=>by
  subst q;rcases h.mine i w b hi e s with z | z;exact z o eb nn;exact nc z
 rw[ze hne];exact h.frm.st b o eb nn nc;by_cases hj':j=i;subst hj';exact h.mine j w b hj e sj;rw[av (Ne.symm hj')] at ej;exact h.mine j u b hj ej sj
def zjI (i:Nat)(fk f:AD):Ms:=λρ n k=>(∃kvs,ρ[i]?=some (some (.dt kvs)))/\f ρ n λw m=>fk ρ m λy q=>∃kvs st d,ρ[i]?=some (some (.dt kvs))/\w = .d d/\y = .d (stD st)/\kvs.length<lim/\k.nx (ρ.set i (some (.dt (zhk kvs st d)))) q
def zbJ (i:Nat){x:Str}{np sp:Pos}(hu:X.A.units+1<cLine)(hk:JB X Pn M c fc)(he:JE X Pn M fr' e f)(hi:i∈M:=by ext)(hN:X.N[i]?=some x:=by rfl)(hv:Vis X.env.scope x:=by walk_at "v")(hd:Ah x:=by ext)
  (I:(x==("__classdict__" : Str))=false:=by ext) (hs:swapsWith e (some (.Subscript (.Name x np) c p)) sp.line X.env=pure false:=by rfl) :
  JS X Pn S M fr (.Assign [.Subscript (.Name x np) c p] e sp) (zjI i fc f):=by
 obtain⟨te,q,r⟩:=he.ex;obtain⟨tk,qk,rk⟩:=hk.ex;show⟨_,zd7 hu (qv i hN hv hd I) qk q hs,⟨ ?_⟩⟩;rintro B A σ H ρ n k D a kk ⟨⟨l0,e0⟩,hf⟩;obtain⟨v0,J,_,o3⟩:=a.env.val i _ e0;obtain⟨O,rfl,hA,ab,_⟩:=o3 hi;show r.run A σ H ρ n _ _ a.env a.pn hf λw m v H1 r1 U g1 _=>⟨.ref O,J,?_⟩;have Y:=a.step g1;show rk.run A σ H1 ρ m _ _ Y.env Y.pn r1  ?_;rintro y m2 v2 H2 ⟨kvs,st,d,e,ed,ey,hz,r2⟩ b2 g2;subst ed ey;have a2:=Y.step g2;obtain⟨v3,s3,_,o4⟩:=a2.env.val i _ e;rw[J] at s3;cases s3;obtain⟨ac,e4,_,hb,_⟩:=o4 hi;cases e4;obtain⟨a5,ks,e5,Z,F⟩:=hb;cases e5;obtain⟨bd,xs,rfl,aa,hx⟩:=ue b2;obtain rfl:=hx.of_ints;exact⟨O,_,rfl,zeq.i Z aa (zg2 (by rw[F.len];exact cH hz)),kk.nx A σ _ _ m2 (a2.wrX (w':=.dt (zhk kvs st d)) hi e J ⟨O,_,rfl,zg,F.put (U.stay g2.st).is⟩ rfl (λk z=>by cases z) rfl) r2⟩
end
end L3
namespace L3
open L2
section
variable {X:Cx}{Pn:PN}{M S:AR}{fr fr':Bool}{e a b c:Expr}{es:AO}{f fa fb fc:AD}{pos p:Pos}
def zvn(h1:QI X tg e w1)(h2:QI X tg e w2):QI X tg e (λσ H R=>w1 σ H R\/w2 σ H R):=⟨λpins s σ H R I h=>h.elim (h1.run pins s σ H R I) (h2.run pins s σ H R I)⟩
def zuS (fa:AD):AC:=λρ n Q=>ztK fa ρ n Q\/ztM fa ρ n Q
def zng(K:AH)(q:X.K=K)(h:JE X Pn M fr e f):JI X Pn M false tg e (zuS f):=by obtain⟨U,B,F⟩:=(xI (tg:=tg) K q h).ex;obtain⟨Y,I,J⟩:=(zeT (tg:=tg) K q h).ex;exact⟨_,zvn B I,⟨λA σ H ρ n Q R E P O k=>O.elim (λz=>.inl (F.run A σ H ρ n Q R E P z k)) λz=>.inr (J.run A σ H ρ n Q R E P z k)⟩⟩
def zoR (fa:AC):AC:=λρ n Q=>fa ρ n λq m=>∃l k,q=[.d (.lst l),.d (.tup k)]/\l.length=k.length/\Q (ziW l k) m
def zoC {B:AO}{x1}{tpos:Pos}{fs:AC}(U:Gl X "zip")(Y:X.mg "zip" = none)(Z:JA X Pn M [a,b] fs)(hs:starEach [a,b] X.env=[(false,eval a X.env),(false,eval b X.env)]:=by rfl)(O:starEach [b] X.env=[(false,eval b X.env)]:=by rfl):JI X Pn M false (.Tuple B x1 tpos) (.Call (.Name "zip" p) [a,b] [] pos) (zoR fs):=by obtain⟨te,q,r⟩:=Z.ex;show⟨_,zpI false U Y q hs O,⟨λA σ H ρ n Q R E P hf k=>?_⟩⟩;show r.run A σ H ρ n _ _ E P hf  ?_;rintro ws m vs H1 ⟨l,kk,e,F,r⟩ hv g;subst e;obtain⟨v,s,rfl,⟨ad,xs,rfl,I,hl⟩,v2,s2,rfl,⟨bd,ys,rfl,J,hk⟩,hs⟩:=hv;cases hs;exact⟨ad,bd,rfl,⟨xs,.of (zq _ _ I)⟩,⟨ys,.of (zq _ _ J)⟩,k _ m _ H1 r (zlJ F (λs=>.of (zq _ _ (s.lst I))) hl J hk) g⟩
def ziY:AU->Mo W:=λq n Q=>∃kvs,q=[.dt kvs]/\((kvs.map (·.1)).Nodup->Q (.d (.lst ((kvs.map (·.1)).map stD))) n)
def uE.keys {κ:Type}{G:Hp}:∀ {kvs:List (κ×Dt)} {ks:List (κ×V)},uE G kvs ks->ks.map (·.1)=kvs.map (·.1)
 | [],_,h=>by cases h;rfl
 | q::r,_,⟨v,s,e,_,h⟩=>by subst e;rw[aB,aB,uE.keys h]
def zqt:FL Pn true zkt ziY:=⟨by
 rintro A H xs ws n Q R J b P ⟨kvs,Z,h⟩ k;subst Z;obtain⟨v,r,rfl,b1,b2⟩:=b;cases b2;obtain⟨ad,ks,rfl,F,I⟩:=b1;show⟨ad,ks,rfl,F,λO ys q p H' U g S=>?_⟩;rw[I.keys] at O q;have B:=J.stay (zu.same S);have Y:=q.stay (zu.same S);show k _ n _ H' (h O) (Val.of ⟨p,ys,rfl,zr (J.new U) g,uH B.noT (yq _) Y⟩) (Go.same P S) λ_=>⟨p,rfl,.of U,p,ys,rfl,g,uH (λb xs z e=>?_) (yq _) Y⟩;rcases z with z | z;exact B.noT b xs z e;subst z;rw[g] at e;cases e⟩
def zoz(D:DfnD X.K X.mg x st ps ds fA fd)(G:FnOk X.prog X.w X.K X.mg X.base CX0 j fA fd ps (spV k fr F))(O:Room J X.A)(U:JA X Pn M (e::es) fs)(q:j<=J:=by ext)(Y:Gl X x:=by rfl)(B:Ah x:=by ext)(Z:starEach (e::es) X.env=(false,eval e X.env)::starEach es X.env:=by rfl)(I:(backTo pos (starEach es X.env)).any (·.1)=false:=by rfl) :
  JE X Pn M fr (.Call (.Name x p) (e::es) [] pos) (mFn k (F Pn) fs):=by
 obtain⟨ta,qa,ra⟩:=U.ex;exact⟨_,znA D G O qa q Y B Z I,zsG ra⟩
def zoS (i j:Nat):Ms:=λρ n k=>∃w,ρ[j]?=some (some w)/\k.nx ((ρ.set j none).set i (some w)) n
def zuV (i j:Nat)(fs:AC):Ms:=λρ n k=>fs ρ n λq m=>∃w u,q=[w,u]/\k.nx ((ρ.set i (some w)).set j (some u)) m
def zru {i j:Nat}{x y:Str}{fs:AC}{px F I:Pos}{kt k2 pt2}(Z:X.calm=true)(hN:X.N.Nodup)(hi:X.N[i]?=some x)(hj:X.N[j]?=some y)(hx:X.env.scope.names.lookup x=some .local)(hy:X.env.scope.names.lookup y=some .local)(ha:JA X Pn M [a,b] fs)(J:i≠j:=by ext)(O:i∉M:=by ext)(U:j∉M:=by ext)(aa:i∉S:=by ext)(ab:j∉S:=by ext)
  (hw:swappedStores [.Tuple [.Name x px,.Name y F] kt I] (.Tuple [a,b] k2 pt2) X.env=pure (some [x,y]):=by rfl)
  (hs:swapsWithSole [.Tuple [.Name x px,.Name y F] kt I] (.Tuple [a,b] k2 pt2) pos.line X.env=pure false:=by rfl) :
  JS X Pn S M fr (.Assign [.Tuple [.Name x px,.Name y F] kt I] (.Tuple [a,b] k2 pt2) pos) (zuV i j fs):=by
 obtain⟨ta,qa,ra⟩:=ha.ex;show⟨_,⟨zsp Z hN hi hj J hx hy qa.run hw hs⟩,⟨λB A σ H ρ n k D a kk hf=>?_⟩⟩;show ra.run A σ H ρ n _ _ a.env a.pn hf  ?_;rintro ws m vs H1 ⟨w,u,e,r⟩ hv g;subst e;obtain⟨v,y,rfl,b1,b2⟩:=zqx hv;have Y:=a.step g;show⟨v,y,rfl,kk.nx A _ H1 _ m (EnvR.mineG Y ((Y.env.set O b1).set U b2) λq hq=>?_) r⟩;have qi:i≠q:=λz=>by right
 have qj:j≠q:=λz=>by right
 right
end
end L3
namespace L3
open L2
def zgk (n w:Nat):List.range ((n+1) * w)=List.range w++(List.range (n * w)).map (w+·):=by rw[gg,Nat.add_comm,List.range_add]
def zgH (w:Nat)(F:0<w):∀q:AF,(List.range (q.length * w)).map (λk=>q.getD (k / w) []++[((k % w:Nat):Int)])=xR q (zG w)
 | []=>by simp[xR]
 | r::q=>by
  have I:=zgH w F q;have e:xR (r::q) (zG w)=(zG w).map (λv=>r++[v])++xR q (zG w):=by unfold xR;rw[List.flatMap_cons]
  rw[e,aO,zgk,aH,aF,<- I];congr 1;unfold zG;rw[aF,aR];apply bL;intro k J;have B:=aQ.mp J;rw[gb B,Nat.mod_eq_of_lt B];rfl;apply bL;right
structure StOk (rm st:AG):Prop where
 len:st.length=rm.length
 box:∀b:Int,0<=b->b<rm.length->0<=zP st b/\zP st b<zP rm b
def ud:∀ (ns:AG),(∀n∈ns,1<=n)->((uF (ns.map zG)).length:Int)=zI ns:=by
 have:∀ (k:Nat) (ns:AG),ns.length=k->(∀n∈ns,1<=n)->((uF (ns.map zG)).length:Int)=zI ns:=by
  intro k
  induction k with
  | zero=>intro ns e _;rw[aY e];rfl
  | succ k B=>
   intro ns e h
   obtain⟨m,x,rfl⟩:∃m x,ns=m++[x]:=by
    have q:ns≠[]:=by intro z;rw[z] at e;cases e
    exact⟨ns.dropLast,ns.getLast q,(bu q).symm⟩
   rw[ao] at e;rw[aH,aB,et,y8,zcZ,yB,zbf];have h1:=B m (by simpa using e) λn hn=>h n (aT _ hn);have h2:=h x (aI _ (by simp));rw[dW,h1,eX (by lia)]
 right
def zkc:∀ {ns:AG},(∀n∈ns,1<=n)->1<=zI ns:=λ{ns} h=>by
 have h1:=ud ns h
 have:∀ (ns:AG) (a:Int),1<=a->(∀n∈ns,1<=n)->1<=ns.foldl (· * ·) a:=by
  intro ns
  induction ns with
  | nil=>intro a q _;exact q
  | cons n ns B=>
   intro a q hn;show B (a * n) ?_ λm F=>hn m (ar _ F);have:=hn n am;exact Int.le_trans (by ext) (Int.mul_le_mul q this (by ext) (by lia))
 exact this ns 1 (by ext) h
def zkd {ns:AG}(q:ns≠[])(h:∀n∈ns,2<=n):2<=zI ns:=by
 obtain⟨m,x,rfl⟩:∃m x,ns=m++[x]:=⟨ns.dropLast,ns.getLast q,(bu q).symm⟩;rw[yB];have h1:=zkc (ns:=m) λn hn=>by have:=h n (aT _ hn);lia
 have h2:=h x (aI _ (by simp));exact Int.le_trans (by simp) (Int.mul_le_mul h1 h2 (by ext) (by lia))
def zlA (a b:AG)(k:Nat):Wi:=⟨((List.range a.length).filter λi=>!decide (i=k)).map λi:Nat=>((i:Int),a.getD i 0),(k:Int),b.getD k 0,a.getD k 0⟩
def zlB {rm a b:AG}{k:Nat}(J:StOk rm a)(O:StOk rm b)(U:k<a.length)(F:a.getD k 0≠b.getD k 0):WishOk rm (zlA a b k):=by
 have Y:=J.len;have A:∀i:Nat,i<rm.length->0<=a.getD i 0/\a.getD i 0<zP rm (i:Int):=λi hi=>by have:=J.box (i:Int) (by lia) (by lia);rwa[zN] at this
 have Bb:∀i:Nat,i<rm.length->0<=b.getD i 0/\b.getD i 0<zP rm (i:Int):=λi hi=>by have:=O.box (i:Int) (by lia) (by lia);rwa[zN] at this
 have B:k<rm.length:=by lia
 show⟨⟨λq I=>?_,?_⟩,by change (0:Int)<=(k:Int);lia,by change (k:Int)<_;lia,λq I=>?_,(Bb k B).1,(Bb k B).2,(A k B).1,(A k B).2,λz=>F z.symm⟩;obtain⟨i,hi,rfl⟩:=aD.mp I;right;change List.Pairwise (λa b:Int×Int=>a.1<b.1) (((List.range a.length).filter λi=>!decide (i=k)).map λi:Nat=>((i:Int),a.getD i 0));rw[bS];show fS (R:=λi j:Nat=>i<j) (λ{i j} h=>?_) (List.Pairwise.filter _ List.pairwise_lt_range);grind;obtain⟨i,hi,rfl⟩:=aD.mp I;have:=(b7.mp hi).2;change (i:Int)≠(k:Int);grind
structure Wider (rm rm':AG):Prop where
 len:rm.length<=rm'.length
 box:∀b:Int,0<=b->b<rm.length->zP rm b<=zP rm' b
def Wider.giv {rm B:AG}(w:Wider rm B){g:List (Int×Int)}(h:Giv rm g):Giv B g:=by
 have I:=w.len;show⟨λq F=>?_,h.up⟩;have h1:=h.ok q F;have h2:=w.box q.1 h1.1 h1.2.1;grind
def Wider.wish {rm q:AG}(w:Wider rm q){x:Wi}(h:WishOk rm x):WishOk q x:=by have B:=w.len;have h2:=w.box x.b h.b0 h.b1;have F:=h.r1;have w1:=h.w1;have I:=h.b1;exact⟨w.giv h.giv,h.b0,by lia,h.apart,h.r0,by lia,h.w0,by lia,h.ne⟩
def zt5 (rm:AG)(bk:AW)(g:List (Int×Int)):AF:=(zuL rm g).filter λst=>decide (xS bk st (g.map (·.1))=[])
abbrev yP (bk:AW):Dt:=.tup (bk.map xM)
def xO (rm:AG)(bk:AW):Prop:=∀x∈bk,WishOk rm x
def zg8 (x:Wi):(xM x).noL=true:=by have h:=zo2 x.g;unfold xM;simp only[Dt.noL,Dt.noLs,eM,Bool.true_and] at h ⊢;exact h
abbrev F_bett:FV:=λ_ q n R=>∃rm bk st hs,q=[.d (stD rm),.d (yP bk),.d (stD st),.d (stD hs)]/\RoomOk rm/\xO rm bk/\st.length=rm.length/\R (.d (xN (yy bk st hs))) n
abbrev ztx:FV:=λ_ q n R=>∃rm bk g,q=[.d (stD rm),.d (yP bk),.d (zri g)]/\RoomOk rm/\xO rm bk/\Giv rm g/\R (.d (xN (zt5 rm bk g))) n
def xA (r:Nat):zet 0 r=(List.range r).map λk:Nat=>W.d (.int (k:Int)):=by
 unfold zet;right
def zbU{q:AF}(h:i<q.length):atI (q.map stD) (i:Int)=some (stD (q.getD i [])):=by
 show zex ?_;right
def zgy {ns:AG}(I:ns.length<=8)(q:∀m∈ns,2<=m/\m<=4)(k:Nat):(uF ((ns.take k).map zG)).length<=65536:=by
 have:=zk9 (cs:=ns.map zG) (by right) (λc B=>by obtain⟨m,F,rfl⟩:=aD.mp B;have:=q m F;rw[zbf];lia) k;right
def yQ{q:AF}(h:i<q.length):q.getD i []∈q:=by right
def zqL {L:AS}{a:Int}{G:Dt->Prop}(q:0<=a)(h1:a<L.length)(h:∀x∈L,G x):∃x,atI L a=some x/\G x:=by obtain⟨d,h2,B⟩:=zqM q h1;exact⟨d,h2,h d B⟩
def zpX (rm:AG):Bool:=decide (rm≠[]/\rm.length<=8/\(∀r∈rm,2<=r/\r<=4)/\zI rm<=256)
def yI(rm:AG)(e:d=stD rm)(h:zpX rm=true):∃rm,d=stD rm/\RoomOk rm/\zI rm<=256:=by obtain⟨h1,h2,q,B⟩:=bG h;exact⟨rm,e,⟨h1,h2,q⟩,B⟩
def zbn:∀ {rm:AG},(∀r∈rm,2<=r/\r<=4)->zI rm<=256->rm.length<=8:=λ{rm} B I=>by
 have:∀ (k:Nat) (rm:AG),rm.length=k->(∀r∈rm,2<=r/\r<=4)->(2:Int) ^ k<=zI rm:=by
  intro k
  induction k with
  | zero=>intro rm e _;rw[aY e];decide
  | succ k F=>
   intro rm e B
   obtain⟨m,x,rfl⟩:∃m x,rm=m++[x]:=by
    have q:rm≠[]:=by intro z;rw[z] at e;cases e
    exact⟨rm.dropLast,rm.getLast q,(bu q).symm⟩
   rw[ao] at e;have h1:=F m (by simpa using e) λn hn=>B n (aT _ hn);have h2:=B x (aI _ (by simp));rw[yB,Int.pow_succ];have J:(0:Int)<=2 ^ k:=Int.pow_nonneg (by ext);exact Int.mul_le_mul h1 h2.1 (by ext) (by lia)
 apply bX;intro hn;have h1:=this _ rm rfl B
 have h2:(2:Int) ^ 9<=2 ^ rm.length:=by
  have:(2:Nat) ^ 9<=2 ^ rm.length:=dz (by ext) (by lia)
  exact_mod_cast this
 grind
def ziQ {a b:AG}(B:a.length=b.length)(q:a≠b):∃k zy,((List.range a.length).filter λk=>!decide (a.getD k 0=b.getD k 0))=k::zy/\k<a.length/\a.getD k 0≠b.getD k 0:=by
 cases h:(List.range a.length).filter λk=>!decide (a.getD k 0=b.getD k 0) with
 | nil=>
  exfalso;apply q;apply dG B;right
 | cons k zy=>
  have F:k∈(List.range a.length).filter λk=>!decide (a.getD k 0=b.getD k 0):=by rw[h];simp
  obtain⟨h1,h2⟩:=b7.mp F;right
def StOk.snoc {rm st:AG}{w v:Int}(h:StOk rm st)(I:0<=v)(J:v<w):StOk (rm++[w]) (st++[v]):=by
 have O:=h.len;show⟨by right,λb q B=>?_⟩;rw[ao] at B;by_cases F:b<(rm.length:Int);rw[yj q (by lia),yj q F];exact h.box b q F
 have e:b=(rm.length:Int):=by
  have:b<(rm.length:Int)+1:=by simpa using B
  lia
 subst e;rw[xy,<- O,xy];exact⟨I,J⟩
def zh4 {sts q B:AF}{k w:Nat}(I:k<sts.length)(hN:sts.Nodup)(h1:q.Nodup)(h2:∀x∈q,∃a∈sts.take k,∃v:Int,0<=v/\v<w/\x=a++[v])(h3:q.length=k * w)(J:B.Perm ((List.range w).map λv:Nat=>sts.getD k []++[(v:Int)])) :
  (q++B).Nodup/\(∀x∈q++B,∃a∈sts.take (k+1),∃v:Int,0<=v/\v<w/\x=a++[v])/\(q++B).length=(k+1) * w:=by
 have O:sts.getD k []=sts[k]:=by simp[I]
 have ht:sts.take (k+1)=sts.take k++[sts[k]]:=zm (ax I)
 have U:∀x∈B,∃v:Int,0<=v/\v<w/\x=sts[k]++[v]:=λx F=>by
  obtain⟨v,hv,rfl⟩:=aD.mp (J.mem_iff.mp F);right
 have nB:B.Nodup:=by
  show J.nodup_iff.mpr ?_;change List.Pairwise _ _;rw[bS];show fS (λ{a b} h e=>h ?_) dF;have:=List.append_cancel_left e;grind
 have aa:sts[k]∉sts.take k:=λz=>by have Y:=hN;rw[<- aX k sts,bW I] at Y;exact (dy.mp Y).2.2 _ z _ am rfl
 show⟨dy.mpr ⟨h1,nB,λx F y hy e=>?_⟩,λx F=>?_,?_⟩;obtain⟨a,Z,v,_,_,rfl⟩:=h2 x F;obtain⟨u,_,_,rfl⟩:=U y hy;right;rw[ht];rcases au.mp F with z | z;obtain⟨a,Z,r⟩:=h2 x z;exact⟨a,aT _ Z,r⟩;obtain⟨v,r⟩:=U x z;exact⟨_,aI _ (by simp),v,r⟩;rw[ao,h3,J.length_eq,af,aE,gg]
def xG {α q:Type}(f:α->q)(l:List α)(lo hi:AQ):uw (l.map f) lo hi=(uw l lo hi).map f:=by
 unfold uw;right
def zfH {α:Type}{l:List α}{lo hi:AQ}{x:α}(h:x∈uw l lo hi):x∈l:=cF (bF h)
def uf {α:Type}(l:List α)(lo hi:AQ):(uw l lo hi).length<=l.length:=by unfold uw;rw[bm,eG];lia
def zqT {st:AG}{b w:Int}(q:0<=b):uw st none (some b)++[w]++uw st (some (b+1)) none=chg st b w:=by
 have h:=ziv st (w:=w) q;have B:zc0 (st.map V.int) none (some b)=(uw st none (some b)).map V.int:=by rw[<- xG];rfl
 have F:zc0 (st.map V.int) (some (b+1)) none=(uw st (some (b+1)) none).map V.int:=by rw[<- xG];rfl
 rw[B,F] at h;have I:(uw st none (some b)).map V.int++[V.int w]++(uw st (some (b+1)) none).map V.int=(uw st none (some b)++[w]++uw st (some (b+1)) none).map V.int:=by rw[aH,aH];rfl
 rw[I] at h;exact List.map_inj_right (by grind) |>.mp h
def zc9 {l:AF}(h:l.Nodup){k:Nat}(q:k+1<l.length):l.getD k []≠l.getD (k+1) []:=by have:=bE.mp h k (k+1) (by lia) q (by lia);simpa [show k<l.length by lia,q] using this
def xO.cut{rm:AG}(h:xO rm bk)(lo hi:AQ):xO rm (uw bk lo hi):=λx q=>h x (zfH q)
def xO.app{rm:AG}(h:xO rm bk)(h':xO rm q):xO rm (bk++q):=λx B=>(au.mp B).elim (h x) (h' x)
def xO.set{rm:AG}(h:xO rm bk)(q:WishOk rm x)(i:Nat):xO rm (bk.set i x):=λy B=>(List.mem_or_eq_of_mem_set B).elim (h y) λe=>e ▸ q
def xO.ins{rm:AG}(h:xO rm bk)(q:WishOk rm x)(i:Nat):xO rm (znd bk i x):=λy B=>by
 rcases au.mp B with z | z;exact h y (bF z);rcases aG.mp z with rfl | z;exact q;exact h y (cF z)
def zor {α q:Type}(f:α->q)(l:List α)(i:Nat)(x:α):znd (l.map f) i (f x)=(znd l i x).map f:=by
 unfold znd;right
def zoq {α:Type}(l:List α)(i:Nat)(x:α):(znd l i x).length=l.length+1:=by
 unfold znd;grind
def zdC (n:Nat):AG:=(List.range n).map λi:Nat=>(i:Int)
def zfd (n:Nat):zmy n=(zdC n).map Dt.int:=by unfold zmy zdC;rw[aF];rfl
def zb1{x:Int}(h:x∈zdC n):0<=x/\x<n:=by
 obtain⟨i,hi,rfl⟩:=aD.mp h;grind
def yS (n:Nat):(zdC n).length=n:=by unfold zdC;rw[af,aE]
def zb2 (n:Nat):(zdC n).Nodup:=by unfold zdC;change List.Pairwise _ _;rw[bS];exact fS (by grind) dF
def unI:Dt->Int
 | .int i=>i
 | _=>0
def zcm{xs:AG}(h:l.Perm (xs.map Dt.int)):∃ys:AG,l=ys.map Dt.int/\ys.Perm xs:=by
 show⟨l.map unI,?_,?_⟩;rw[aF];have:∀d∈l,(Dt.int ∘ unI) d=d:=λd q=>by obtain⟨x,_,rfl⟩:=aD.mp (h.mem_iff.mp q);rfl
 exact (List.map_id'' (f:=Dt.int ∘ unI) (l:=l) |> λ_=>(bL this).trans (List.map_id l)).symm;have:=h.map unI;rw[aF] at this;have e:xs.map (unI ∘ Dt.int)=xs:=(bL λ_ _=>rfl).trans (List.map_id xs);rwa[e] at this
def u8 {α:Type}(l:List α)(k:Nat):uw l none (some (k:Int))=l.take k:=by
 unfold uw;rw[HT.sIx_none,HT.sIx_nat,dC,Nat.sub_zero];grind
structure ParOk (rm:AG)(box:Int)(qs:AG):Prop where
 up:qs.Pairwise (· < ·)
 ok:∀q∈qs,0<=q/\q<rm.length/\q≠box
def ParOk.cut {rm:AG}{B:Int}{F:AG}(h:ParOk rm B F)(lo hi:AQ):ParOk rm B (uw F lo hi):=
 ⟨(h.up.drop).take,λq I=>h.ok q (zfH I)⟩
def zr4{rm:AG}{B ps I:AG}{t:AQ}(O:B.Perm (zdC rm.length))(U:k<B.length)(Y:ps.Perm (B.take k))(Z:I.Perm (uw ps none t))(hu:I.Pairwise (·<=·)):ParOk rm (B.getD k 0) I:=by
 have nb:B.Nodup:=O.nodup_iff.mpr (zb2 _);have np:ps.Nodup:=Y.nodup_iff.mpr (nb.sublist (cj _ _));have nq:I.Nodup:=Z.nodup_iff.mpr ((np.sublist (eh _ _)).sublist (cj _ _));have F:B.getD k 0=B[k]:=by simp[U]
 show⟨?_,λq J=>?_⟩;exact (List.Pairwise.and hu nq).imp λ{a b} h=>by obtain⟨h1,h2⟩:=h;lia
 have h1:q∈B.take k:=Y.mem_iff.mp (zfH (Z.mem_iff.mp J));have h2:=zb1 (O.mem_iff.mp (bF h1));show⟨h2.1,h2.2,λz=>?_⟩;have hd:=nb;rw[<- aX k B,bW U] at hd;exact (dy.mp hd).2.2 _ h1 _ am (by rw[z,F])
def zin:∀ (ns st:AG),st∈uF (ns.map zG)->StOk ns st:=by
 have:∀ (k:Nat) (ns:AG),ns.length=k->∀st,st∈uF (ns.map zG)->StOk ns st:=by
  intro k
  induction k with
  | zero=>
   intro ns e st q;rw[aY e] at q ⊢;rw[aq.mp q];exact⟨rfl,λb Y F=>absurd F (by simp;lia)⟩
  | succ k I=>
   intro ns e st q
   obtain⟨m,x,rfl⟩:∃m x,ns=m++[x]:=by
    have B:ns≠[]:=by intro z;rw[z] at e;cases e
    exact⟨ns.dropLast,ns.getLast B,(bu B).symm⟩
   rw[ao] at e;rw[aH,aB,et,y8] at q;obtain⟨r,J,q⟩:=List.mem_flatMap.mp q;obtain⟨v,O,rfl⟩:=aD.mp q;obtain⟨j,U,rfl⟩:=aD.mp O;have:=aQ.mp U;exact (I m (by simpa using e) r J).snoc (by lia) (by lia)
 right
def zol {rm:AG}{I:Int}{B st:AG}(h:ParOk rm I B)(hs:StOk (B.map (zP rm)) st):Giv rm (B.zip st)/\∀q∈B.zip st,q.1≠I:=by
 have O:=hs.len;rw[af] at O;have J:∀q∈B.zip st,q.1∈B:=λq F=>(eQ F).1;show⟨⟨λq F=>?_,?_⟩,λq F=>(h.ok _ (J q F)).2.2⟩;obtain⟨i,hi,e⟩:=bU.mp F;rw[List.getElem_zip] at e;rw[List.length_zip] at hi;have h1:=h.ok _ (J q F);have h2:=hs.box (i:Int) (by lia) (by grind);have U:zP st (i:Int)=q.2:=by rw[zN,<- e];simp[show i<st.length by lia]
 have Y:zP (B.map (zP rm)) (i:Int)=zP rm q.1:=by rw[zN,<- e];simp[show i<B.length by lia]
 right;have e:(B.zip st).map (·.1)=B:=List.map_fst_zip (by lia);have:=h.up;rw[<- e,bS] at this;exact this
def zhx:∀ (B st:AG),ziW (B.map Dt.int) (st.map Dt.int)=(B.zip st).map λq=>W.d (xK q)
 | [],_=>by cases ‹AG› <;> rfl
 | _::_,[]=>rfl
 | q::B,s::st=>by change _::ziW (B.map Dt.int) (st.map Dt.int)=_::_;rw[zhx B st];rfl
def zkg {κ:Type}[DecidableEq κ](kvs:List (κ×Dt))(k:κ)(d:Dt):(zhk kvs k d).length<=kvs.length+1:=by
 unfold zhk;split
 all_goals right
def zc2 (bk:AW)(x:Wi)(st hs:AG):xS (bk++[x]) st hs=xS bk st hs++(if (zad st x&&!hs.contains x.b)=true then [chg st x.b x.r] else []):=by
 unfold xS;grind
def zc1 {ns:AG}:(Dt.lst (ns.map .int)).eqOk:=zax (ns:=ns)
def znX{st:AG}{b x:Int}(q:0<=b)(B:st.length<=1000)(h:Q (.d (stD (chg st b x))) n):zfK (.d (.tup (uw (st.map Dt.int) none (some b)))) (.d (.tup [.int x])) n λw m=>zfK w (.d (.tup (uw (st.map Dt.int) (some (b+1)) none))) m Q:=by
 have F:=uf st none (some b);have I:=uf st (some (b+1)) none;rw[xG,xG];show⟨_,_,rfl,rfl,by rw[af];exact aA (by simp;lia:_<=1001) (by ext),_,_,rfl,rfl,by rw[ao,af,af];exact aA (by simp;lia:_<=2001) (by ext),?_⟩;have e:(uw st none (some b)).map Dt.int++[Dt.int x]++(uw st (some (b+1)) none).map Dt.int=(chg st b x).map Dt.int:=by rw[<- zqT q,aH,aH];rfl
 rw[e];exact h
section
variable {X:Cx}{Pn:PN}{M S:AR}{fr fr':Bool}{e a b c:Expr}{es:AO}{f fa fb fc:AD}{pos p:Pos}
def zjR (t:Ev->Mo Bool)(fb:Ms):Ms:=λρ n k=>∃I:Nat->Ev->Nat->Prop,(∃m,I m ρ n)/\
 ∀m q O,I m q O->t q O λb U=>if b=true then fb q U { k with nx:=λB J=>∃F,F<m/\I F B J,ct:=λB J=>∃F,F<m/\I F B J,bk:=k.nx } else k.nx q U
def zdH {body:List Stmt}{t:Ev->Mo Bool}{fb:Ms}(hp:PassesOwn (model X.prog X.w) X.A X.env X.xe)(hc:JT X Pn M c t)(hb:JSs X Pn S M fr body fb):JS X Pn S M fr (.While c body [] pos) (zjR t fb):=by
 obtain⟨tc,qc,rc⟩:=hc.ex;obtain⟨tb,qb,rb⟩:=hb.ex;show⟨_,⟨zmk hp qc.run qb.run⟩,⟨ ?_⟩⟩;rintro B A σ H ρ n k D a kk ⟨I,⟨m0,i0⟩,it⟩;show⟨λm F H'=>∃A' q U,At3 Pn B S M A' F H' q U/\I m q U,⟨m0,A,ρ,n,a,i0⟩,?_⟩;rintro m F H' ⟨A',q,U,a',hI⟩;show rc.run A' F H' q U _ _ a'.env a'.pn (it m q U hI) λb n2 H2 r g=>?_;have a2:=a'.step g
 cases b with
 | false=>
  rw[if_neg (by ext)] at r ⊢;exact kk.nx A' F H2 q n2 a2 r
 | true=>
  rw[if_pos rfl] at r ⊢;show⟨λaa H3=>∃A' q U,At3 Pn B S M A' aa H3 q U/\∃O,O<m/\I O q U,λaa H3 ⟨A3,ab,n3,a3,O,hm,h⟩=>⟨O,hm,A3,ab,n3,a3,h⟩,?_⟩;show rb.run B A' F H2 q n2 { k with nx:=λY n3=>∃O,O<m/\I O Y n3,ct:=λY n3=>∃O,O<m/\I O Y n3,bk:=k.nx } _ a2 ⟨?_,?_,?_,kk.fc,?_⟩ r;exact λA4 Z H4 J n4 a4 r4=>⟨A4,J,n4,a4,r4⟩;exact λA4 Z H4 J n4 a4 r4=>kk.nx A4 Z H4 J n4 a4 r4;exact λA4 Z H4 J n4 a4 r4=>⟨A4,J,n4,a4,r4⟩;exact kk.rt
def zk2{t:Ev->Mo Bool}{fb:Ms}{ρ:Ev}{k:Kt}(I:Nat->Ev->Nat->Prop)(O:Nat)(Z:I O ρ n)(h:∀m q U,I m q U->t q U λb Y=>if b=true then fb q Y { k with nx:=λB J=>∃F,F<m/\I F B J,ct:=λB J=>∃F,F<m/\I F B J,bk:=k.nx } else k.nx q Y):zjR t fb ρ n k:=⟨I,⟨O,Z⟩,h⟩
end
end L3
namespace L2
open PyProof.Rows
section
variable {prog:Aa}{w:Ab}{A:Ae}{E:AA}{R:Result->AZ->Prop}{s:AZ}
variable {X:Cx}{pins:AB}{σ:St}{H:Hp}{a:Addr}{y v:V}{u r:Value}{o:Option V}
def ziK(hu:A.units+1<cLine)(I:Inv X pins σ H s)(g:zeq H a y v H')(ry:yd y u)(rv:yd v r)(h:∀s',Inv X pins σ H' s'->Q () s') :
  wpAny (model X.prog X.w) A (dictSet a u r) Q E s:=by
 rcases g with ⟨kvs,k,e,ey,l,eH⟩ | ⟨kvs,k,b,e,ey,eb,l,eH⟩;subst ey eH;obtain⟨z,O,vs,B,U⟩:=zn5 I.hok e;have Y:vs.length<=sizeLine:=by rw[<- B.length];exact z
 have Z:(uU kvs k v).length<=sizeLine:=by have:=xc kvs k v;lia
 show wpAny_dictSet_pairs (hsz:=Y) (zhM ry) U λh' F hs=>h _ ?_;have he:∃q,h'.get? a=some q:=let ⟨q,_,_,J,_⟩:=F;⟨q,J⟩;exact zbX I (by rw[e];exact True.intro) hs he (ziR Z O (B.put k rv) F);subst ey eH;cases (show u=Value.ref b from ry);obtain⟨z,O,xs,B,U⟩:=zq7 I.hok e;have Y:xs.length<=sizeLine:=by rw[<- fT B];exact z
 have Z:(uU kvs k v).length<=sizeLine:=by have:=xc kvs k v;lia
 show wpAny_dictSet_heap (hsz:=Y) (Nat.lt_of_succ_lt hu) (zeW I.hok eb) U λh' F hs=>h _ ?_;obtain⟨q,es,ep,J,h2,h3,h4,_,h5⟩:=F;show zbX I (by rw[e];exact True.intro) hs ⟨q,J⟩ ⟨Z,O,_,(B.put k eb rv).keeps λc ys ec=>?_,q,es,ep,J,h2,h3,h4,h5⟩;rw[ze (by grind)];exact ec
variable {Fam:Cx->Prop}{scope:Scope}{N:AM}{cix:List (Option Nat)}{z:Str}{use:Option (Value->Sem Unit)}{Qp:AA}{elt ke ve tg iter tg2 iter2:Expr}{ifs ifs2:AO}{pos ipos spos px:Pos}{wi wi2:TI}{g g2:TG}{ti ti2:TT}{te tk tv:TE}{Q:VK}{o0:HO}
end
end L2
namespace L3
open L2
section
variable {X:Cx}{Pn:PN}{M S:AR}{fr fr':Bool}{e a b c:Expr}{es:AO}{f fa fb fc:AD}{pos p:Pos}
def zu6 (ks:List (AG×V)):NP (dtO ks):=λ_ e=>by cases e
def zq6 (mg:W->Ev->(Ev->Prop)->Prop)(U:Ev->Mo Bool)(fk fv:AD)(J:Ev)(Q:AV):AU->Nat->Prop:=λl Y=>l.length<=lim/\∃I:Nat->Ev->Nat->List (AG×Dt)->Prop,I 0 J Y []/\
 (∀i w B F acc,l[i]?=some w->I i B F acc->mg w B λq=>U q F λb O=>if b=true then fk q O λy Z=>fv q Z λx n4=>∃st d,y = .d (stD st)/\x = .d d/\I (i+1) q n4 (zhk acc st d) else I (i+1) q O acc)/\
 ∀ B F acc,I l.length B F acc->Q (.dt acc) F
abbrev zuO (q:AC) (mg:W->Ev->(Ev->Prop)->Prop) (B:Ev->Mo Bool) (fk fv:AD) (cix:List (Option Nat)):AD:=λρ n Q=>q ρ n (zq6 mg B fk fv (zig ρ cix) Q)
def zq5 (mg:W->Ev->(Ev->Prop)->Prop)(U:Ev->Mo Bool)(fk fv:AD)(J:Ev)(Q:AV):AU->Nat->Prop:=λl Y=>l.length<=lim/\∃I:Nat->Ev->Nat->List (Key×Dt)->Prop,I 0 J Y []/\
 (∀i w B F acc,l[i]?=some w->I i B F acc->mg w B λq=>U q F λb O=>if b=true then fk q O λy Z=>fv q Z λx n4=>∃ (j:Int) (d:Dt),y = .d (.int j)/\x = .d d/\I (i+1) q n4 (zhk acc (Sum.inl j) d) else I (i+1) q O acc)/\
 ∀ B F acc,I l.length B F acc->Q (.dk acc) F
abbrev zuN (q:AC) (mg:W->Ev->(Ev->Prop)->Prop) (B:Ev->Mo Bool) (fk fv:AD) (cix:List (Option Nat)):AD:=λρ n Q=>q ρ n (zq5 mg B fk fv (zig ρ cix) Q)
end
abbrev onI (w:W) (P:Int->Prop):Prop:=match w with | .d (.int i)=>P i | _=>False
abbrev onB (w:W) (P:Bool->Prop):Prop:=match w with | .d (.bl i)=>P i | _=>False
abbrev onT (w:W) (P:AS->Prop):Prop:=match w with | .d (.tup i)=>P i | _=>False
abbrev onL (w:W) (P:AS->Prop):Prop:=match w with | .d (.lst i)=>P i | _=>False
abbrev onS (w:W) (P:AS->Prop):Prop:=match w with | .d (.lst i)=>P i | .d (.tup i)=>P i | _=>False
abbrev onD (w:W) (P:Dt->Prop):Prop:=match w with | .d i=>P i | _=>False
abbrev onK (w:W) (P:List (Key×Dt)->Prop):Prop:=match w with | .dk i=>P i | _=>False
abbrev onE (w:W) (P:List (AG×Dt)->Prop):Prop:=match w with | .dt i=>P i | _=>False
abbrev onO {α:Type} (o:Option α) (P:α->Prop):Prop:=match o with | some i=>P i | none=>False
abbrev onC (c:Bool) (A B:Prop):Prop:=match c with | true=>A | false=>B
abbrev on1 (l:AU) (P:W->Prop):Prop:=match l with | [a]=>P a | _=>False
abbrev on2 (l:AU) (P:W->W->Prop):Prop:=match l with | [a,b]=>P a b | _=>False
abbrev onV:Ev->Nat->(W->Prop)->Prop
 | [],_,_=>False
 | a::_,0,P=>onO a P
 | _::r,i+1,P=>onV r i P
abbrev onP:Ev->Nat->W->(Ev->Prop)->Prop
 | [],_,_,Q=>Q []
 | _::r,0,w,Q=>Q (some w::r)
 | a::r,i+1,w,Q=>onP r i w λq=>Q (a::q)
abbrev onN:Ev->Nat->(Ev->Prop)->Prop
 | [],_,Q=>Q []
 | _::r,0,Q=>Q (none::r)
 | a::r,i+1,Q=>onN r i λq=>Q (a::q)
abbrev zcM {α:Type}:Nat->List α->Prop->Prop
 | 0,[],P=>P
 | k+1,_::r,P=>zcM k r P
 | _,_,_=>False
def uQ{P:Int->Prop}:onI w P = ∃i,w = .d (.int i)/\P i:=propext ⟨λh=>by rcases w with (x|x|x|x|_|_) <;> first | exact False.elim h | (cases x <;> first | exact False.elim h | exact⟨_,rfl,h⟩),by right⟩
def zj1:onB w P = ∃i,w = .d (.bl i)/\P i:=propext ⟨λh=>by rcases w with (x|x|x|x|_|_) <;> first | exact False.elim h | (cases x <;> first | exact False.elim h | exact⟨_,rfl,h⟩),by rintro⟨i,e,h⟩;subst e;exact h⟩
def zcj:onT w P = ∃i,w = .d (.tup i)/\P i:=propext ⟨λh=>by rcases w with (x|x|x|x|_|_) <;> first | exact False.elim h | (cases x <;> first | exact False.elim h | exact⟨_,rfl,h⟩),by right⟩
def xz:onL w P = ∃i,w = .d (.lst i)/\P i:=propext ⟨λh=>by rcases w with (x|x|x|x|_|_) <;> first | exact False.elim h | (cases x <;> first | exact False.elim h | exact⟨_,rfl,h⟩),by right⟩
def zhb:onS w P = ∃i,(w = .d (.lst i)\/w = .d (.tup i))/\P i:=propext ⟨λh=>by rcases w with (x|x|x|x|_|_) <;> first | exact False.elim h | (cases x <;> first | exact False.elim h | exact⟨_,.inl rfl,h⟩ | exact⟨_,.inr rfl,h⟩),by rintro⟨i,e,h⟩;rcases e with e | e <;> subst e <;> exact h⟩
def xg:onD w P = ∃i,w = .d i/\P i:=propext ⟨λh=>by cases w <;> first | exact False.elim h | exact⟨_,rfl,h⟩,by right⟩
def zha{P:List (AG×Dt)->Prop}:onE w P = ∃i,w = .dt i/\P i:=propext ⟨λh=>by cases w <;> first | exact False.elim h | exact⟨_,rfl,h⟩,by right⟩
def zdb {α:Type}{w:Option α}{P:α->Prop}:onO w P = ∃i,w=some i/\P i:=propext ⟨λh=>by cases w <;> first | exact False.elim h | exact⟨_,rfl,h⟩,by right⟩
def zci{A B:Prop}:onC c A B=if c=true then A else B:=by cases c <;> simp[onC]
def zak:on1 l P = ∃a,l=[a]/\P a:=propext ⟨λh=>by rcases l with (_|⟨a,_|⟨b,l⟩⟩) <;> first | exact False.elim h | exact⟨_,rfl,h⟩,by right⟩
def znp:on2 l P = ∃a b,l=[a,b]/\P a b:=propext ⟨λh=>by rcases l with (_|⟨a,_|⟨b,_|⟨c,l⟩⟩⟩) <;> first | exact False.elim h | exact⟨_,_,rfl,h⟩,by right⟩
def x4:∀ {ρ:Ev} {i:Nat} {P:W->Prop},onV ρ i P = ∃w,ρ[i]?=some (some w)/\P w
 | [],i,P=>by simp[onV]
 | some w::r,0,P=>by simp[onV]
 | none::r,0,P=>by simp[onV]
 | some w::r,i+1,P=>by simpa [onV] using x4 (ρ:=r) (i:=i) (P:=P)
 | none::r,i+1,P=>by simpa [onV] using x4 (ρ:=r) (i:=i) (P:=P)
def yW:∀ {ρ:Ev} {i:Nat} {w:W} {Q:Ev->Prop},onP ρ i w Q=Q (ρ.set i (some w))
 | [],i,w,Q=>rfl
 | a::r,0,w,Q=>rfl
 | a::r,i+1,w,Q=>by rw[onP,yW];rfl
def znq:∀ {ρ:Ev} {i:Nat} {Q:Ev->Prop},onN ρ i Q=Q (ρ.set i none)
 | [],i,Q=>rfl
 | a::r,0,Q=>rfl
 | a::r,i+1,Q=>by rw[onN,znq];rfl
def zbL {α:Type}:∀ {k:Nat} {l:List α} {P:Prop},zcM k l P=(l.length=k/\P)
 | 0,[],P=>by simp[zcM]
 | 0,a::r,P=>by simp[zcM]
 | k+1,[],P=>by simp[zcM]
 | k+1,a::r,P=>by simp[zcM,zbL (l:=r)]
def xm {P:Prop}[Decidable P]{A B:Prop}(h1:P->A)(h2:¬ P->B):onC (decide P) A B:=by
 by_cases h:P
 all_goals right
def zl8 {P:Prop}[Decidable P]{A B:Prop}(h1:¬ P->A)(h2:P->B):onC (!decide P) A B:=by
 by_cases h:P
 all_goals right
def zl7{A B:Prop}(h1:c=true->A)(h2:c=false->B):onC c A B:=by
 cases c;exact h2 rfl;exact h1 rfl
def ze4{A B:Prop}(h1:c=false->A)(h2:c=true->B):onC (!c) A B:=by
 cases c;exact h1 rfl;exact h2 rfl
def zu8{A B:Prop}(h:c=true)(h1:A):onC c A B:=by subst h;exact h1
def zrP{A B:Prop}(h:c=false)(h1:B):onC c A B:=by subst h;exact h1
def zbd {α:Type}{o:Option α}{a:α}{P:α->Prop}(e:o=some a)(h:P a):onO o P:=by subst e;exact h
def onA{st:AG}{b:Int}(q:0<=b)(h1:b<st.length)(h:P (.int (zP st b))):onO (atI (st.map Dt.int) b) P:=zbd (znT q h1) h
def zl6 {L:AS}{a:Int}{P:Dt->Prop}(q:0<=a)(h1:a<L.length)(h:∀x∈L,P x):onO (atI L a) P:=by obtain⟨x,e,B⟩:=zqL q h1 h;exact zbd e B
section
variable {X:Cx}{Pn:PN}{M S:AR}{fr fr':Bool}{e a b c:Expr}{es:AO}{f fa fb fc g:AD}{pos p:Pos}{t u:Ev->Mo Bool}{fs gs:AC}
def wE (h:f=g)(j:JE X Pn M fr e f):JE X Pn M fr e g:=h ▸ j
def wB (h:f=g)(j:JB X Pn M e f):JB X Pn M e g:=h ▸ j
def wT (h:t=u)(j:JT X Pn M e t):JT X Pn M e u:=h ▸ j
def wW (h:t=u)(j:JW X Pn M e t):JW X Pn M e u:=h ▸ j
def wO {f g:Ev->Mo AQ}{e:Option Expr}(h:f=g)(j:JO X Pn M e f):JO X Pn M e g:=h ▸ j
def wG {f g:W->Ev->(Ev->Prop)->Prop}(h:f=g)(j:JG X S M e f):JG X S M e g:=h ▸ j
def wH {f g:AS->Ev->(Ev->Prop)->Prop}(h:f=g)(j:JGs X S M es f):JGs X S M es g:=h ▸ j
def wI(h:fs=gs)(j:JI X Pn M q tg e fs):JI X Pn M q tg e gs:=h ▸ j
def wS {s:Stmt}{f g:Ms}(h:f=g)(j:JS X Pn S M fr s f):JS X Pn S M fr s g:=h ▸ j
abbrev zk6 (i:Nat):AD:=λρ n Q=>onV ρ i λw=>Q w n
def zjQ:zrF i=zk6 i:=by funext ρ n Q;exact x4.symm
def kv (i:Nat){x:Str}(hi:i∉M:=by ext)(B:X.N[i]?=some x:=by rfl)(F:Vis X.env.scope x:=by walk_at "v")(I:Ah x:=by ext)
  (q:(x==("__classdict__" : Str))=false:=by ext):JE X Pn M false (.Name x pos) (zk6 i):=wE zjQ (zuH i hi B F I q)
def kb(i:Nat)(B:X.N[i]?=some x:=by rfl)(F:Vis X.env.scope x:=by walk_at "v")(I:Ah x:=by ext)(q:(x==("__classdict__" : Str))=false:=by ext):JB X Pn M (.Name x pos) (zk6 i):=wB zjQ (zuD i B F I q)
abbrev ztE (fa:AD):Ev->Mo Bool:=λρ n Q=>fa ρ n λx m=>onB x λc=>Q c m
def zl:znm fa=ztE fa:=by funext ρ n Q;simp only[znm,ztE,zj1]
abbrev dAnd (t u:Ev->Mo Bool):Ev->Mo Bool:=λρ n Q=>t ρ n λc m=>onC c (u ρ m Q) (Q false m)
def uj:ztH t u=dAnd t u:=by funext ρ n Q;simp only[ztH,dAnd,zci]
abbrev dOr (t u:Ev->Mo Bool):Ev->Mo Bool:=λρ n Q=>t ρ n λc m=>onC c (Q true m) (u ρ m Q)
def zjN:mOr t u=dOr t u:=by funext ρ n Q;simp only[mOr,dOr,zci]
abbrev dNot (t:Ev->Mo Bool):Ev->Mo Bool:=λρ n Q=>t ρ n λc m=>onC c (Q false m) (Q true m)
def za8:zuU t=dNot t:=by funext ρ n Q;simp only[zuU,dNot];congr 1;funext c m;cases c <;> rfl
abbrev zqU (fa fb:AD):AD:=λρ n Q=>fa ρ n λx m=>onB x λc=>onC c (fb ρ m Q) (Q (.d (.bl false)) m)
def zlU:zoP fa fb=zqU fa fb:=by funext ρ n Q;simp only[zoP,zqU,zci,zj1]
abbrev dOrV (fa fb:AD):AD:=λρ n Q=>fa ρ n λx m=>onB x λc=>onC c (Q (.d (.bl true)) m) (fb ρ m Q)
abbrev dNotV (fa:AD):AD:=λρ n Q=>fa ρ n λx m=>onB x λc=>Q (.d (.bl (!c))) m
abbrev dIf (t:Ev->Mo Bool) (fa fb:AD):AD:=λρ n Q=>t ρ n λc m=>onC c (fa ρ m Q) (fb ρ m Q)
abbrev dI (C:Int->Int->Prop) (g:Int->Int->Dt):W->W->Mo W:=λx y n Q=>onI x λi=>onI y λj=>C i j/\Q (.d (g i j)) n
def zn8 {C:Int->Int->Prop}{g:Int->Int->Dt}:fI C g=dI C g:=by funext x y n Q;simp only[dI,uQ];exact propext ⟨by rintro⟨i,j,q,B,h⟩;exact⟨i,q,j,B,h⟩,by rintro⟨i,q,j,B,h⟩;exact⟨i,j,q,B,h⟩⟩
abbrev dI0 (g:Int->Int->Dt):W->W->Mo W:=λx y n Q=>onI x λi=>onI y λj=>Q (.d (g i j)) n
def zeK {g:Int->Int->Dt}:fI0 g=dI0 g:=by funext x y n Q;simp only[dI0,uQ];exact propext ⟨by rintro⟨i,j,q,B,h⟩;exact⟨i,q,j,B,h⟩,by rintro⟨i,q,j,B,h⟩;exact⟨i,j,q,B,h⟩⟩
def zbg:F2 Pn false (rI0 λi j=>.int (i+j)) (dI0 λi j=>.int (i+j)):=zeK ▸ zvG
def zqr:F2 Pn false (rI0 λi j=>.int (i - j)) (dI0 λi j=>.int (i - j)):=zeK ▸ zvP
def zqo:F2 Pn false (rI zm0 λi j=>.int (i * j)) (dI zm0 λi j=>.int (i * j)):=zn8 ▸ zvN
def zti:F2 Pn false (rI zqA λi j=>.int (i / j)) (dI zqA λi j=>.int (i / j)):=zn8 ▸ ztt
def zqn:F2 Pn false (rI (λ_ j=>0<j) λi j=>.int (i % j)) (dI (λ_ j=>0<j) λi j=>.int (i % j)):=zn8 ▸ zvM
def ztW:F2 Pn false (rI0 λi j=>.bl (decide (i<j))) (dI0 λi j=>.bl (decide (i<j))):=zeK ▸ v_lt
def u_le:F2 Pn false (rI0 λi j=>.bl (decide (i<=j))) (dI0 λi j=>.bl (decide (i<=j))):=zeK ▸ v_le
def zvD:F2 Pn false (rI0 λi j=>.bl (decide (i > j))) (dI0 λi j=>.bl (decide (j<i))):=zeK ▸ v_gt
abbrev dNeg:W->Mo W:=λx n Q=>onI x λi=>Q (.d (.int (-i))) n
abbrev dEq:W->W->Mo W:=λx y n Q=>onD x λa=>onD y λb=>onO (sEq a b) λr=>Q (.d (.bl r)) n
def zra:fEq=dEq:=by
 funext x y n Q;simp only[fEq,dEq,xg,zdb];right
abbrev dNe:W->W->Mo W:=λx y n Q=>onD x λa=>onD y λb=>onO (sEq a b) λr=>Q (.d (.bl (!r))) n
def zrc:fNe=dNe:=by
 funext x y n Q;simp only[fNe,dNe,xg,zdb];right
def zfq:F2 Pn false rEq dEq:=zra ▸ v_eq
def zqG:F2 Pn false rNe dNe:=zrc ▸ v_ne
abbrev zt8:W->W->Mo W:=λx y n Q=>onD x λa=>onD y λb=>a.eqOk/\b.eqOk/\∀r:Bool,(r=true↔a=b)->Q (.d (.bl r)) n
abbrev zuk:W->W->Mo W:=λx y n Q=>onD x λa=>onD y λb=>a.eqOk/\b.eqOk/\∀r:Bool,(r=true↔a=b)->Q (.d (.bl (!r))) n
def zn7:zuq=zt8:=by
 funext x y n Q;simp only[zuq,zt8,xg];right
def zoe:zuv=zuk:=by
 funext x y n Q;simp only[zuv,zuk,xg];right
def zmQ:F2 Pn false ztR zt8:=zn7 ▸ zvH
def zvF:F2 Pn false ztT zuk:=zoe ▸ zvO
abbrev dIsB:W->W->Mo W:=λx y n Q=>onB x λa=>onB y λb=>Q (.d (.bl (a==b))) n
abbrev zud:W->W->Mo W:=λx y n Q=>onB x λa=>onB y λb=>Q (.d (.bl (a != b))) n
abbrev dInI:W->W->Mo W:=λx y n Q=>onI x λb=>onS y λl=>∃ns:AG,l=ns.map .int/\Q (.d (.bl (ns.contains b))) n
abbrev zfI:W->W->Mo W:=λx y n Q=>onI x λb=>onS y λl=>∃ns:AG,l=ns.map .int/\Q (.d (.bl (!ns.contains b))) n
def zhH:zfL=zfI:=by funext x y n Q;simp only[zfL,zfI,uQ,zhb];exact propext ⟨by rintro⟨a,b,q,B,h⟩;exact⟨a,q,_,B,b,rfl,h⟩,by rintro⟨a,q,l,B,b,e,h⟩;subst e;exact⟨a,b,q,B,h⟩⟩
def zmS:F2 Pn false (rIn K true) zfI:=zhH ▸ zmV
abbrev xr:Bool->Bool->Bool
 | false,b=>b
 | true,b=>!b
abbrev zub (q:Bool):W->W->Mo W:=λx y n Q=>onD x λd=>onS y λds=>d.eqOk/\(Dt.lst ds).eqOk/\∀b:Bool,(b=true↔d∈ds)->Q (.d (.bl (xr q b))) n
def zvT {q b:Bool}:(if q then !b else b)=xr q b:=by cases q <;> rfl
def zn9:zur q=zub q:=by
 funext x y n Q;simp only[zur,zub,xg,zhb,zvT];right
def zvE:F2 Pn false (zvq q) (zub q):=zn9 ▸ zvI
abbrev zqX:W->W->Mo W:=λx y n Q=>onT x λl=>onI y λi=>onO (atI l i) λd=>Q (.d d) n
abbrev zuh:W->W->Mo W:=λx y n Q=>onL x λl=>onI y λi=>onO (atI l i) λd=>Q (.d d) n
def zoc:zut=zqX:=by
 funext x y n Q;simp only[zut,zqX,zcj,uQ,zdb];right
def zob:zus=zuh:=by
 funext x y n Q;simp only[zus,zuh,xz,uQ,zdb];right
def ur:F2 Pn false (zqF K) zqX:=zoc ▸ zvK
def u6:F2 Pn false (ztS K) zuh:=zob ▸ zvJ
abbrev zn2:W->W->Mo W:=λx y n Q=>onT x λl=>onT y λm=>l.length+m.length<=lim/\Q (.d (.tup (l++m))) n
abbrev zn1:W->W->Mo W:=λx y n Q=>onL x λl=>onL y λm=>l.length+m.length<=lim/\Q (.d (.lst (l++m))) n
def zlw:zfK=zn2:=by
 funext x y n Q;simp only[zfK,zn2,zcj];right
def zlv:zn6=zn1:=by
 funext x y n Q;simp only[zn6,zn1,xz];right
def zaW:F2 Pn false (zmr K) zn2:=zlw ▸ zts
def zkT:F2 Pn true zpM zn1:=zlv ▸ ztr
abbrev dRepT:W->W->Mo W:=λx y n Q=>onT x λl=>onI y λj=>(1<=j/\j<=1000000/\l.length * j.toNat<=lim)/\Q (.d (.tup (List.replicate j.toNat l).flatten)) n
abbrev dRepL:W->W->Mo W:=λx y n Q=>onL x λl=>onI y λj=>(0<=j/\j<=1000000/\l.length * j.toNat<=lim)/\Q (.d (.lst (List.replicate j.toNat l).flatten)) n
def ws1:on1 q P = ∃a,q=[a]/\P a:=zak
abbrev zui:AU->Mo W:=λq n Q=>on1 q λx=>onO (lenD x) λk=>Q (.d (.int (k:Int))) n
def zod:zuu=zui:=by
 funext ws n Q;simp only[zuu,zui,zak,zdb];right
def uB:FL Pn false (λxs H Q=>∃x n,xs=[x]/\ztz K x H n/\Q (.int n) H) zui:=zod ▸ zvL
abbrev dAbs:AU->Mo W:=λq n Q=>on1 q λx=>onI x λi=>Q (.d (.int (if i<0 then -i else i))) n
abbrev dMin:AU->Mo W:=λq n Q=>on2 q λx y=>onI x λi=>onI y λj=>Q (.d (.int (if j<i then j else i))) n
abbrev dMax:AU->Mo W:=λq n Q=>on2 q λx y=>onI x λi=>onI y λj=>Q (.d (.int (if j > i then j else i))) n
abbrev dAll:AU->Mo W:=λB n Q=>on1 B λx=>onL x λl=>∃q:List Bool,l=q.map .bl/\Q (.d (.bl (q.all id))) n
abbrev zqY:AU->Mo W:=λq n Q=>on1 q λx=>onS x λl=>Q (.d (.lst l)) n
abbrev zm9:AU->Mo W:=λq n Q=>on1 q λx=>onS x λl=>Q (.d (.tup l)) n
def zsX:(∃l,(q=[.d (.lst l)]\/q=[.d (.tup l)])/\P l)=on1 q λx=>onS x P:=by
 simp only[zak,zhb];grind
def ztk:FL Pn true (zku K) zqY:=(show zrb=zqY by funext ws n Q;exact zsX) ▸ ztv
def ut:FL Pn false (zgj K) zm9:=(show znc=zm9 by funext ws n Q;exact zsX) ▸ zqw
abbrev dDictT:AU->Mo W:=λq n Q=>on1 q λx=>onT x λl=>∃ps:List (Int×Dt),l=ps.map prD/\(ps.map (·.1)).Nodup/\ps.length<=1000/\Q (.dk (ps.map kvD)) n
abbrev zn3:AU->Mo W:=λq n Q=>on1 q λx=>match x with
 | .d (.int i)=>Q (.d (.int i)) n
 | .d (.bl b)=>Q (.d (.int (if b then 1 else 0))) n
 | _=>False
def zlx:zoa=zn3:=by
 funext ws n Q;simp only[zoa,zn3,zak];show propext ⟨λh=>?_,λ⟨x,e,h⟩=>?_⟩;rcases h with ⟨i,e,h⟩ | ⟨i,e,h⟩;exact⟨_,e,h⟩;exact⟨_,e,h⟩;split at h;exact .inl ⟨_,e,h⟩;exact .inr ⟨_,e,h⟩;exact h.elim
def ztj:FL Pn false (λxs H Q=>(∃i,xs=[.int i]/\Q (.int i) H)\/∃k,xs=[.bl k]/\Q (.int (if k then 1 else 0)) H) zn3:=zlx ▸ ztu
abbrev ziI:AU->Mo W:=λB n Q=>on1 B λx=>onL x λl=>∃ns:AG,l=ns.map .int/\ns.length<64/\∀q:AG,q.Perm ns->q.Pairwise (·<=·)->Q (.d (.lst (q.map .int))) n
def zi1:zi0=ziI:=by funext ws n Q;simp only[zi0,ziI,zak,xz];exact propext ⟨by rintro⟨x,e,h⟩;exact⟨_,e,_,rfl,x,rfl,h⟩,by right⟩
def zqp:FL Pn true zkv ziI:=zi1 ▸ zqu
abbrev ziJ:AU->Mo W:=λB n Q=>on1 B λx=>onL x λl=>∃ (sts:AF) (m:Nat),l=sts.map stD/\1<=m/\(∀st∈sts,st.length=m)/\sts.Nodup/\∀q:AF,q.Perm sts->(q.Pairwise λa b=>HT.lexLt a b=true)->Q (.d (xN q)) n
def zi3:zi2=ziJ:=by funext ws n Q;simp only[zi2,ziJ,zak,xz];exact propext ⟨by rintro⟨x,m,e,h⟩;exact⟨_,e,_,rfl,x,m,rfl,h⟩,by right⟩
def zkV:FL Pn true zpP ziJ:=zi3 ▸ zqv
abbrev ziG:AU->Mo W:=λq n Q=>on1 q λx=>onE x λkvs=>((kvs.map (·.1)).Nodup->Q (.d (.lst ((kvs.map (·.1)).map stD))) n)
def ziZ:ziY=ziG:=by funext ws n Q;simp only[ziY,ziG,zak,zha];exact propext ⟨by right,by right⟩
def zkU:FL Pn true zkt ziG:=ziZ ▸ zqt
end
section
variable {fa fb fc f fk fd fv:AD}{t u:Ev->Mo Bool}{fs gs:AC}
abbrev zq0 (fa:AD):Ev->Mo AQ:=λρ n Q=>fa ρ n λx m=>onI x λi=>Q (some i) m
def xx:zoV fa=zq0 fa:=by funext ρ n Q;simp only[zoV,zq0,uQ]
abbrev dSlT (fa:AD) (fl q:Ev->Mo AQ):AD:=λρ n Q=>fa ρ n λx B=>fl ρ B λlo F=>q ρ F λhi I=>onT x λl=>Q (.d (.tup (uw l lo hi))) I
def zjP {fl q:Ev->Mo AQ}:zuY fa fl q=dSlT fa fl q:=by funext ρ n Q;simp only[zuY,dSlT,zcj]
abbrev dSlL (fa:AD) (fl q:Ev->Mo AQ):AD:=λρ n Q=>fa ρ n λx B=>fl ρ B λlo F=>q ρ F λhi I=>onL x λl=>Q (.d (.lst (uw l lo hi))) I
def za9 {fl q:Ev->Mo AQ}:zuX fa fl q=dSlL fa fl q:=by funext ρ n Q;simp only[zuX,dSlL,xz]
abbrev dRevT (fa:AD):AD:=λρ n Q=>fa ρ n λx m=>onT x λl=>Q (.d (.tup l.reverse)) m
abbrev zq2 (fa:AD):AD:=λρ n Q=>fa ρ n λx m=>onL x λl=>Q (.d (.lst l.reverse)) m
def zdN:zoX fa=zq2 fa:=by funext ρ n Q;simp only[zoX,zq2,xz]
abbrev dDGet (fd fk:AD):AD:=λρ n Q=>fd ρ n λx q=>fk ρ q λy B=>onK x λkvs=>onO (ztG y) λk=>onO (xW kvs k) λd=>Q (.d d) B
abbrev dDIn (q:Bool) (fk fd:AD):AD:=λρ n Q=>fk ρ n λy B=>fd ρ B λx F=>onK x λkvs=>onO (ztG y) λk=>Q (.d (.bl (xr q (xW kvs k).isSome))) F
abbrev dFn (k:Nat) (F:AU->Mo W) (fs:AC):AD:=λρ n Q=>fs ρ n λq m=>zcM k q (F q m Q)
def zn:mFn k F fs=dFn k F fs:=by funext ρ n Q;simp only[mFn,dFn,zbL]
abbrev dFnB (k:Nat) (fr:Bool) (F:AU->Mo W) (fs:AC):AD:=λρ n Q=>fs ρ n λq m=>zcM k q (F q m λw B=>W.flat fr w=true/\Q w B)
abbrev eN (i:Nat):W->Ev->(Ev->Prop)->Prop:=λw ρ Q=>onP ρ i w Q
def ye:gN i=eN i:=by funext w ρ Q;exact yW.symm
abbrev eNl:AS->Ev->(Ev->Prop)->Prop:=λds ρ Q=>match ds with | []=>Q ρ | _=>False
def zi6:gNl=eNl:=by
 funext ds ρ Q
 cases ds with
 | nil=>simp[gNl,eNl]
 | cons _ _=>simp[gNl,eNl]
abbrev eCn (g:W->Ev->(Ev->Prop)->Prop) (u:AS->Ev->(Ev->Prop)->Prop):AS->Ev->(Ev->Prop)->Prop:=λds ρ Q=>match ds with | d::r=>g (.d d) ρ λq=>u r q Q | []=>False
def zbk {g:W->Ev->(Ev->Prop)->Prop}{u:AS->Ev->(Ev->Prop)->Prop}:gCn g u=eCn g u:=by
 funext ds ρ Q
 cases ds with
 | nil=>simp[gCn,eCn]
 | cons d r=>exact propext ⟨by rintro⟨d',q,e,h⟩;cases e;exact h,λh=>⟨d,r,rfl,h⟩⟩
abbrev eTp (n:Nat) (u:AS->Ev->(Ev->Prop)->Prop):W->Ev->(Ev->Prop)->Prop:=λw ρ Q=>onT w λds=>zcM n ds (u ds ρ Q)
def zi7 {n:Nat}{u:AS->Ev->(Ev->Prop)->Prop}:gTp n u=eTp n u:=by funext w ρ Q;simp only[gTp,eTp,zcj,zbL]
abbrev zue (fa:AD):AC:=λρ n Q=>fa ρ n λx m=>onL x λl=>Q (l.map W.d) m
abbrev zug (fa:AD):AC:=λρ n Q=>fa ρ n λx m=>onT x λl=>Q (l.map W.d) m
def xJ:ztK fa=zue fa:=by funext ρ n Q;simp only[ztK,zue,xz]
def zcc:ztM fa=zug fa:=by funext ρ n Q;simp only[ztM,zug,zcj]
abbrev zuf (fs:AC):AC:=λρ n Q=>fs ρ n λq m=>on1 q λx=>onI x λj=>(j<=1000000/\-1000000<=j)/\Q (zet 0 j.toNat) m
def yM:ztL fs=zuf fs:=by funext ρ n Q;simp only[ztL,zuf,zak,uQ];congr 1;funext ws m;exact propext ⟨by right,by right⟩
abbrev dItR2 (fs:AC):AC:=λρ n Q=>fs ρ n λq m=>on2 q λx y=>onI x λi=>onI y λj=>(j<=1000000/\-1000000<=j/\i<=1000000/\-1000000<=i)/\Q (zet i (j - i).toNat) m
abbrev dItE (fs:AC):AC:=λρ n Q=>fs ρ n λq m=>on1 q λx=>onT x λl=>Q (enW 0 l) m
abbrev dItEL (fs:AC):AC:=λρ n Q=>fs ρ n λq m=>on1 q λx=>onL x λl=>Q (enW 0 l) m
abbrev dItZ (fs:AC):AC:=λρ n Q=>fs ρ n λq m=>on2 q λx y=>onT x λl=>onT y λk=>l.length=k.length/\Q (ziW l k) m
abbrev zqW (fs:AC):AC:=λρ n Q=>fs ρ n λq m=>on2 q λx y=>onL x λl=>onT y λk=>l.length=k.length/\Q (ziW l k) m
abbrev dItZL (fs:AC):AC:=λρ n Q=>fs ρ n λq m=>on2 q λx y=>onL x λl=>onL y λk=>Q (ziW l k) m
def zlV:zoR fs=zqW fs:=by funext ρ n Q;simp only[zoR,zqW,znp,zcj,xz];congr 1;funext ws m;exact propext ⟨by rintro⟨i,j,e,h⟩;exact⟨_,_,e,i,rfl,j,rfl,h⟩,by rintro⟨x,y,e,i,q,j,B,h⟩;subst q B;exact⟨i,j,e,h⟩⟩
abbrev dIfS (t:Ev->Mo Bool) (f g:Ms):Ms:=λρ n k=>t ρ n λc m=>onC c (blk f ρ m k) (blk g ρ m k)
def zB {f g:Ms}:zuQ t f g=dIfS t f g:=by funext ρ n k;simp only[zuQ,dIfS,zci]
abbrev zum (i:Nat):Ms:=λρ n k=>onV ρ i λw=>k.rt w n
def zg5:zoW i=zum i:=by funext ρ n k;exact x4.symm
abbrev dSet (i:Nat) (f:AD):Ms:=λρ n k=>f ρ n λw m=>onP ρ i w λq=>k.nx q m
def zo:zqC f (gN i)=dSet i f:=by change zqC f (gN i)=zqC f (eN i);rw[ye]
abbrev dOwn (i:Nat) (f:AD):Ms:=λρ n k=>f ρ n λw m=>onC (W.mut w) (onP ρ i w λρ'=>k.nx ρ' m) False
def yu:zrD i f=dOwn i f:=by funext ρ n k;simp only[zrD,dOwn,yW (Q:=λρ'=>k.nx ρ' _)];congr 1;funext w m;cases h:W.mut w <;> simp
abbrev dApp (i:Nat) (f:AD):Ms:=λρ n k=>onV ρ i λv=>onL v λl=>f ρ n λw m=>onD w λd=>l.length<lim/\onP ρ i (.d (.lst (l++[d]))) λq=>k.nx q m
def zdK:(onV ρ i λv=>onL v P) = ∃l,ρ[i]?=some (some (.d (.lst l)))/\P l:=by simp only[x4,xz];exact propext ⟨by right,by right⟩
def zq8{P:List (AG×Dt)->Prop}:(onV ρ i λv=>onE v P) = ∃l,ρ[i]?=some (some (.dt l))/\P l:=by simp only[x4,zha];exact propext ⟨by right,by right⟩
def zdL:ztI i f=dApp i f:=by
 funext ρ n k;simp only[ztI,dApp,zdK,xg,yW (Q:=λq=>k.nx q _)];show propext ⟨λ⟨⟨l,e⟩,h⟩=>⟨l,e,?_⟩,λ⟨l,e,h⟩=>⟨⟨l,e⟩,?_⟩⟩
 all_goals
  right
abbrev dExt (i:Nat) (f:AD):Ms:=λρ n k=>onV ρ i λv=>onL v λl=>f ρ n λw m=>onL w λB=>l.length+B.length<=lim/\onP ρ i (.d (.lst (l++B))) λq=>k.nx q m
def zjJ:zuP i f=dExt i f:=by
 funext ρ n k;simp only[zuP,dExt,zdK];simp only[xz,yW (Q:=λq=>k.nx q _)];show propext ⟨λ⟨⟨l,e⟩,h⟩=>⟨l,e,?_⟩,λ⟨l,e,h⟩=>⟨⟨l,e⟩,?_⟩⟩
 all_goals
  right
abbrev dIns (i:Nat) (fk f:AD):Ms:=λρ n k=>onV ρ i λv=>onL v λl=>fk ρ n λy m=>f ρ m λw B=>onD w λd=>onI y λj=>(0<=j/\j<=l.length/\l.length<lim)/\onP ρ i (.d (.lst (znd l j.toNat d))) λq=>k.nx q B
def zjL:zuR i fk f=dIns i fk f:=by
 funext ρ n k;simp only[zuR,dIns,zdK,xg,uQ,yW (Q:=λq=>k.nx q _)];show propext ⟨λ⟨⟨l,e⟩,h⟩=>⟨l,e,?_⟩,λ⟨l,e,h⟩=>⟨⟨l,e⟩,?_⟩⟩
 all_goals
  show (congrArg (fk ρ n) ?_).mp h;funext y m;show congrArg (f ρ m) ?_;funext w m2;show propext ?_;simp[e,and_assoc]
abbrev dPopS (i:Nat) (fk:AD):Ms:=λρ n k=>onV ρ i λv=>onL v λl=>fk ρ n λy m=>onI y λj=>(0<=j/\j<l.length/\l.length<=lim)/\onP ρ i (.d (.lst (l.eraseIdx j.toNat))) λq=>k.nx q m
abbrev ztD (i:Nat):Ms:=λρ n k=>onV ρ i λv=>onL v λl=>onP ρ i (.d (.lst l.reverse)) λq=>k.nx q n
abbrev dPut (i:Nat) (fk f:AD):Ms:=λρ n k=>onV ρ i λv=>onL v λl=>f ρ n λw m=>fk ρ m λy B=>onD w λd=>onI y λj=>(0<=j/\j<l.length)/\onP ρ i (.d (.lst (l.set j.toNat d))) λq=>k.nx q B
def zjO:zuW i fk f=dPut i fk f:=by
 funext ρ n k;simp only[zuW,dPut,zdK,xg,uQ,yW (Q:=λq=>k.nx q _)];show propext ⟨λ⟨⟨l,e⟩,h⟩=>⟨l,e,?_⟩,λ⟨l,e,h⟩=>⟨⟨l,e⟩,?_⟩⟩
 all_goals
  show (congrArg (f ρ n) ?_).mp h;funext y m;show congrArg (fk ρ m) ?_;funext w m2;show propext ?_;simp[e,and_assoc]
abbrev onSt (w:W) (P:AG->Prop):Prop:=∃st,w = .d (stD st)/\P st
abbrev dDGetT (fd fk:AD):AD:=λρ n Q=>fd ρ n λx q=>fk ρ q λy B=>onE x λkvs=>∃st,y = .d (stD st)/\onO (xW kvs st) λd=>Q (.d d) B
abbrev zm7 (i:Nat) (fk f:AD):Ms:=λρ n k=>onV ρ i λv=>onE v λkvs=>f ρ n λw m=>fk ρ m λy B=>onD w λd=>∃st,y = .d (stD st)/\kvs.length<lim/\onP ρ i (.dt (zhk kvs st d)) λq=>k.nx q B
def zaF:zjI i fk f=zm7 i fk f:=by
 funext ρ n k;simp only[zjI,zm7,zq8,xg,yW (Q:=λB=>k.nx B _)];show propext ⟨λ⟨⟨l,e⟩,h⟩=>⟨l,e,?_⟩,λ⟨l,e,h⟩=>⟨⟨l,e⟩,?_⟩⟩
 all_goals
  show (congrArg (f ρ n) ?_).mp h;funext y m;show congrArg (fk ρ m) ?_;funext w m2;show propext ?_;constructor
 rintro⟨kvs,st,d,q,F,I,h1,h2⟩;rw[e] at q;cases q;exact⟨d,F,st,I,h1,h2⟩;right;right;rintro⟨kvs,st,d,q,F,I,h1,h2⟩;rw[e] at q;cases q;exact⟨d,F,st,I,h1,h2⟩
abbrev zqZ (i j:Nat):Ms:=λρ n k=>onV ρ j λw=>onN ρ j λq=>onP q i w λB=>k.nx B n
def zlW:zoS i j=zqZ i j:=by funext ρ n k;simp only[zoS,zqZ,x4,yW (Q:=λq=>k.nx q _),znq (Q:=λB=>k.nx (B.set i (some _)) n)]
abbrev dPar (i j:Nat) (fs:AC):Ms:=λρ n k=>fs ρ n λF m=>on2 F λw u=>onP ρ i w λq=>onP q j u λB=>k.nx B m
def zoU:zuV i j fs=dPar i j fs:=by funext ρ n k;simp only[zuV,dPar,znp,yW (Q:=λq=>k.nx q _),yW (Q:=λB=>k.nx (B.set j (some _)) _)]
abbrev dIsi (B:Dt->Bool) (f:AD):AD:=λρ n Q=>f ρ n λw m=>onD w λd=>Q (.d (.bl (B d))) m
def zf2:zqD B f=dIsi B f:=by funext ρ n Q;simp only[zqD,dIsi,xg]
abbrev zgI (fs:AC):AD:=λρ n Q=>fs ρ n λq m=>on1 q λx=>onI x λj=>(0<=j/\j<=1000)/\Q (.d (.lst (zmy j.toNat))) m
abbrev zq4 (fs:AC):AD:=λρ n Q=>fs ρ n λq m=>on1 q λx=>onI x λj=>(0<=j/\j<=1000)/\Q (.d (.tup (zmy j.toNat))) m
def zsN {q:AU}{P:Nat->Prop}:(∃j:Nat,q=[.d (.int (j:Int))]/\j<=1000/\P j)=on1 q λx=>onI x λj=>(0<=j/\j<=1000)/\P j.toNat:=by simp only[zak,uQ];exact propext ⟨by rintro⟨j,e,h1,h⟩;exact⟨_,e,_,rfl,⟨by lia,by lia⟩,by simpa using h⟩,by rintro⟨x,e,j,B,⟨h1,h2⟩,h⟩;exact⟨j.toNat,by grind,by lia,h⟩⟩
def zcd:zdM fs=zgI fs:=by funext ρ n Q;simp only[zdM,zgI];congr 1;funext ws m;exact zsN (P:=λj=>Q (.d (.lst (zmy j))) m)
abbrev dTru (f:AD):Ev->Mo Bool:=λρ n Q=>f ρ n λw m=>onO (truD w) λb=>Q b m
abbrev dChain (F G:W->W->Mo W) (fa fb fc:AD):AD:=λρ n Q=>fa ρ n λx B=>fb ρ B λy I=>F x y I λz q=>onB z λk=>onC k (fc ρ q λu J=>G y u J Q) (Q (.d (.bl false)) q)
def zgE{α:Type}(xs:List α)(F:α->W)(hl:l=xs.map F)(U:xs.length<=lim)(I:Nat->Ev->Nat->AS->Prop)(h0:I 0 O n [])(h:∀i a q J acc,xs[i]?=some a->I i q J acc->∀C:Ev->Nat->AS->Prop,(∀ {ρ m l},I (i+1) ρ m l->C ρ m l)->mg (F a) q λB=>Y B J λb n2=>onC b (Z B n2 λx n3=>onD x λd=>C B n3 (acc++[d])) (C B n2 acc))(fin:∀ q J acc,I xs.length q J acc->Q (.d (.lst acc)) J):zdw mg Y Z O Q l n:=by
 show zlj xs F hl U I h0 (λi a q J acc ha hI C hC=>?_) fin;have:=h i a q J acc ha hI C hC;simp only[zci,xg] at this;exact this
def zdu{α:Type}(xs:List α)(F:α->W)(hl:l=xs.map F)(J:Ev->Prop)(P:α->Bool)(E:α->Dt)(O:xs.length<=lim)(j0:J I)(h:∀a∈xs,∀ B,J B->∀C:Ev->Nat->Option Dt->Prop,(∀ {q},P a=true->J q->C q n (some (E a)))->(∀ {q},P a=false->J q->C q n none)->mg (F a) B λq=>U q n λb Z=>onC b (Y q Z λx n3=>onD x λd=>C q n3 (some d)) (C q Z none))(fin:Q (.d (.lst ((xs.filter P).map E))) n):zdw mg U Y I Q l n:=by
 show ziy xs F hl J P E O j0 (λa ha B hj C hC=>?_) fin;have:=h a ha B hj C (λ{q} e z=>by right) λ{q} e z=>by have:=hC q z;rwa[if_neg (by rw[e];decide)] at this
 simp only[zci,xg] at this;exact this
def zbW{α:Type}(xs:List α)(F:α->W)(Y:l=xs.map F)(J:Ev->Prop)(E:α->Dt)(O:xs.length<=lim)(Z:J I)(h:∀a∈xs,∀ B,J B->∀C:Ev->Nat->Dt->Prop,(∀ {q},J q->C q n (E a))->mg (F a) B λq=>U q n λx n3=>onD x λd=>C q n3 d)(fin:Q (.d (.lst (xs.map E))) n):zdw mg ztO U I Q l n:=by
 show zlk xs F Y J E O Z (λa ha B hj C hC=>?_) fin;have:=h a ha B hj C λ{q} z=>hC q z;simp only[xg] at this;exact this
def znQ{t:Ev->Mo Bool}{fb:Ms}{ρ:Ev}{k:Kt}(I:Nat->Ev->Nat->Prop)(U:Nat)(Z:I U ρ n)(h:∀m q J,I m q J->∀ (C B:Ev->Nat->Prop) (E:AV),(∀ {ρ n} (F:Nat),F<m->I F ρ n->C ρ n)->(∀ {ρ n},k.nx ρ n->B ρ n)->(∀ {w n},k.rt w n->E w n)->t q J λb Y=>onC b (blk fb q Y { rt:=E,nx:=C,ct:=C,bk:=B }) (B q Y)):zjR t fb ρ n k:=by
 show zk2 I U Z λm q J hI=>?_;have:=h m q J hI (λO n3=>∃F,F<m/\I F O n3) k.nx k.rt (λF a b=>⟨F,a,b⟩) (λz=>z) λz=>z;simp only[zci,zqO] at this;exact this
end
abbrev rep:Nat->(Ev->Prop)->Prop
 | 0,Q=>Q []
 | k+1,Q=>rep k λρ=>Q (none::ρ)
abbrev beg:AU->Nat->(Ev->Prop)->Prop
 | [],r,Q=>rep r Q
 | w::q,r,Q=>beg q r λρ=>Q (some w::ρ)
def zkz:∀ {r:Nat} {Q:Ev->Prop},rep r Q=Q (List.replicate r none)
 | 0,Q=>rfl
 | r+1,Q=>by rw[rep,zkz];rfl
def zm4:∀ {q:AU} {r:Nat} {Q:Ev->Prop},beg q r Q=Q (q.map some++List.replicate r none)
 | [],r,Q=>by rw[beg,zkz];rfl
 | w::q,r,Q=>by rw[beg,zm4];rfl
def zno {P:Aa}{w:Ab}{K:AH}{mg:AI}{base:Heap}{I:Str}{st:Stmt}{f:Addr}{fd:Ac}{N ps:AM}{k m:Nat}{fr:Bool}{F:PN->AU->Mo W}(M:AR)(r:Nat)(U:(∀vs H Q E,spV m fr F vs H Q E->vs.length=ps.length)->(∀ (B:Value) (A:Ae) (q:List Env) (s:AZ) (H:Hp) (vs:AT) (Q:VK) (E:XK),Room k (A.deeper (PyProof.Rows.envOfC I (zc st) s.heap.objs.size f B))->spV m fr F vs H Q E->
   ∃t,QSs (zes CX0 P w K mg base N I (zc st) f B A q s H E).nox (zw st) t/\t { nx:=λ_ H'=>Q .non H',rt:=Q } (L2.xn N vs) H)->FnOk P w K mg base CX0 (k+1) f fd ps (spV m fr F)) (Y:m=ps.length) (Z:∀i∈M,m<=i) (hN:N.length=m+r)
  (J:∀ (B:Value) (A:Ae) (q:List Env) (s:AZ) (H:Hp) (E:XK) (Pn:PN),Room k (A.deeper (PyProof.Rows.envOfC I (zc st) s.heap.objs.size f B))->
   ∃fs,JSs (zes CX0 P w K mg base N I (zc st) f B A q s H E).nox Pn [] M fr (zw st) fs/\∀O n R,F Pn O n R->beg O r λρ=>fs ρ n { nx:=λ_ n'=>onC fr False (R (.d .non) n'),rt:=R }):FnOk P w K mg base CX0 (k+1) f fd ps (spV m fr F):=by
 show zrN M U Y Z λB A q s H E Pn hr=>?_;obtain⟨fs,h1,h2⟩:=J B A q s H E Pn hr;show⟨fs,h1,λO n R hl hF=>?_⟩;have:=h2 O n R hF;rw[zm4] at this;have e:zaS N O=O.map some++List.replicate r none:=by unfold zaS;rw[hN,hl,Nat.add_sub_cancel_left]
 grind
def Fun.okW(M:AR)(r:Nat)(Fu:Fun K x q st f fd)(S:FnScope N ps (zc st))(U:m=ps.length)(Y:∀i∈M,m<=i)(Z:N.length=m+r)(B:∀ (J:Value) (A:Ae) (I:List Env) (s:AZ) (H:Hp) (E:XK) (Pn:PN),Room k (A.deeper (PyProof.Rows.envOfC q (zc st) s.heap.objs.size f J))->
   ∃fs,JSs (zes CX0 P w K mg base N q (zc st) f J A I s H E).nox Pn [] M fr (zw st) fs/\∀O n R,F Pn O n R->beg O r λρ=>fs ρ n { nx:=λ_ n'=>onC fr False (R (.d .non) n'),rt:=R }):FnOk P w K mg base CX0 (k+1) f fd ps (spV m fr F):=zno M r (λl b=>Fun.okQ Fu S l b) U Y Z B
def FunD.okW(M:AR)(r:Nat)(Fu:FunD K x q st f fd)(S:FnScope N ps (zc st))(U:m=ps.length)(Y:∀i∈M,m<=i)(Z:N.length=m+r)(B:∀ (J:Value) (A:Ae) (I:List Env) (s:AZ) (H:Hp) (E:XK) (Pn:PN),Room k (A.deeper (PyProof.Rows.envOfC q (zc st) s.heap.objs.size f J))->
   ∃fs,JSs (zes CX0 P w K mg base N q (zc st) f J A I s H E).nox Pn [] M fr (zw st) fs/\∀O n R,F Pn O n R->beg O r λρ=>fs ρ n { nx:=λ_ n'=>onC fr False (R (.d .non) n'),rt:=R }):FnOk P w K mg base CX0 (k+1) f fd ps (spV m fr F):=zno M r (λl b=>FunD.okQ Fu S l b) U Y Z B
abbrev dItS (i:Nat):AC:=λρ n Q=>onV ρ i λx=>onS x λl=>Q (l.map W.d) n
def zjM:zuS (zk6 i)=dItS i:=by
 funext ρ n Q;simp only[zuS,xJ,zcc,zue,zug,dItS,x4,zhb,xz,zcj];grind
def zsK{fs:Ms}(h:rep r λρ=>fs (a::b::ρ) n k):fs (a::b::List.replicate r none) n k:=by rw[zkz] at h;exact h
def zu5 {G:Prop}(b:Nat)(P:Nat->Prop)(h:(∀a,a<=b->P a)->G)(r:∀a,a<=b->P a):G:=h r
def zrI {G:Prop}(P:W->Prop)(h:(∀a,P a)->G)(r:∀a,P a):G:=h r
def zrH {α:Type}{G:Prop}(C:α->Prop)(P:α->Prop)(h:(∀a,C a->P a)->G)(r:∀a,C a->P a):G:=h r
def zoO {st:AG}{x:Dt}(h:st.length<=1000):(st.map Dt.int).length+[x].length<=lim:=by rw[af];exact aA (by simp;lia:_<=1001) (by ext)
def zm6 {st:AG}{x:Int}:st.map Dt.int++[Dt.int x]=(st++[x]).map Dt.int:=by right
def znY {st:AG}{b x:Int}(q:0<=b)(B:st.length<=1000):uw (st.map Dt.int) none (some b)++[Dt.int x]++uw (st.map Dt.int) (some (b+1)) none=(chg st b x).map Dt.int:=by
 have key:∀z:W,zfK (.d (.tup (uw (st.map Dt.int) none (some b)))) (.d (.tup [.int x])) 0 (λw m=>zfK w (.d (.tup (uw (st.map Dt.int) (some (b+1)) none))) m λw' _=>w' = .d (stD (chg st b x))):=λz=>znX q B rfl;obtain⟨l,m,F,I,_,J,O,U,Y,_,h⟩:=key (.d .non);grind
def zlh {st:AG}{b:Int}{x:Dt}(q:st.length<=1000):(uw (st.map Dt.int) none (some b)).length+[x].length<=lim:=by have:=uf (st.map Dt.int) none (some b);rw[af] at this;exact aA (by simp;lia:_<=1001) (by ext)
def zli{st:AG}{b c:Int}(q:st.length<=1000):(uw (st.map Dt.int) none (some b)++[x]).length+(uw (st.map Dt.int) (some c) none).length<=lim:=by have h1:=uf (st.map Dt.int) none (some b);have h2:=uf (st.map Dt.int) (some c) none;rw[af] at h1 h2;rw[ao];exact aA (by simp;lia:_<=2001) (by ext)
def scR (mg:W->Ev->(Ev->Prop)->Prop)(U:Ev->Mo Bool)(Y:AD)(J:Ev)(Q:AF->Nat->Prop):AU->Nat->Prop:=λl Z=>∃I:Nat->Ev->Nat->AF->Prop,I 0 J Z []/\
 (∀i w q F acc,l[i]?=some w->I i q F acc->mg w q λB=>U B F λb O=>if b=true then Y B O λx n3=>∃st,x = .d (stD st)/\I (i+1) B n3 (acc++[st]) else I (i+1) B O acc)/\
 (∀i q F acc ks,I i q F acc->List.Nodup ks->(∀z∈ks,z∈acc)->ks.length<300)/\
 ∀ q F acc ks,I l.length q F acc->List.Nodup ks->(∀z,z∈ks↔z∈acc)->Q ks F
abbrev zuZ (q:AC) (mg:W->Ev->(Ev->Prop)->Prop) (B:Ev->Mo Bool) (F:AD) (cix:List (Option Nat)):AD:=λρ n Q=>q ρ n (scR mg B F (zig ρ cix) λks I=>∃m,ks.length<64/\1<=m/\(∀st∈ks,st.length=m)/\∀l':AF,l'.Perm ks->(l'.Pairwise λa b=>HT.lexLt a b=true)->Q (.d (xN l')) I)
section
variable {X:Cx}{Pn:PN}{M S:AR}{fr fr':Bool}{pos p:Pos}
end
abbrev dGetI (fd fk q:AD):AD:=λρ n Q=>fd ρ n λx B=>onK x λkvs=>fk ρ B λy F=>q ρ F λz I=>onO (ztG y) λk=>onI z λi=>Q (.d ((xW kvs k).getD (.int i))) I
section
variable {X:Cx}{Pn:PN}{M:AR}{a b c:Expr}{fa fb fc:AD}{apos cpos:Pos}
end
end L3
namespace L2
open PyProof.Rows
section
variable {X:Cx}{e lo st:Expr}{te tl tk:TE}{pos p2:Pos}
end
end L2
namespace L3
open L2
abbrev dFromL (fa fl fk:AD):AD:=λρ n Q=>fa ρ n λx q=>onL x λl=>fl ρ q λy B=>onI y λc=>fk ρ B λz F=>onI z λk=>(0<=c/\1<=k)/\∀ys:AS,ys.Sublist (l.drop c.toNat)->Q (.d (.lst ys)) F
section
variable {X:Cx}{Pn:PN}{M:AR}{e lo st:Expr}{f fl fk:AD}{pos p2:Pos}
end
def zuy:HO:=.dK [(Sum.inr "at",.non)]
abbrev gone (H:Hp)(a:Addr):Hp:=L2.upd H a zuy
section
variable {X:Cx}{Pn:PN}{M S:AR}{fr fr':Bool}{pos p:Pos}
abbrev dGiv (i:Nat) (F:AU->Mo W) (f1 f2:AD):Ms:=λρ n k=>f1 ρ n λw1 m1=>f2 ρ m1 λw2 m2=>onV ρ i λw=>F [w1,w2,w] m2 λw' m'=>onC (W.mut w') (onP ρ i w' λρ'=>k.nx ρ' m') False
end
end L3
namespace L2
open PyProof.Rows PySem.W PySem.SeqAt
section
variable {X:Cx}
end
end L2
namespace L3
open L2
section
variable {X:Cx}{Pn:PN}{M S:AR}{fr fr':Bool}{e o:Expr}{f fo:AD}{pos p:Pos}
abbrev dLenK:AU->Mo W:=λq n Q=>on1 q λx=>onK x λkvs=>Q (.d (.int (kvs.length:Nat))) n
abbrev dListK:AU->Mo W:=λq n Q=>on1 q λx=>onK x λkvs=>∃ns:AG,kvs.map (·.1)=ns.map Sum.inl/\Q (.d (.lst (ns.map .int))) n
abbrev dIndex (fo f:AD):AD:=λρ n Q=>fo ρ n λx q=>onL x λl=>f ρ q λy B=>onI y λk=>∃ns:AG,l=ns.map .int/\k∈ns/\Q (.d (.int (ns.idxOf k:Nat))) B
abbrev zuj (f:AD):AD:=λρ n Q=>f ρ n λx q=>onL x λl=>∃ns:AG,l=ns.map .int/\ns.Nodup/\ns.length<=1000/\Q (.d (.int (ns.length:Nat))) q
end
end L3
namespace L2
def us_1 {α:Type}{us:List α}(h:us.length=1):∃a,us=[a]:=match us,h with | [a],_=>⟨a,rfl⟩
def us_2 {α:Type}{us:List α}(h:us.length=2):∃a b,us=[a,b]:=match us,h with | [a,b],_=>⟨a,b,rfl⟩
def us_3 {α:Type}{us:List α}(h:us.length=3):∃a b c,us=[a,b,c]:=match us,h with | [a,b,c],_=>⟨a,b,c,rfl⟩
def us_4 {α:Type}{us:List α}(h:us.length=4):∃a b c d,us=[a,b,c,d]:=match us,h with | [a,b,c,d],_=>⟨a,b,c,d,rfl⟩
open PyProof.Rows PySem.W PySem.Calls
end L2
namespace L3
open L2
section
variable {X:Cx}{Pn:PN}{M S:AR}{fr fr':Bool}{e a b c:Expr}{es:AO}{f fa fb fc:AD}{pos p:Pos}
end
def zji:∀ {q:List Bool} {xs:AT},IsL G (q.map .bl) xs->xs=q.map V.bl
 | [],_,h=>h
 | b::q,xs,h=>by obtain⟨x,r,rfl,h1,h2⟩:=h;have e:x = .bl b:=h1;rw[e,zji h2];rfl
def zjc:∀q:List Bool,inV (.bl b) (q.map V.bl)=q.contains b
 | []=>rfl
 | c::q=>by have:=zjc (b:=b) q;unfold inV at this ⊢;rw[aB,cR,this,List.contains_cons];cases b <;> cases c <;> rfl
def zgO:∀q:List Bool,(q.map V.bl).all zcF=true
 | []=>rfl
 | _::q=>by rw[aB,dl,zgO q];rfl
section
variable {Pn:PN}{K:AH}
abbrev dInB:W->W->Mo W:=λx y n Q=>onB x λb=>onL y λl=>∃q:List Bool,l=q.map .bl/\Q (.d (.bl (q.contains b))) n
end
end L3
namespace L2
open PyProof.Rows PySem.W PySem.Calls
section
variable {prog:Aa}{w:Ab}{A:Ae}{E:AA}{s:AZ}
variable {X:Cx}
end
end L2
namespace L3
open L2
section
variable {X:Cx}{Pn:PN}{M S:AR}{fr fr':Bool}{pos p:Pos}{e:Expr}{f:AD}
abbrev dSAdd (P:Aa) (w:Ab) (i:Nat) (f:AD):Ms:=λρ n k=>onV ρ i λv=>∃ks,v = .ss P w ks/\f ρ n λx m=>∃st:AG,x = .d (stD st)/\ks.length<300/\
 ∀q:AF,(∀y,y∈q↔y=st\/y∈ks)->q.length<=ks.length+1->q.Nodup->onP ρ i (.ss P w q) λB=>k.nx B m
abbrev dSortS (P:Aa) (w:Ab):AU->Mo W:=λB n Q=>on1 B λx=>∃ (ks:AF) (m:Nat),x = .ss P w ks/\ks.length<64/\1<=m/\(∀st∈ks,st.length=m)/\∀q:AF,q.Perm ks->(q.Pairwise λa b=>HT.lexLt a b=true)->Q (.d (xN q)) n
end
def zmI {α:Type}{p:List α->Prop}(q:p [])(hs:∀l x,p l->p (l++[x]))(l:List α):p l:=by
 have h:∀l:List α,p l.reverse:=λl=>by
  induction l with
  | nil=>exact q
  | cons x l B=>rw[cJ];exact hs _ _ B
 have:=h l.reverse;grind
def zgS {α:Type}(a b:List α)(i:Nat)(d:α)(h:i<a.length):(a++b).getD i d=a.getD i d:=by grind
def zlY:∀ {cs:AF} {st:AG},st∈uF cs↔st.length=cs.length/\∀i,i<cs.length->st.getD i 0∈cs.getD i []:=by
 intro cs;show zmI (p:=λcs=>∀ {st:AG},st∈uF cs↔st.length=cs.length/\∀i,i<cs.length->st.getD i 0∈cs.getD i []) ?_ ?_ cs;intro st;simp[uF,List.length_eq_zero_iff];intro cs c I st;rw[y8];unfold xR;rw[List.mem_flatMap];constructor;rintro⟨r,J,h⟩;obtain⟨w,O,rfl⟩:=aD.mp h;obtain⟨h1,h2⟩:=I.mp J;show⟨by simp[h1],λi hi=>?_⟩;simp at hi;by_cases e:i=cs.length;right;grind;rintro⟨h1,h2⟩;simp at h1;have q:st≠[]:=λz=>by rw[z] at h1;simp at h1
 have F:=bu q;have B:st.dropLast.length=cs.length:=by simp[h1]
 show⟨st.dropLast,I.mpr ⟨B,λi hi=>?_⟩,aD.mpr ⟨st.getLast q,?_,F⟩⟩;have:=h2 i (by simp;omega);rw[zgS _ _ _ _ hi] at this;rw[<- F,zgS _ _ _ _ (by omega)] at this;exact this;have:=h2 cs.length (by simp);rw[<- F] at this;have e:(st.dropLast++[st.getLast q]).getD cs.length 0=st.getLast q:=by simp[<- B]
 right
def zgA {rm:AG}(q:RoomOk rm):((uF (rm.map zG)).length:Int)=zI rm:=by
 have:=zdi (rr:=rm.reverse) λm B=>by have:=q.box m (cB.mp B);omega
 rw[zmz,af,aE,this,List.reverse_reverse]
def dr{zP:Int}(q:uc K Pn p)(h:∀r,0<=r->r<zP->Q (.d (.int r)) (n+1))(hn:n<=1000000:=by lia)(h1:1<=zP:=by lia)(h2:zP<1073741824:=by lia):zij K Pn [.pen p,.d (.int zP)] n Q:=⟨p,zP,q,rfl,hn,h1,h2,h⟩
def zc8 {m b:Int}:b∈zG m↔0<=b/\b<m:=by
 unfold zG;rw[aD];constructor;rintro⟨k,q,rfl⟩;grind;rintro⟨B,h1⟩;exact⟨b.toNat,aQ.mpr (by lia),by lia⟩
def zu4 {α q:Type}{G:Prop}(C:α->q->Prop)(P:α->q->Prop)(h:(∀a b,C a b->P a b)->G)(r:∀a b,C a b->P a b):G:=h r
end L3
namespace L3
open L2
def zkJ {rm st:AG}(h:StOk rm st):st∈uF (rm.map zG):=by
 rw[zlY];have q:=h.len;show⟨by grind,λi hi=>?_⟩;rw[af] at hi;have e:(rm.map zG).getD i []=zG (rm.getD i 0):=by simp[hi]
 rw[e,zc8];have:=h.box (i:Int) (by lia) (by lia);rw[zN,zN] at this;exact this
def zoY {l:AF}{st:AG}:(Dt.tup (st.map Dt.int)∈l.map stD)↔st∈l:=by
 constructor;intro z;obtain⟨s,hs,e⟩:=aD.mp z;have:s=st:=List.map_inj_right (by grind) |>.mp (Dt.tup.inj e);grind;exact λz=>aD.mpr ⟨_,z,rfl⟩
def zmL {rm st:AG}{b x:Int}(h:StOk rm st)(q:0<=b)(J:b<rm.length)(O:0<=x)(U:x<zP rm b):StOk rm (chg st b x):=by
 have F:=h.len;show⟨by rw[ziw q (by lia)];exact F,λc B I=>?_⟩;rw[znZ q (by lia) B];split;right;exact h.box c B I
end L3
namespace L3
open L2
def lpE (bk:AW)(q:Int)(st:AG):List (Int×Int):=(lpF bk q st).map λr=>(r.getD 0 0,r.getD 1 0)
end L3
namespace L3
open L2
end L3
namespace L2
open PyProof.Rows PySem.W PySem.Calls
section
variable {X:Cx}{pins:AB}{σ:St}{H:Hp}{s:AZ}{a:Addr}
def Inv.frz {kvs:List (AG×V)}(I:Inv X pins σ H s)(h:H a=some (dtO kvs)):∃ob,Inv X pins σ (upd H a (.frz ob (dtO kvs))) s:=by obtain⟨z,lo,xs,r,o,es,F,h1,h2,J,O,U⟩:=(show ya X.prog X.w H s.heap a (.dT (zcG kvs)) from I.hok a _ h);show⟨o,I.write (x:=a) (e:=a) (h':=s.heap) (t':=s.toks) (by rw[h];trivial) (.inl rfl) (λ_ _ _ e=>e) ⟨o,h1⟩ ⟨h1,z,lo,xs,Paired.imp' (λp q y=>?_) r,o,es,F,h1,h2,J,O,U⟩⟩;obtain⟨Y,B,Z⟩:=y;exact⟨Y,by rw[ze (λy=>by rw[y,h] at B;cases B)];exact B,Z⟩
end
end L2
namespace L3
open L2
def zhg{ks:List (AG×V)}(h:uC Pn A n H)(q:H p=some (dtO ks)):uC Pn A n (L2.upd H p o):=by
 show⟨?_,Pn.J.frz h.2 q (zu6 _) rfl⟩;have h:=h.1;split at h;trivial;show⟨?_,h.2⟩;obtain⟨h1,_⟩:=h;obtain⟨a,l,B,g2⟩:=h1.ob;exact⟨⟨a,l,by rw[ze λz=>by rw[z,q] at B;cases B];exact B,g2⟩,h1.ls.but λ_ _ _ e=>by rw[ze λz=>by rw[z,q] at e;cases e];exact e,h1.len⟩
abbrev onZ (w:W) (P:List (AG×Dt)->Prop):Prop:=match w with | .df i=>P i | _=>False
def znr{P:List (AG×Dt)->Prop}:onZ w P = ∃i,w = .df i/\P i:=propext ⟨λh=>by cases w <;> first | exact False.elim h | exact⟨_,rfl,h⟩,by right⟩
section
variable {X:Cx}{Pn:PN}{M S:AR}{fr fr':Bool}{pos p:Pos}{e a b c:Expr}{f fa fb fc:AD}
abbrev dFrz (f:AD):AD:=λρ n Q=>f ρ n λx m=>onE x λkvs=>Q (.df kvs) m
abbrev dItF (fa:AD):AC:=λρ n Q=>fa ρ n λx m=>onZ x λkvs=>(kvs.map (·.1)).Nodup->Q (kvs.map λq=>W.d (stD q.1)) m
abbrev zua (fd fk:AD):AD:=λρ n Q=>fd ρ n λx q=>fk ρ q λy B=>onZ x λkvs=>∃st,y = .d (stD st)/\onO (xW kvs st) λd=>Q (.d d) B
def zm5{kvs:List (AG×Dt)}(h:Bor A H (.df kvs) v):∃q ks,v = .ref q/\Rd H q (dtO ks)/\uE (zL A H) kvs ks:=by obtain⟨q,ob,ks,e,h1,h2⟩:=h;exact⟨q,ks,e,.inr ⟨ob,h1⟩,h2⟩
def zbu.z {H:Hp}{a b:Addr}{kvs:List (AG×V)}{st:AG}(e:Rd H a (dtO kvs))(q:H b=some (.tup (st.map V.int))):zbu H a (.ref b) (xE kvs st):=
 .inr ⟨_,st.map Sum.inl,b,e,rfl,by rw[za7];exact q,(zdJ kvs st).symm⟩
def zoy (J:X.A.units+1<cLine)(O:JB X Pn M a fa)(U:JB X Pn M b fb)(hs:ztA b):JE X Pn M false (.Subscript a b pos) (zua fa fb):=by obtain⟨ta,Y,ra⟩:=O.ex;obtain⟨tb,Z,rb⟩:=U.ex;show⟨_,uo J Y Z hs,⟨λA σ H ρ n Q R E P hf k=>?_⟩⟩;show ra.run A σ H ρ n _ _ E P hf λw1 m1 v1 H1 r1 b1 B=>?_;show rb.run A σ H1 ρ m1 _ _ (E.stay B.st) B.pn r1 λw2 m2 v2 H2 q b2 g2=>?_;rw[znr] at q;obtain⟨kvs,rfl,st,rfl,q⟩:=q;rw[zdb] at q;obtain⟨d,e3,r⟩:=q;obtain⟨ad,ks,rfl,F,hk⟩:=zm5 (b1.stay g2.st);obtain⟨bd,xs,rfl,I,hx⟩:=ue b2;obtain rfl:=hx.of_ints;obtain⟨v,h1,h2⟩:=(hk.look (k:=st)).2 d e3;show⟨ad,v,rfl,?_,k _ m2 _ H2 r (Val.of h2) (B.trans g2) λz=>by cases z⟩;rw[<- h1];exact zbu.z F I
abbrev dGetFD (fd fk q:AD):AD:=λρ n Q=>fd ρ n λx B=>onZ x λkvs=>fk ρ B λy F=>q ρ F λz I=>∃st,y = .d (stD st)/\onD z λi=>Q (.d ((xW kvs st).getD i)) I
abbrev dDictL:AU->Mo W:=λB n Q=>on1 B λx=>∃kvs:List (AG×Dt),x = .d (.lst (kvs.map λq=>Dt.tup [stD q.1,q.2]))/\(kvs.map (·.1)).Nodup/\kvs.length<=lim/\Q (.dt kvs) n
end
abbrev lpD (bk:AW) (b:Int) (st:AG):Dt:=.lst ((lpE bk b st).map xK)
abbrev rowD (rm:AG) (bk:AW) (st:AG):Dt:=.lst ((List.range rm.length).map λb:Nat=>lpD bk (b:Int) st)
def ztq {l:AF}(h:Up' l):l.Nodup:=h.imp λh e=>by subst e;rw[yL] at h;cases h
def zfN {rm:AG}{g:List (Int×Int)}(h:Giv rm g):g.length<=rm.length:=by
 have:=uO (l:=g.map (·.1)) (l':=zG rm.length) (bS.mpr (h.up.imp λh e=>by lia)) λx B=>by obtain⟨q,F,rfl⟩:=aD.mp B;have:=h.ok q F;exact zc8.mpr ⟨this.1,this.2.1⟩
 rw[af,zbf] at this;lia
def zu3 {α q B:Type}{G:Prop}(C:α->q->B->Prop)(P:α->q->B->Prop)(h:(∀a b c,C a b c->P a b c)->G)(r:∀a b c,C a b c->P a b c):G:=h r
section
variable {X:Cx}{Pn:PN}{M S cM:AR}{fr fr':Bool}{e:Expr}{es:AO}{pos:Pos}{A:AL}{acc:Addr}{H1 H H':Hp}{σc σ:St}{ρc ρ:Ev}{n m:Nat}{ds:AS}
def inR (mg:W->Ev->(Ev->Prop)->Prop)(O:Ev->Mo Bool)(U:AD)(B:Ev)(F:AS)(K:Ev->Nat->AS->Prop):AU->Nat->Prop:=λl Y=>∃I:Nat->Ev->Nat->AS->Prop,I 0 B Y F/\
 (∀i w ρ n ds,l[i]?=some w->I i ρ n ds->mg w ρ λq=>O q n λb J=>if b=true then U q J λx Z=>∃d,x = .d d/\ds.length<=lim/\I (i+1) q Z (ds++[d]) else I (i+1) q J ds)/\
 ∀ ρ n ds,I l.length ρ n ds->K ρ n ds
def zqR (mg:W->Ev->(Ev->Prop)->Prop)(Y:Ev->Mo Bool)(B:AC)(F:W->Ev->(Ev->Prop)->Prop)(J:Ev->Mo Bool)(Z:AD)(O:Ev)(Q:AV):AU->Nat->Prop:=λl n1=>∃I:Nat->Ev->Nat->AS->Prop,I 0 O n1 []/\
 (∀i w ρ n ds,l[i]?=some w->I i ρ n ds->mg w ρ λq=>Y q n λb U=>if b=true then B q U (inR F J Z q ds (I (i+1))) else I (i+1) q U ds)/\
 ∀ ρ n ds,I l.length ρ n ds->Q (.d (.lst ds)) n
abbrev mComp2 (I:AC) (mg:W->Ev->(Ev->Prop)->Prop) (J:Ev->Mo Bool) (q:AC) (B:W->Ev->(Ev->Prop)->Prop) (F:Ev->Mo Bool) (O:AD) (cix:List (Option Nat)):AD:=λρ n Q=>I ρ n (zqR mg J q B F O (zig ρ cix) Q)
end
end L3
namespace L2
open PyProof.Rows PySem.W PySem.Calls
section
variable {X:Cx}{pins:AB}{σ:St}{H:Hp}{s:AZ}{a:Addr}
end
end L2
namespace L3
open L2
abbrev onY (w:W) (P:List (Key×Dt)->Prop):Prop:=match w with | .kf i=>P i | _=>False
section
variable {X:Cx}{Pn:PN}{M S:AR}{fr fr':Bool}{pos p:Pos}{e a b c:Expr}{f fa fb fc:AD}
abbrev dFrzK (f:AD):AD:=λρ n Q=>f ρ n λx m=>onK x λkvs=>Q (.kf kvs) m
abbrev dItK (fa:AD):AC:=λρ n Q=>fa ρ n λx m=>onY x λkvs=>∃ns:AG,kvs.map (·.1)=ns.map Sum.inl/\Q (ns.map λi=>W.d (.int i)) m
abbrev dGetY (fd fk:AD):AD:=λρ n Q=>fd ρ n λx q=>fk ρ q λy B=>onY x λkvs=>onI y λi=>onO (xW kvs (Sum.inl i)) λd=>Q (.d d) B
abbrev dListY:AU->Mo W:=λq n Q=>on1 q λx=>onY x λkvs=>∃ns:AG,kvs.map (·.1)=ns.map Sum.inl/\Q (.d (.lst (ns.map .int))) n
abbrev dRetT (f:AD) (i:Nat):Ms:=λρ n k=>f ρ n λw m=>onD w λd=>onV ρ i λx=>onL x λl=>k.rt (.d (.tup [d,.lst l])) m
end
end L3
namespace L2
open PyProof.Rows PySem.SeqAt
section
variable {prog:Aa}{w:Ab}{t:SetTable}{es:Array (Int×Value)}{xs:List (List Key×Addr)}{A:Ae}{E:AA}{s:AZ}
variable {X:Cx}
end
end L2
namespace L3
open L2
section
variable {X:Cx}{Pn:PN}{M S:AR}{fr fr':Bool}{pos p:Pos}{e o a b c:Expr}{es:AO}{f fo fa fc:AD}
abbrev dAug (F:Int->Int->Int) (i:Nat) (f:AD):Ms:=λρ n k=>onV ρ i λx=>onI x λa=>f ρ n λy m=>onI y λb=>onP ρ i (.d (.int (F a b))) λq=>k.nx q m
def zrt {i:Nat}{x:Str}{op:Operator}{F:Int->Int->Int}{pos':Pos}(hN:X.N.Nodup)(ho:PIp X op (ipI F))(he:JB X Pn M e f)(hi:X.N[i]?=some x:=by rfl)(hx:Loc X.env.scope x:=by first | exact Or.inl rfl | exact Or.inr rfl)(J:i∉M:=by ext)(Y:i∉S++M:=by ext)(I:X.fn x=true\/X.env.scope.names.lookup x=some .local:=by walk_at "l") :
  JS X Pn S M fr (.AugAssign (.Name x pos') op e pos) (dAug F i f):=by
 obtain⟨te,q,r⟩:=he.ex;show⟨_,⟨zsm hN hi hx q.run ho I⟩,⟨λB A σ H ρ n k D a kk I=>?_⟩⟩;simp only[dAug,x4,uQ,yW] at I;obtain⟨w0,e0,O,rfl,I⟩:=I;obtain⟨v,s1,s2,_⟩:=a.env.val i _ e0;obtain rfl:v = .int O:=(s2 J).is;show⟨_,s1,r.run A σ H ρ n _ _ a.env a.pn I ?_⟩;rintro y m v2 H1 ⟨U,rfl,r1⟩ b1 g1;obtain rfl:v2 = .int U:=yG b1;have a1:=a.step g1;exact⟨O,U,rfl,rfl,(zcr J Y).run A σ H1 ρ (.int (F O U)) (.d (.int (F O U))) _ (λZ=>k.nx Z m) a1.env (Val.of rfl) r1 λaa ab r2 E2 f2=>kk.nx A aa H1 ab m (EnvR.mineG a1 E2 f2) r2⟩
abbrev dAugT (F:Int->Int->Int) (i:Nat) (fk f:AD):Ms:=λρ n k=>onV ρ i λx=>onE x λkvs=>fk ρ n λy m=>∃st,y = .d (stD st)/\∃a,xW kvs st=some (.int a)/\f ρ m λw B=>onI w λb=>kvs.length<lim/\onP ρ i (.dt (zhk kvs st (.int (F a b)))) λq=>k.nx q B
abbrev dSetL (P:Aa) (w:Ab):AU->Mo W:=λq n Q=>on1 q λx=>∃sts:AF,x = .d (.lst (sts.map stD))/\(∀ks:AF,ks.Nodup->(∀z∈ks,z∈sts)->ks.length<300)/\∀ks:AF,ks.Nodup->(∀st,st∈ks↔st∈sts)->Q (.ss P w ks) n
abbrev dInS (P:Aa) (w:Ab):W->W->Mo W:=λx y n Q=>∃ (st:AG) (ks:AF),x = .d (stD st)/\y = .ss P w ks/\∀c:Bool,(c=true↔st∈ks)->Q (.d (.bl c)) n
abbrev dItEF (fa:AC):AC:=λρ n Q=>fa ρ n λq m=>on1 q λx=>onZ x λkvs=>(kvs.map (·.1)).Nodup->Q (enW 0 ((kvs.map (·.1)).map stD)) m
abbrev zuc (fo f:AD):AD:=λρ n Q=>fo ρ n λx q=>onL x λl=>f ρ q λy B=>onD y λd=>d.eqOk/\(Dt.lst l).eqOk/\d∈l/\∀j:Nat,l[j]?=some d->(∀i,i<j->l[i]?≠some d)->Q (.d (.int j)) B
abbrev snN:AU->(AU->Prop)->Prop
 | [],P=>P [.d .non]
 | a::r,P=>snN r λq=>P (a::q)
def znK:∀ {q:AU} {P:AU->Prop},snN q P=P (q++[.d .non])
 | [],P=>rfl
 | a::r,P=>by rw[snN,znK];rfl
def za0.non:∀ {q:AU} {vs:AT},za0 A H q vs->za0 A H (q++[.d .non]) (vs++[.non])
 | [],_,h=>by cases h;exact⟨_,_,rfl,Val.of rfl,rfl⟩
 | _::_,_,⟨v,r,e,h1,h2⟩=>by subst e;exact⟨v,_,rfl,h1,za0.non h2⟩
abbrev dFnD (k:Nat) (F:AU->Mo W) (fs:AC):AD:=λρ n Q=>fs ρ n λq m=>snN q λus=>zcM k us (F us m Q)
def zuE(D:DfnD X.K X.mg x st ps [Value.none] fA fd)(G:FnOk X.prog X.w X.K X.mg X.base CX0 j fA fd ps (spV k fr F))(O:Room q X.A)(U:JA X Pn M (e::es) fs)(B:j<=q:=by ext)(Y:Gl X x:=by rfl)(I:Ah x:=by ext)(Z:starEach (e::es) X.env=(false,eval e X.env)::starEach es X.env:=by rfl)(J:(backTo pos (starEach es X.env)).any (·.1)=false:=by rfl) :
  JE X Pn M fr (.Call (.Name x p) (e::es) [] pos) (dFnD k (F Pn) fs):=by
 obtain⟨ta,qa,ra⟩:=U.ex;show⟨_,zsx (dv:=[.non]) D (.cons rfl .nil) G O qa B Y I Z J,⟨λA σ H ρ n Q R E P hf q=>?_⟩⟩;show ra.run A σ H ρ n _ _ E P hf λws m vs H1 h b g=>?_;rw[znK,zbL] at h;exact⟨Pn,A,_,m,R,(E.stay g.st).al,b.non,h.1,g.pn,h.2,λw m' v H' h1 h2 h3 h4=>q w m' v H' h1 h2 (g.trans h3) λz=>(h4 z).back g.st⟩
end
end L3
namespace L2
open PyProof.Rows
section
variable {X:Cx}{pins:AB}{σ:St}{H G G':Hp}{s:AZ}{d l:Addr}{ob:Obj}{kvs:List (List Key×V)}
def DTo (P:Aa)(w:Ab)(G:Hp)(d:Addr)(ob:Obj)(kvs:List (List Key×V)):Prop:=kvs.length<=sizeLine/\(d==sysModules)=false/\∃xs:List (List Key×Addr×Value),
 Paired (λ(p:List Key×V) (q:List Key×Addr×Value)=>p.1=q.1/\G q.2.1=some (.tup (p.1.map kV))/\yd p.2 q.2.2) kvs xs/\∃es B,ob.ExactDict/\ob.data = .dict es B/\es.toList=xs.map (entryOfKey (tupleKind (zS P w)))/\(xs.map (·.1)).Nodup
def DTo.st(h:DTo P w G d ob kvs)(t:zfz G G'):DTo P w G' d ob kvs:=by obtain⟨z,lo,xs,r,q⟩:=h;exact⟨z,lo,xs,Paired.imp' (λp q y=>⟨y.1,t _ _ y.2.1,y.2.2⟩) r,q⟩
def Inv.thaw (I:Inv X pins σ H s)(h:H d=some (kO d ob))(D:DTo X.prog X.w H d ob kvs):Inv X pins σ (upd H d (.dT kvs)) s:=by obtain⟨z,lo,xs,r,es,B,h2,F,J,O⟩:=D;have h1:s.heap.get? d=some ob:=(show ya X.prog X.w H s.heap d (kO d ob) from I.hok d _ h).1;show I.write (x:=d) (e:=d) (h':=s.heap) (t':=s.toks) (by rw[h];trivial) (.inl rfl) (λ_ _ _ e=>e) ⟨ob,h1⟩ ⟨z,lo,xs,Paired.imp' (λp q y=>⟨y.1,?_,y.2.2⟩) r,ob,es,B,h1,h2,F,J,O⟩;rw[ze λe=>by have:=y.2.1;rw[e,h] at this;cases this];exact y.2.1
def Inv.keep (I:Inv X pins σ H s)(h:H d=some (.dT kvs)):∃ob,DTo X.prog X.w H d ob kvs/\s.heap.get? d=some ob/\Inv X pins σ (upd H d (kO d ob)) s:=by obtain⟨z,lo,xs,r,o,es,q,h1,h2,B,F,J⟩:=(show ya X.prog X.w H s.heap d (.dT kvs) from I.hok d _ h);exact⟨o,⟨z,lo,xs,r,es,q,h2,B,F,J⟩,h1,I.write (x:=d) (e:=d) (h':=s.heap) (t':=s.toks) (by rw[h];trivial) (.inl rfl) (λ_ _ _ e=>e) ⟨o,h1⟩ ⟨h1,⟨o,h1⟩,λh1 h2 p k=>k o p⟩⟩
def Inv.frzL(I:Inv X pins σ H s)(h:H l=some (.lst xs)):∃ob,Inv X pins σ (upd H l (.frz ob (.lst xs))) s:=by obtain⟨z,q,n,r,e⟩:=(show ya X.prog X.w H s.heap l (.lst xs) from I.hok l _ h);exact⟨_,I.write (x:=l) (e:=l) (h':=s.heap) (t':=s.toks) (by rw[h];trivial) (.inl rfl) (λ_ _ _ e=>e) ⟨_,e⟩ ⟨e,z,q,n,r,e⟩⟩
variable {e:Expr}{te:TE}
def ztd (P:Aa)(w:Ab)(te:TE):TE:=λσ H Q=>te σ H λx H1=>∃d ob kvs,H1 d=some (kO d ob)/\DTo P w H1 d ob kvs/\Q x (upd H1 d (.dT kvs))
def zpi (h:PE X e te):PE X e (ztd X.prog X.w te):=λpins s σ H Q I q=>thn (h pins s σ H _ I q) λu F ⟨x,H1,I1,r,d,ob,kvs,h1,h2,B⟩=>⟨x,_,I1.thaw h1 h2,r,B⟩
def zs5 (P:Aa)(w:Ab)(te:TE):TE:=λσ H Q=>te σ H λx H1=>∃d kvs,H1 d=some (.dT kvs)/\∀ob,DTo P w H1 d ob kvs->(∃h:Heap,h.get? d=some ob)->Q x (upd H1 d (kO d ob))
def zpd (h:PE X e te):PE X e (zs5 X.prog X.w te):=λpins s σ H Q I q=>thn (h pins s σ H _ I q) λu F ⟨x,H1,I1,r,d,kvs,h1,B⟩=>by obtain⟨ob,D,g,I2⟩:=I1.keep h1;exact⟨x,_,I2,r,B ob D ⟨_,g⟩⟩
def znO (P:Aa)(w:Ab)(t:TA):TA:=λσ H Q=>t σ H λvs H1=>∃d kvs,H1 d=some (.dT kvs)/\∀ob,DTo P w H1 d ob kvs->(∃h:Heap,h.get? d=some ob)->Q vs (upd H1 d (kO d ob))
def zo7(h:PA X es t):PA X es (znO X.prog X.w t):=λpos pins s σ H Q I q=>by show bH (h pos pins s σ H _ I q) ?_ λ_ _ x=>x;rintro us F ⟨vs,H1,I1,r,d,kvs,h1,B⟩;obtain⟨ob,D,g,I2⟩:=I1.keep h1;exact⟨vs,_,I2,r,B ob D ⟨_,g⟩⟩
def zs4 (te:TE):TE:=λσ H Q=>te σ H λx H1=>∃l xs,x = .ref l/\H1 l=some (.lst xs)/\∀ob,Q x (upd H1 l (.frz ob (.lst xs)))
def zpc (h:PE X e te):PE X e (zs4 te):=λpins s σ H Q I q=>thn (h pins s σ H _ I q) λu F ⟨x,H1,I1,r,l,xs,ex,h1,B⟩=>by obtain⟨ob,I2⟩:=I1.frzL h1;exact⟨x,_,I2,r,B ob⟩
end
end L2
namespace L3
open L2
def Sm (G G':Hp):Prop:=∀b o,G b=some o->imm o=true\/¬ NP o->G' b=some o
def Sm.t(h:Sm G G'):zfz G G':=λb xs e=>h b _ e (.inl rfl)
def zrL(h:∃h:Heap,h.get? d=some ob):¬ NP (kO d ob):=λn=>by have:=n [(Sum.inr "at",.non)] (by unfold kO pnK;dsimp only;rw[if_pos ⟨d,ob,h,rfl⟩]);cases this
structure LdI where
 P:Aa
 w:Ab
 C:Addr
 a:Addr
 dx:Addr
 d:Addr
 rm:AG
 bk:AW
 hs:AG
def LdE (L:LdI)(G:Hp)(q:AG×V):Prop:=StOk L.rm q.1/\∃B o xs,q.2 = .ref B/\G B=some (.frz o (.lst xs))/\IsL G ((yy L.bk q.1 L.hs).map stD) xs
structure LdG (L:LdI)(G:Hp):Prop where
 ex:∃ (x1 x2 x3:V) (ob:Obj) (ks:List (AG×V)),G L.a=some (.ins L.C L.dx [("room",x1),("wishes",x2),("held",x3),("known",.ref L.d)])/\G L.dx=some (.own L.a)/\Is G (stD L.rm) x1/\Is G (yP L.bk) x2/\zau G x3 L.hs/\
  G L.d=some (kO L.d ob)/\(∃h:Heap,h.get? L.d=some ob)/\DTo L.P L.w G L.d ob (zcG ks)/\∀q∈ks,LdE L G q
 room:RoomOk L.rm
 book:xO L.rm L.bk
def LdE.sm{q:AG×V}(h:LdE L G q)(s:Sm G G'):LdE L G' q:=by obtain⟨B,F,o,xs,h1,h2,I⟩:=h;exact⟨B,F,o,xs,h1,s _ _ h2 (.inl rfl),I.stayT s.t (yq _)⟩
def zau.stayT{hs:AG}(h:zau G v hs)(s:zfz G G'):zau G' v hs:=h.imp id λ⟨p,e,q⟩=>⟨p,e,s _ _ q⟩
def LdG.sm(h:LdG L G)(s:Sm G G'):LdG L G':=by
 obtain⟨⟨F,I,J,ob,ks,h1,h2,O,U,Y,Z,B,h8,h9⟩,hr,hb⟩:=h;have n1:(stD L.rm).noL=true:=by simpa [Dt.noL] using zaG L.rm
 have n2:(yP L.bk).noL=true:=by simpa [Dt.noL] using xZ L.bk
 exact⟨⟨F,I,J,ob,ks,s _ _ h1 (.inl rfl),s _ _ h2 (.inl rfl),O.stayT s.t n1,U.stayT s.t n2,zau.stayT Y s.t,s _ _ Z (.inr (zrL B)),B,h8.st s.t,λq hq=>(h9 q hq).sm s⟩,hr,hb⟩
def LdG.close{ks:List (AG×V)}(h:LdG L G)(s:∀b o,G b=some o->b≠L.d->G' b=some o)(e:G' L.d=some (kO L.d ob))(F:∃h:Heap,h.get? L.d=some ob)(D:DTo L.P L.w G' L.d ob (zcG ks))(q:∀q∈ks,LdE L G' q):LdG L G':=by
 obtain⟨⟨I,J,O,U,Y,h1,h2,Z,h4,h5,B,h7,h8,h9⟩,hr,hb⟩:=h;have n1:(stD L.rm).noL=true:=by simpa [Dt.noL] using zaG L.rm
 have n2:(yP L.bk).noL=true:=by simpa [Dt.noL] using xZ L.bk
 have t:zfz G G':=λb xs z=>s b _ z λy=>by subst y;rw[B] at z;cases z
 exact⟨⟨I,J,O,ob,ks,s _ _ h1 (λy=>by rw[y,B] at h1;cases h1),s _ _ h2 (λy=>by rw[y,B] at h2;cases h2),Z.stayT t n1,h4.stayT t n2,zau.stayT h5 t,e,F,D,q⟩,hr,hb⟩
def zeg (P:Aa)(w:Ab)(C:Addr):Sp:=λvs H Q _=>∃ (L:LdI) (st:AG) (q:Addr),vs=[.ref L.a,.ref q]/\L.P=P/\L.w=w/\L.C=C/\LdG L H/\StOk L.rm st/\H q=some (.tup (st.map V.int))/\
 ∀ (B:Addr) (o:Obj) (ys:AT) (H':Hp),H' B=some (.frz o (.lst ys))->IsL H' ((yy L.bk st L.hs).map stD) ys->LdG L H'->(∀b o,H b=some o->b≠L.d->H' b=some o)->Q (.ref B) H'
def ldF (q B F:V)(d:Addr):List (Str×V):=[("room",q),("wishes",B),("held",F),("known",.ref d)]
def zeh (C:Addr):Sp:=λvs H Q _=>∃ (a dx:Addr) (q B F:V),vs=[.ref a,q,B,F]/\H a=some (.ins C dx [])/\
 ∀ (d:Addr) (H':Hp),H d=none->H' a=some (.ins C dx (ldF q B F d))->H' d=some (.dT [])->(∀b o,H b=some o->b≠a->H' b=some o)->Q .non H'
def ldJ (L:LdI):Jv where
 K:=λA H=>LdG L (zL A H)
 same:=λh s=>h.sm λb o e _=>zb0 s b o e
 grow:=λ{A A' H} h g=>h.sm λb o e n=>by
  obtain⟨F,B⟩:=zp.mp e;show zr (λz=>?_) B;rcases g b z with q | ⟨o',q1,q2,q3⟩;exact F q;rw[B] at q1;cases q1;rcases n with n | n;rw[show imm o=false from q3] at n;cases n;exact n q2
 upd:=λ{A H p o} h I=>by rw[yg I];exact h
 frz:=λ{A H p o o'} h I J O=>h.sm λb u e n=>by
  obtain⟨F,B⟩:=zp.mp e
  have U:b≠p:=λz=>by
   subst z;rw[I] at B;cases B;rcases n with n | n;rw[show imm o=false from O] at n;cases n;exact n J
  exact zr F (by rw[ze U];exact B)
def zlT (q B F:V)(d:Addr):(ldF q B F d).lookup ("room" : Str)=some q:=by unfold ldF;rw[List.lookup,show (("room" : Str) == "room")=true by decide +kernel]
def zhN (B q F:V)(d:Addr):(ldF B q F d).lookup ("wishes" : Str)=some q:=by unfold ldF;rw[List.lookup,show (("wishes" : Str) == "room")=false by decide +kernel];dsimp only;rw[List.lookup,show (("wishes" : Str) == "wishes")=true by decide +kernel]
def zlS (B F q:V)(d:Addr):(ldF B F q d).lookup ("held" : Str)=some q:=by unfold ldF;rw[List.lookup,show (("held" : Str) == "room")=false by decide +kernel];dsimp only;rw[List.lookup,show (("held" : Str) == "wishes")=false by decide +kernel];dsimp only;rw[List.lookup,show (("held" : Str) == "held")=true by decide +kernel]
def zaC (q B F:V)(d:Addr):(ldF q B F d).lookup ("known" : Str)=some (.ref d):=by unfold ldF;rw[List.lookup,show (("known" : Str) == "room")=false by decide +kernel];dsimp only;rw[List.lookup,show (("known" : Str) == "wishes")=false by decide +kernel];dsimp only;rw[List.lookup,show (("known" : Str) == "held")=false by decide +kernel];dsimp only;rw[List.lookup,show (("known" : Str) == "known")=true by decide +kernel]
def zjy (q B F:V)(d:Addr):(ldF q B F d).lookup ("after" : Str)=none:=by unfold ldF;rw[List.lookup,show (("after" : Str) == "room")=false by decide +kernel];dsimp only;rw[List.lookup,show (("after" : Str) == "wishes")=false by decide +kernel];dsimp only;rw[List.lookup,show (("after" : Str) == "held")=false by decide +kernel];dsimp only;rw[List.lookup,show (("after" : Str) == "known")=false by decide +kernel];rfl
def zoN (q B F:V)(d:Addr):zbB "known" (.ref d) (zbB "held" F (zbB "wishes" B (zbB "room" q [])))=ldF q B F d:=by unfold ldF;simp only[zbB,if_neg (show ¬ ("room" : Str) = "wishes" by decide +kernel),if_neg (show ¬ ("room" : Str) = "held" by decide +kernel),if_neg (show ¬ ("room" : Str) = "known" by decide +kernel),if_neg (show ¬ ("wishes" : Str) = "held" by decide +kernel),if_neg (show ¬ ("wishes" : Str) = "known" by decide +kernel),if_neg (show ¬ ("held" : Str) = "known" by decide +kernel)]
def zaL (f:Str)(v:V):∀fs:List (Str×V),(zbB f v fs).length<=fs.length+1
 | []=>ak _
 | (g,x)::r=>by have:=zaL f v r;unfold zbB;split <;> simp <;> omega
structure LdC (K:AH)(C:Addr):Prop where
 cl:Cls K C
 n1:zaf K C "room"
 n2:zaf K C "wishes"
 n3:zaf K C "held"
 n4:zaf K C "known"
section
variable {K:AH}{P:Aa}{w:Ab}{C:Addr}{H:Hp}{Q:VK}{E:XK}{D:Ends}
def zmu(c:LdC K C)(h:zeh C vs H Q E)(J:∀ σ H',Q .non H'->D.nx σ H') :
  zqj (zsT K (zaU 0) (zaU 1) "room") (zqj (zsT K (zaU 0) (zaU 2) "wishes") (zqj (zsT K (zaU 0) (zaU 3) "held") (zsT K (zaU 0) znN "known"))) D (vs.map some) H:=by
 obtain⟨a,dx,U,Y,Z,rfl,O,k⟩:=h;show⟨_,rfl,_,rfl,a,C,dx,[],rfl,O,c.cl,c.n1,by ext,?_⟩;show⟨_,rfl,_,rfl,a,C,dx,_,rfl,zg,c.cl,c.n2,aZ (zaL _ _ _) (by ext),?_⟩;have I:∀x y:V,(zbB "wishes" x (zbB "room" y [])).length<=2:=λx y=>aA (zaL _ _ _) (dE (zaL _ _ _));show⟨_,rfl,_,rfl,a,C,dx,_,rfl,zg,c.cl,c.n3,aZ (I _ _) (by ext),?_⟩;rw[zen,zen];intro d F;have q:a≠d:=λe=>by rw[<- e,zg] at F;cases F
 have B:H d=none:=by rwa[ze q.symm] at F
 show⟨_,rfl,a,C,dx,_,rfl,by rw[ze q,zg],c.cl,c.n4,aZ (aA (zaL _ _ _) (dE (I _ _))) (by change 3<1000;decide),J _ _ ?_⟩;rw[zoN];show k d _ B zg (by rw[ze q.symm,zg]) λb o e n=>?_;rw[ze n,ze (zf e B),ze n];exact e
def zmj (ns:AG)(h:∀n∈ns,2<=n/\n<=4):zI ns<=4 ^ ns.length:=by
 have:∀ (ns:AG) (c:Int),0<=c->(∀n∈ns,2<=n/\n<=4)->ns.foldl (· * ·) c<=c * 4 ^ ns.length:=by
  intro ns
  induction ns with
  | nil=>intro c _ _;simp
  | cons n ns F=>
   intro c B h;obtain⟨h1,h2⟩:=h n am;have i:=F (c * n) (Int.mul_nonneg B (by omega)) λm I=>h m (ar _ I);have p:(0:Int)<=4 ^ ns.length:=Int.pow_nonneg (by ext);have q:c * n * 4 ^ ns.length<=c * 4 * 4 ^ ns.length:=Int.mul_le_mul_of_nonneg_right (Int.mul_le_mul_of_nonneg_left h2 B) p;rw[List.foldl_cons,aO,Int.pow_succ];have r:c * (4 ^ ns.length * 4)=c * 4 * 4 ^ ns.length:=by rw[Int.mul_comm (4 ^ ns.length) 4,Int.mul_assoc]
   omega
 have:=this ns 1 (by ext) h;unfold zI
 omega
def LdE.len{ks:List (AG×V)}(B:RoomOk L.rm)(h:∀q∈ks,LdE L G q)(n:(ks.map (·.1)).Nodup):ks.length<=65536:=by
 have h1:=uO (l':=uF (L.rm.map zG)) n λx F=>by obtain⟨q,I,rfl⟩:=aD.mp F;exact zkJ (h q I).1
 have h2:=ud L.rm λn hn=>by have:=B.box n hn;omega
 have J:=zmj L.rm B.box
 have O:(4:Int) ^ L.rm.length<=4 ^ 8:=by
  have:=B.few
  exact_mod_cast dz (by decide:0<4) this
 rw[af] at h1;have:(4:Int) ^ 8=65536:=by ext
 omega
def DTo.nd{ks:List (AG×V)}(h:DTo P w G d ob (zcG ks)):(ks.map (·.1)).Nodup:=by
 obtain⟨z,lo,xs,r,es,I,_,_,_,n⟩:=h
 have B:∀ {kvs:List (List Key×V)} {xs:List (List Key×Addr×Value)},Paired (λ(p:List Key×V) (q:List Key×Addr×Value)=>p.1=q.1/\G q.2.1=some (.tup (p.1.map kV))/\yd p.2 q.2.2) kvs xs->kvs.map (·.1)=xs.map (·.1):=by
  intro kvs xs h
  induction h with
  | nil=>rfl
  | cons a _ F=>rw[aB,aB,F,a.1]
 rw[<- B r] at n;unfold zcG at n;rw[aF] at n;have:(ks.map λq=>q.1.map (Sum.inl:Int->Key))=(ks.map (·.1)).map λl=>l.map Sum.inl:=by rw[aF];rfl
 rw[show ((λx:List Key×V=>x.1) ∘ λq:AG×V=>(q.1.map Sum.inl,q.2))=λq:AG×V=>q.1.map (Sum.inl:Int->Key) from rfl,this] at n;exact (bS.mp n).imp λh e=>h (by rw[e])
def zmW{ks:List (AG×V)}{st:AG}(h:xE ks st=some v):(st,v)∈ks:=by
 unfold xE at h;obtain⟨q,B,rfl⟩:=aL.mp h;have e:q.1=st:=by simpa using List.find?_some B
 subst e;exact List.mem_of_find?_eq_some B
def LdE.st{q:AG×V}(h:LdE L G q)(B:G L.d=some (kO L.d ob))(s:∀b o,G b=some o->b≠L.d->G' b=some o):LdE L G' q:=by obtain⟨F,I,o,xs,h1,h2,J⟩:=h;exact⟨F,I,o,xs,h1,s _ _ h2 (λz=>by rw[z,B] at h2;cases h2),J.stayT (λb ys e=>s b _ e λz=>by rw[z,B] at e;cases e) (yq _)⟩
def LdG.at(h:LdG L G):∃ (ra B:Addr) (xs:AT) (F:V) (ob:Obj) (ks:List (AG×V)),G L.a=some (.ins L.C L.dx (ldF (.ref ra) (.ref B) F L.d))/\G ra=some (.tup (L.rm.map V.int))/\BookAt G L.rm B xs L.bk/\zau G F L.hs/\
  G L.d=some (kO L.d ob)/\(∃h:Heap,h.get? L.d=some ob)/\DTo L.P L.w G L.d ob (zcG ks)/\∀q∈ks,LdE L G q:=by
 obtain⟨⟨x1,x2,F,ob,ks,h1,h2,⟨ra,ys,rfl,O,I⟩,⟨B,xs,rfl,U,J⟩,Y,Z,h7,h8,h9⟩,hr,hb⟩:=h;obtain rfl:=I.of_ints;exact⟨ra,B,xs,F,ob,ks,h1,O,⟨U,J,hb⟩,Y,Z,h7,h8,h9⟩
def zmt(c:LdC K C)(h:zeg P w C vs H Q E)(hD:D.rt=Q) :
  zqj (zvA (tB (zgp (zaU 1) (ztd P w (zqf K (zaU 0) "known")))) (zp2 (zqf K (zaU 0) "known") (zaU 1) (zs4 (zcP znL [] E' (zbD (zqf K (zaU 0) "room") (zbD (zqf K (zaU 0) "wishes") (zbD (zaU 1) (zbD (zqf K (zaU 0) "held") zqh))))))) zqg)
   (zta (zs5 P w (zqd (zqf K (zaU 0) "known") (zaU 1)))) D (vs.map some) H:=by
 obtain⟨L,st,sa,rfl,rfl,rfl,rfl,G,Z,B,k⟩:=h;subst hD;obtain⟨ra,ba,xs,x3,ob,ks,h1,h2,h3,h4,O,_,h6,h7⟩:=G.at;have aa:L.a≠L.d:=λe=>by rw[e,O] at h1;cases h1
 have ac:sa≠L.d:=λe=>by rw[e,O] at B;cases B
 have ad:H sa=some (.tup ((st.map Sum.inl).map kV)):=by rw[za7];exact B
 have U:∀o,upd H L.d o L.a=some (.ins L.C L.dx (ldF (.ref ra) (.ref ba) x3 L.d)):=λo=>by rw[ze aa];exact h1
 have I:zfz H (upd H L.d (.dT (zcG ks))):=λb ys e=>by rw[ze λz=>by rw[z,O] at e;cases e];exact e
 show⟨_,rfl,_,rfl,L.a,L.C,L.dx,_,_,rfl,h1,c.cl,c.n4,zaC _ _ _ _,L.d,ob,_,O,h6,L.d,_,rfl,zbu.t zg (I _ _ ad),_,rfl,?_⟩;rw[zdJ]
 cases e:xE ks st with
 | some v=>
  show zrn ?_;show⟨_,rfl,L.a,L.C,L.dx,_,_,rfl,U _,c.cl,c.n4,zaC _ _ _ _,_,rfl,L.d,v,rfl,by rw[<- e];exact zbu.i (st:=st) zg (I _ _ B),L.d,_,zg,λF D' hh=>?_⟩;rw[zen];have s:∀b o,H b=some o->b≠L.d->upd H L.d (kO L.d F) b=some o:=λb o e n=>by rw[ze n];exact e
  have G':LdG L (upd H L.d (kO L.d F)):=G.close s zg hh (ks:=ks) (D'.st λb ys e=>by
   have n:b≠L.d:=λz=>by rw[z,zg] at e;cases e
   rw[ze n] at e ⊢;exact e) λq J=>(h7 q J).st O s
  obtain⟨_,va,o,ys,e1,e2,e3⟩:=(h7 _ (zmW e)).st O s;obtain rfl:v = .ref va:=e1;exact k va o ys _ e2 e3 G' s
 | none=>
  show iteT ?_;have hR:=G.room;show⟨_,rfl,L.a,L.C,L.dx,_,_,rfl,U _,c.cl,c.n1,zlT _ _ _ _,_,rfl,L.a,L.C,L.dx,_,_,rfl,U _,c.cl,c.n2,zhN _ _ _ _,_,rfl,_,rfl,L.a,L.C,L.dx,_,_,rfl,U _,c.cl,c.n3,zlS _ _ _ _,?_⟩;show⟨.ref ra,x3,ba,sa,L.rm,xs,L.bk,st,L.hs,rfl,hR.pos,hR.few,⟨I _ _ h3.at',h3.is.stayT I (xZ _),h3.ok⟩,hR.box,I _ _ B,Z.len,zau.stayT h4 I,?_⟩;rintro l H2 nl ⟨ys,hl,ag⟩ S;show⟨l,ys,rfl,hl,λo=>?_⟩;have ab:L.d≠l:=zf zg nl;have al:H l=none:=by rwa[ze ab.symm] at nl
  have Y:yO (upd H L.d (.dT (zcG ks))) (upd H2 l (.frz o (.lst ys))):=λb u e=>by rw[ze (zf e nl)];exact S b u e
  show⟨_,rfl,L.a,L.C,L.dx,_,_,rfl,Y _ _ (U _),c.cl,c.n4,zaC _ _ _ _,_,rfl,L.d,_,rfl,zeq.i (st:=st) (Y _ _ zg) (Y _ _ (I _ _ B)) (aZ (LdE.len hR h7 (DTo.nd h6)) (by ext)),?_⟩;have e':xE (uU ks st (.ref l)) st=some (.ref l):=by rw[zmX,if_pos rfl]
  show⟨_,rfl,L.a,L.C,L.dx,_,_,rfl,by rw[ze aa];exact Y _ _ (U _),c.cl,c.n4,zaC _ _ _ _,_,rfl,L.d,.ref l,rfl,by rw[<- e'];exact zbu.i (st:=st) zg (by rw[ze ac];exact Y _ _ (I _ _ B)),L.d,_,zg,λF D' hh=>?_⟩;rw[zen];have s:∀b u,H b=some u->b≠L.d->upd (upd H2 l (.frz o (.lst ys))) L.d (kO L.d F) b=some u:=λb u e n=>by rw[ze n];exact Y b u (by rw[ze n];exact e)
  have el:upd (upd H2 l (.frz o (.lst ys))) L.d (kO L.d F) l=some (.frz o (.lst ys)):=by rw[ze ab.symm,zg]
  have ey:IsL (upd (upd H2 l (.frz o (.lst ys))) L.d (kO L.d F)) ((yy L.bk st L.hs).map stD) ys:=ag.stayT (λb zs e=>by
   have n1:b≠l:=λz=>by rw[z,hl] at e;cases e
   have n2:b≠L.d:=λz=>by rw[z,S _ _ zg] at e;cases e
   rw[ze n2,ze n1];exact e) (yq _)
  show k l o ys _ el ey (G.close s zg hh (ks:=uU ks st (.ref l)) (D'.st λb zs e=>?_) λq J=>?_) s;have n:b≠L.d:=λz=>by rw[z,zg] at e;cases e
  rw[ze n] at e ⊢;exact e;rw[zml _ e] at J;rcases au.mp J with J | J;exact (h7 q J).st O s;obtain rfl:=aq.mp J;exact⟨Z,l,o,ys,rfl,el,ey⟩
end
end L3
namespace L2
open PyProof.Rows PySem.SeqAt
section
variable {X:Cx}
end
end L2
namespace L3
open L2
def Pen.but{ns:AG}(h:Pen H p c ns n)(q:∀kvs,H d≠some (.dK kvs))(B:∀ob xs,H d≠some (.frz ob (.lst xs)))(s:∀b o,H b=some o->b≠d->H' b=some o):Pen H' p c ns n:=by obtain⟨⟨a,l,h1,h2⟩,F,I⟩:=h;exact⟨⟨a,l,s _ _ h1 (λz=>q _ (z ▸ h1)),h2⟩,(F.but λ_ _ _ e=>s _ _ e (λz=>B _ _ (z ▸ e))),I⟩
mutual
def zeQ {H H':Hp}(s:∀b o,H b=some o->(∀kvs,o≠.dT kvs)->H' b=some o):∀ {x:Dt} {v:V},Is H x v->Is H' x v
 | .non,_,h=>h
 | .bl _,_,h=>h
 | .int _,_,h=>h
 | .str _,_,h=>h
 | .tup l,_,h=>by obtain⟨p,xs,e,hp,hl⟩:=h;exact⟨p,xs,e,s _ _ hp (λ_ z=>by cases z),zfT s hl⟩
 | .lst l,_,h=>by obtain⟨p,xs,e,hp,hl⟩:=h;exact⟨p,xs,e,s _ _ hp (λ_ z=>by cases z),zfT s hl⟩
 | .dct,_,h=>by obtain⟨p,xs,e,hp,hl⟩:=h;exact⟨p,xs,e,s _ _ hp (λ_ z=>by cases z),hl⟩
def zfT {H H':Hp}(s:∀b o,H b=some o->(∀kvs,o≠.dT kvs)->H' b=some o):∀ {ds:AS} {xs:AT},IsL H ds xs->IsL H' ds xs
 | [],_,h=>h
 | d::ds,xs,h=>by obtain⟨x,r,e,h1,h2⟩:=h;exact⟨x,r,e,zeQ s h1,zfT s h2⟩
end
abbrev W.isD:W->Bool
 | .d _=>true
 | _=>false
def zhv(s:∀b o,zL A H b=some o->(∀kvs,o≠.dT kvs)->zL A H' b=some o):∀ {q:AU} {vs:AT},(q.all W.isD)=true->za0 A H q vs->za0 A H' q vs
 | [],_,_,h=>h
 | w::q,vs,n,h=>by
  obtain⟨v,r,e,h1,h2⟩:=h;rw[dl,bI] at n;show⟨v,r,e,?_,zhv s n.2 h2⟩
  cases w with
  | d x=>exact Val.of (zeQ s (Val.is h1))
  | _=>cases n.1
def mFlI (fa:AD):AC:=λρ n Q=>fa ρ n λx m=>∃l,x = .fl l/\Q (l.map W.d) m
def zro(h:zL A H B=some (.frz ob (.lst xs)))(F:IsL (zL A H) l xs):ItV false A H (Itl K B) (l.map W.d) where
 one:=λi w A2 H2 e s _ _=>by obtain⟨d,x,rfl,I,J⟩:=zfW F e s;have g:SqL K H2 B xs:=.inl (.inr ⟨ob,zq _ _ (s _ _ h λk q=>by cases q)⟩);show⟨⟨xs,x,g,I⟩,?_⟩;rintro y H3 ⟨O,U⟩;subst O;have:=U xs g;rw[I] at this;cases this;exact⟨λ_ _ z=>z,Val.of J⟩
 stop:=λA2 H2 s _=>⟨xs,.inl (.inr ⟨ob,zq _ _ (s _ _ h λk q=>by cases q)⟩),by rw[af,F.length];exact ak _⟩
section
variable {X:Cx}{Pn:PN}{M:AR}{fr:Bool}{e:Expr}{f:AD}
def zuI(K:AH)(F:X.K=K)(h:JE X Pn M fr e f):JI X Pn M false tg e (mFlI f):=by obtain⟨te,q,r⟩:=h.ex;show⟨_,zhl K F q,⟨λA σ H ρ n Q R E P I k=>?_⟩⟩;show r.run A σ H ρ n _ _ E P I  ?_;rintro w m v H1 ⟨l,e,r⟩ J g _;subst e;obtain⟨O,ob,xs,rfl,B,U⟩:=J;exact⟨O,rfl,⟨xs,.inl (.inr ⟨ob,zq _ _ B⟩)⟩,k _ m _ H1 r (zro B U) g⟩
abbrev onFl (w:W) (P:AS->Prop):Prop:=match w with | .fl i=>P i | _=>False
abbrev dInF (q:Bool):W->W->Mo W:=λx y n Q=>onD x λd=>onFl y λds=>d.eqOk/\(Dt.lst ds).eqOk/\∀b:Bool,(b=true↔d∈ds)->Q (.d (.bl (xr q b))) n
def znk (P:Aa)(w:Ab)(C:Addr)(Pn:PN)(i:Nat)(fs:AC):AD:=λρ n R=>∃L,Pn.J=ldJ L/\L.P=P/\L.w=w/\L.C=C/\ρ[i]?=some (some (.pen L.a))/\fs ρ n λq m=>∃st,q=[.d (stD st)]/\StOk L.rm st/\R (.fl ((yy L.bk st L.hs).map stD)) m
def zmv(hi:i∉M)(ra:RA Pn M t fs):RE Pn M false (zs8 C "after" (zeg P w C) [] E' (zaU i) t) (znk P w C Pn i fs):=⟨by
 rintro A σ H ρ n Q R E Pp ⟨L,U,rfl,rfl,rfl,Y,hf⟩ k;obtain⟨v,hv,Z,_⟩:=E.val i _ Y;obtain rfl:v = .ref L.a:=Z hi;have G0:LdG L (zL A H):=by have:=Pp.2;rw[U] at this;exact this
 obtain⟨as,ba,xs,x3,ob,ks,h1,h2,h3,h4,h5,_,h6,h7⟩:=G0.at;show⟨_,hv,L.a,L.dx,_,rfl,zq _ _ h1,zjy _ _ _ _,?_⟩;show ra.run A σ H ρ n _ _ E Pp hf ?_;rintro ws m vs H1 ⟨st,rfl,aa,r⟩ ab g;obtain⟨v1,zy,rfl,b1,b2⟩:=ab;obtain rfl:zy=[]:=b2;obtain⟨sa,rfl,ac⟩:=ztw b1;have G1:LdG L (zL A H1):=by have:=g.pn.2;rw[U] at this;exact this
 obtain⟨_,_,_,_,ad,_,_,_,_,_,g5,g6,_,_⟩:=G1.at;obtain⟨nd,B⟩:=zp.mp g5;have al:Al A H1:=(E.stay g.st).al;show⟨L,st,sa,rfl,rfl,rfl,rfl,G1.sm λb o e _=>zq _ _ e,aa,ac,λva o ys H' e1 e2 G' s=>?_⟩;have F:∀b,A b->∃u,H' b=some u/\NP u/\Mt u:=λb O=>by obtain⟨u,q,J,I⟩:=al b O;exact⟨u,s b u q (λz=>nd (z ▸ O)),J,I⟩
 have ag:¬ A va:=λz=>by obtain⟨u,q,J,I⟩:=F va z;rw[e1] at q;cases q;cases I
 have an:∀b xs,A b->H' b≠some (.tup xs):=λb xs O e=>by obtain⟨u,q,J,I⟩:=F b O;rw[e] at q;cases q;cases I
 have np:¬ NP (kO L.d ad):=zrL g6;have ap:zu H1 H':=λb u e n=>s b u e λz=>by subst z;rw[B] at e;cases e;exact np n
 show k _ m _ H' r ⟨va,o,ys,rfl,zr ag e1,uH an (yq _) e2⟩ ⟨g.st.trans ap,?_,?_⟩ λz=>by cases z
 have hp:=g.pn.1;split at hp;trivial;exact⟨Pen.but hp.1 (λ_ z=>by rw[B] at z;cases z) (λ_ _ z=>by rw[B] at z;cases z) s,hp.2⟩;rw[U];show G'.sm λb u e n=>zr (λz=>?_) e;obtain⟨u',q,J,I⟩:=F b z;rw[e] at q;cases q;rcases n with n | n;rw[show imm u=false from I] at n;cases n;exact n J⟩
def mFnL (k:Nat)(P:Aa)(w:Ab)(C:Addr)(F:PN->AU->Mo W)(Pn:PN)(dv:AU)(I O:AC):AD:=λρ n R=>Pn.J=J0/\I ρ n λws1 U=>∃rm bk hs B,ws1++dv=[.d (stD rm),.d (yP bk),B]/\(B = .d (stD hs)\/hs=[]/\B = .d .non)/\RoomOk rm/\xO rm bk/\
 O ρ U λq Y=>q.length+1=k/\q.all W.isD=true/\∀L:LdI,L.P=P->L.w=w->L.C=C->L.rm=rm->L.bk=bk->L.hs=hs->F ⟨Pn.pn,ldJ L⟩ (.pen L.a::q) Y R
def zsH(ag:∀A H,za0 A H dv dvs)(r1:RA Pn M t1 f1)(r2:RA Pn M t2 f2) :
  RE Pn M fr (zcP (spV k fr F) [] E0 (znO P w (zbD (zs7 C (zeh C) dvs E' t1) t2))) (mFnL k P w C F Pn dv f1 f2):=⟨by
 rintro A σ H ρ n Q R E Pp ⟨hJ,hf⟩ kk;show r1.run A σ H ρ n _ _ E Pp hf ?_;rintro ws1 m1 J H1 ⟨rm,bk,hs,v3,B,an,hR,hB,O⟩ b1 g1 x dx nx U Y;have E1:=E.stay g1.st
 have bb:za0 A H1 (ws1++dv) (J++dvs):=by
  clear B O
  induction ws1 generalizing J with
  | nil=>cases b1;exact ag A H1
  | cons w0 ws1 ih=>obtain⟨v,r,rfl,q1,q2⟩:=b1;exact⟨v,_,rfl,q1,ih _ q2⟩
 rw[B] at bb;obtain⟨y1,y2,y3,ev,q1,q2,q3⟩:=zvR bb;rw[ev];have s1:yO H1 (upd (upd H1 dx (.own x)) x (.ins C dx [])):=λb o e=>by rw[ze (zf e nx),ze (zf e U)];exact e
 show⟨x,dx,y1,y2,y3,rfl,zg,λd H2 nd h1 h2 Z=>⟨rfl,?_⟩⟩;have aa:x≠d:=λe=>by rw[<- e,zg] at nd;cases nd
 have s2:yO H1 H2:=λb o e=>Z b o (s1 b o e) (zf e nx);have ap:H2 dx=some (.own x):=Z _ _ (by rw[ze Y,zg]) Y;have ab:H1 d=none:=s1.free nd;have E2:=E1.stay (zu.same s2);show r2.run A σ H2 ρ m1 _ _ E2 (g1.pn.same s2) O ?_;rintro as m2 a0 H3 ⟨hk,a1,hF⟩ b2 g2;have z1:H3 x=some (.ins C dx (ldF y1 y2 y3 d)):=g2.st _ _ h1 λk q=>by cases q
 have z2:H3 d=some (.dT []):=g2.st _ _ h2 λk q=>by cases q
 have z3:H3 dx=some (.own x):=g2.st _ _ ap λk q=>by cases q
 show⟨d,[],z2,λob D hh=>?_⟩;have E3:=E2.stay g2.st;have ac:¬ A d:=E1.new ab;have I:∀b o,H3 b=some o->b≠d->upd H3 d (kO d ob) b=some o:=λb o e n=>by rw[ze n];exact e
 have s5:∀b o,zL A H3 b=some o->(∀kvs,o≠.dT kvs)->zL A (upd H3 d (kO d ob)) b=some o:=λb o e n=>by obtain⟨B,e2⟩:=zp.mp e;exact zr B (I b o e2 λz=>by rw[z,z2] at e2;cases e2;exact n _ rfl)
 have ad:zu H1 H3:=(zu.same s2).trans g2.st;have sH:zu H (upd H3 d (kO d ob)):=λb o e np=>by have B:=g1.st b o e np;exact I b o (ad b o B np) λz=>by rw[z,ab] at B;cases B
 have up:∀ {x:Dt} {v:V},Val A H1 (.d x) v->Is (zL A (upd H3 d (kO d ob))) x v:=λh=>zeQ s5 (Val.is (h.stay ad))
 have G:LdG ⟨P,w,C,x,dx,d,rm,bk,hs⟩ (zL A (upd H3 d (kO d ob))):=by
  show⟨⟨y1,y2,y3,ob,[],zr (E1.new nx) (I _ _ z1 aa),zr (E1.new U) (I _ _ z3 λz=>?_),up q1,up q2,?_,zr ac zg,hh,?_,λq z=>by cases z⟩,hR,hB⟩;have z:dx=d:=z;rw[z,z2] at z3;cases z3;rcases an with rfl | ⟨rfl,rfl⟩;obtain⟨p,ys,rfl,i1,i2⟩:=up q3;obtain rfl:=i2.of_ints;exact .inr ⟨p,rfl,i1⟩;exact .inl ⟨up q3,rfl⟩;obtain⟨u1,u2,us,u3,u4⟩:=D;cases u3;exact⟨u1,u2,[],.nil,u4⟩
 change spV k fr F ((V.ref x::a0)++[]) _ Q E0;rw[cY];show⟨⟨Pn.pn,ldJ ⟨P,w,C,x,dx,d,rm,bk,hs⟩⟩,A,.pen x::as,m2,R,λa ha=>?_,⟨_,_,rfl,rfl,zhv s5 a1 b2⟩,hk,⟨?_,G⟩,hF _ rfl rfl rfl rfl rfl rfl,λw' m' v H' h1 h2 Z h4=>kk w' m' v H' h1 h2 ⟨sH.trans Z.st,Z.pn.1,by rw[hJ];trivial⟩ λz=>(h4 z).back sH⟩;obtain⟨o,i1,i2⟩:=E3.al a ha;exact⟨o,I a o i1 (λz=>ac (z ▸ ha)),i2⟩;have hp:=g2.pn.1;change match Pn.pn with | none=>True | some (p,c,ns)=>Pen _ p c ns m2/\(∀r,ns=0::r->¬ A c)/\¬ A p
 generalize Pn.pn=o at hp ⊢;rcases o with _ | ⟨p,c,ns⟩;trivial;exact⟨Pen.but hp.1 (λ_ z=>by rw[z2] at z;cases z) (λ_ _ z=>by rw[z2] at z;cases z) I,hp.2⟩⟩
end
def yb (s:Stmt)(i:Nat):Stmt:=match s with
 | .ClassDef (body:=b) ..=>b.getD i (.Pass ⟨0,0,0,0⟩)
 | _=>.Pass ⟨0,0,0,0⟩
structure LdT (K:AH)(mg:AI)(s:Stmt)(C fI fA:Addr)(dI dA:Ac):Prop where
 c:LdC K C
 mM:Mk K C fI
 me:Meth K C "after" fA
 m:mg "Leads" = some (.ref C)
 FI:FunD K "__init__" "Leads.__init__" (yb s 0) fI dI
 FA:Fun K "after" "Leads.after" (yb s 1) fA dA
 b:zac K dI [Ai,Aj,Ak,Am] []
 bd:zac K dI [Ai,Aj,Ak,Am] [Value.none]
 bA:zac K dA [Ai,An] []
def Cm{K:AH}{h:Heap}{mg:AI}{st:Stmt}{C Z f2 T:Addr}{al B F I q J ap aa ab ac U ad ot:Value}{as O a0 ag a3:Option Addr}{Y:AK}(X:K.In h)(G:h.Ns mainGlobals mg)(a:PySem.W.nsIn K mainGlobals "Leads" = some (some (.ref C)))(a1:PySem.W.findIn K (.ref C) "__init__" = some (some (.ref Z)))(i1:PySem.W.isFn K (.ref Z)=true)(l1:K.lookup Z=some ⟨al,as,.func (PySem.W.fnOf "__init__" "Leads.__init__" (z7 (yb st 0)) (zw (yb st 0)) (zc (yb st 0)) (.ref T) B F I O q J),a4⟩)(c1:PySem.W.codeIn K q "Leads.__init__" = true)(k1:PySem.W.keepIn K (.ref Z)=true)(t:K.lookup T=some ⟨ot,a3,.seq Y n3,a7⟩)(a2:PySem.W.findIn K (.ref C) "after" = some (some (.ref f2)))(i2:PySem.W.isFn K (.ref f2)=true)(l2:K.lookup f2=some ⟨ap,a0,.func (PySem.W.fnOf "after" "Leads.after" (z7 (yb st 1)) (zw (yb st 1)) (zc (yb st 1)) .none aa ab ac ag U ad),a5⟩)(c2:PySem.W.codeIn K U "Leads.after" = true)(k2:PySem.W.keepIn K (.ref f2)=true)(pg:PySem.W.plainGet K C Str.empty=true)(hd:PySem.W.hasDictIn K C=true)(po:PySem.W.plainOver K C=true)(sa:PySem.W.findIn K (.ref C) "__setattr__" = some (some (.builtin "object.__setattr__")))(mk:PySem.W.makesIn K C=true)(kc:PySem.W.keepIn K (.ref C)=true)(n1:PySem.W.findIn K (.ref C) "room" = some none)(n2:PySem.W.findIn K (.ref C) "wishes" = some none)(n3:PySem.W.findIn K (.ref C) "held" = some none)(n4:PySem.W.findIn K (.ref C) "known" = some none)(b:∀us:AN,(us++[]).length=4->∃k:Option AK->Sem (List (Str×Value)),bindArgs (PySem.W.fnOf "__init__" "Leads.__init__" (z7 (yb st 0)) (zw (yb st 0)) (zc (yb st 0)) (.ref T) B F I O q J) ⟨us,[]⟩=seqItems? (.ref T) >>= k/\k (some Y)=pure (([Ai,Aj,Ak,Am]:AM).zip (us++[])))(e:∀us:AN,(us++[Value.none]).length=4->∃k:Option AK->Sem (List (Str×Value)),bindArgs (PySem.W.fnOf "__init__" "Leads.__init__" (z7 (yb st 0)) (zw (yb st 0)) (zc (yb st 0)) (.ref T) B F I O q J) ⟨us,[]⟩=seqItems? (.ref T) >>= k/\k (some Y)=pure (([Ai,Aj,Ak,Am]:AM).zip (us++[Value.none])))(bA:∀ (kV dc pm:Value) (an:Option Addr) (cd ct:Value) (us:AN),us.length=2->bindArgs (PySem.W.fnOf "after" "Leads.after" (z7 (yb st 1)) (zw (yb st 1)) (zc (yb st 1)) .none kV dc pm an cd ct) ⟨us,[]⟩=pure (([Ai,An]:AM).zip us)) :
  LdT K mg st C Z f2 (PySem.W.fnOf "__init__" "Leads.__init__" (z7 (yb st 0)) (zw (yb st 0)) (zc (yb st 0)) (.ref T) B F I O q J) (PySem.W.fnOf "after" "Leads.after" (z7 (yb st 1)) (zw (yb st 1)) (zc (yb st 1)) .none aa ab ac ag U ad):=
 ⟨⟨⟨pg,hd,po,sa⟩,n1,n2,n3,n4⟩,⟨mk,a1,i1,kc⟩,⟨a2,i2,k2⟩,PySem.W.mg_of X G a,zi5 l1 c1 k1,zgR l2 c2 k2,zgB l1 rfl t b,zgB l1 rfl t e,(zgR l2 c2 k2).binds bA⟩
section
variable {X:Cx}{Pn:PN}{M:AR}{fr:Bool}{s:Stmt}{C fI fA:Addr}{dI dA:Ac}
def zow {x:Str}{i j kk:Nat}{p apos pos:Pos}{e:Expr}{fs:AC}{pl:Sem Bool}(P:Aa)(w:Ab)(hP:X.prog=P)(hw:X.w=w)(T:LdT X.K X.mg s C fI fA dI dA)(G:FnOk X.prog X.w X.K X.mg X.base CX0 j fA dA [Ai,An] (zeg P w C))(hr:Room kk X.A)(hv:QE X (.Name x p) (zaU i))(hi:i∉M)(ha:JA X Pn M [e] fs)(hjk:j<=kk:=by ext)
  (hst:starEach [e] X.env=(false,eval e X.env)::starEach [] X.env:=by rfl) (hpl:(backTo pos (starEach [] X.env)).any (·.1)=false:=by rfl)
  (ht:eval (.Call (.Attribute (.Name x p) "after" apos) [e] [] pos) X.env=(do
   let ov <- eval (.Name x p) X.env
   standAt apos.atName
   let (f,first) <- holding [ov] (getMethod ov "after" pl)
   callWith pos f first (backTo pos (starEach [e] X.env)) (backToKw pos (keywordEach [] X.env))):=by rfl) :
  JE X Pn M false (.Call (.Attribute (.Name x p) "after" apos) [e] [] pos) (znk P w C Pn i fs):=by
 obtain⟨t,q,r⟩:=ha.ex;exact⟨_,⟨zpg hv.run T.c.cl T.me G (hr.mono hjk) T.bA .nil zj5 q.run hst hpl ht⟩,zmv hi r⟩
def zuF{x:Str}{st:Stmt}{ps:AM}{f:Addr}{fd:Ac}{F:PN->AU->Mo W}{dv:AU}{dvs:AT}{p p1 pos B:Pos}{q es:AO}{f1 f2:AC}(P:Aa)(w:Ab)(hP:X.prog=P)(hw:X.w=w)(T:LdT X.K X.mg s C fI fA dI dA)(D:Dfn X.K X.mg x st ps f fd)(GI:FnOk X.prog X.w X.K X.mg X.base CX0 jI fI dI [Ai,Aj,Ak,Am] (zeh C))(G:FnOk X.prog X.w X.K X.mg X.base CX0 j f fd ps (spV k fr F))(hr:Room O X.A)(hb:zac X.K dI [Ai,Aj,Ak,Am] ds)(hd:zT dvs ds)(U:∀A H,za0 A H dv dvs)(h1:JA X Pn M (I::q) f1)(h2:JA X Pn M es f2)(Y:j<=O:=by ext)(Z:jI+1<=O:=by ext)(hg:Gl X x:=by rfl)(aa:Ah x:=by ext)(ab:Gl X "Leads" := by rfl)(ac:starEach (I::q) X.env=(false,eval I X.env)::starEach q X.env:=by rfl)(J:(backTo B (starEach q X.env)).any (·.1)=false:=by rfl)(he:starEach (.Call (.Name "Leads" p1) (I::q) [] B::es) X.env=(false,eval (.Call (.Name "Leads" p1) (I::q) [] B) X.env)::starEach es X.env:=by rfl)(ad:(backTo pos (starEach es X.env)).any (·.1)=false:=by rfl) :
  JE X Pn M fr (.Call (.Name x p) (.Call (.Name "Leads" p1) (I::q) [] B::es) [] pos) (mFnL k P w C F Pn dv f1 f2):=by
 subst hP hw;obtain⟨t1,q1,r1⟩:=h1.ex;obtain⟨t2,q2,r2⟩:=h2.ex;exact⟨_,⟨zr9 D G hr (zo7 (zbe (zpf T.mM GI (hr.mono Z) ab T.m hb hd zj5 q1.run (by ext) ac J) q2.run he)) Y hg aa he ad⟩,zsH U r1 r2⟩
end
end L3
namespace L2
open PyProof.Rows PySem.SeqAt
def okT:Nat->Dt->Bool
 | _,.non=>true
 | _,.int _=>true
 | _,.bl _=>true
 | _,.str x=>PyData.strOk x
 | n+1,.tup l=>l.all (okT n)
 | n+1,.lst l=>l.all (okT n)
 | _,_=>false
abbrev Dt.py (d:Dt):PyData:=PySem.W.kqdP d.toW
section
variable {P:Aa}{w:Ab}{H:Hp}{h:Heap}
variable {X:Cx}
end
end L2
namespace L3
open L2
section
variable {X:Cx}{Pn:PN}{M:AR}{e:Expr}{f:AD}{pos p:Pos}
abbrev dNeT:W->W->Mo W:=λx y n Q=>onD x λd=>onD y λe=>d=e/\okT 8 d=true/\Q (.d (.bl false)) n
abbrev dNiT:W->W->Mo W:=λx y n Q=>onD x λd=>onL y λds=>okT 8 d=true/\(Dt.lst ds).eqOk/\∀b:Bool,(d∈ds->b=true)->(b=true->∃e∈ds,PyData.eqv e.py d.py=true)->Q (.d (.bl (!b))) n
abbrev ztC (f:AD):AD:=λρ n Q=>f ρ n λx q=>onL x λl=>∃sts:AF,l=sts.map stD/\(∀ks:AF,ks.Nodup->(∀z∈ks,z∈sts)->ks.length<300)/\∀ks:AF,ks.Nodup->(∀st,st∈ks↔st∈sts)->Q (.d (.int (ks.length:Nat))) q
end
end L3
namespace L2
open PyProof.Rows
section
variable {X:Cx}
end
end L2
namespace L3
open L2
section
variable {Pn:PN}
abbrev dMaxT:AU->Mo W:=λq n Q=>on1 q λx=>∃ns:AG,x = .d (stD ns)/\ns≠[]/\∀m,m∈ns->(∀x∈ns,x<=m)->Q (.d (.int m)) n
end
end L3
namespace L2
open PyProof.Rows
end L2
namespace L3
open L2
structure ItV0 (J:It)(l:AU):Prop where
 one:∀i w (A2:AL) H2,l[i]?=some w->J.go i H2/\∀x H3,J.yld i H2 x H3->yO H2 H3/\Val A2 H3 w x
 stop:∀H2,J.stop l.length H2
def zlI{lo:Int}:ItV0 (Itr lo n) (zet lo n) where
 one:=λi w A2 H2 e=>by unfold zet at e;rw[aN] at e;obtain⟨j,h1,rfl⟩:=aL.mp e;obtain⟨hi,h2⟩:=aj.mp h1;rw[cx] at h2;subst h2;rw[aE] at hi;show⟨hi,?_⟩;rintro y H3 ⟨q,B⟩;subst q B;exact⟨λ_ _ z=>z,Val.of rfl⟩
 stop:=λH2=>by
  change n<=(zet lo n).length;unfold zet;right
section
variable {X:Cx}{Pn:PN}{M S:AR}{fr:Bool}{a:Expr}{pos p:Pos}
def zpY(hi:RAB Pn M ta fs)(hg:RG (S++M) M g mg)(hb:RS Pn S M fr tb fb):RS Pn S M fr (ztV (λσ H R=>ta σ H λvs H1=>∃j:Int,vs=[.int j]/\-(2 ^ 62)<=j/\j<2 ^ 62/\R (Itr 0 j.toNat) H1) g tb) (ztJ (ztL fs) mg fb):=⟨λB A σ H ρ n k D a kk hf=>by
 show hi.run A σ H ρ n _ _ a.env a.pn hf  ?_;rintro ws m vs H1 ⟨j,e,j1,j2,I,i0,it,ie⟩ hv g1;subst e;obtain⟨v,rfl,bb⟩:=za3 hv;obtain rfl:v = .int j:=yG bb;have iv:=zlI (lo:=0) (n:=j.toNat);generalize zet 0 j.toNat=l at *;have a1:=a.step g1;show⟨j,rfl,by lia,by lia,?_⟩;show⟨λi mm O H'=>mm=l.length - i/\i<=l.length/\∃A' q J,At3 Pn B S M A' O H' q J/\I i q J,⟨l.length,by simp,aM _,A,ρ,m,a1,i0⟩,?_⟩;rintro i mm O H' ⟨rfl,ag,A',q,J,a',hI⟩;by_cases Z:i<l.length
 show Or.inr ?_;have U:l[i]?=some l[i]:=ax Z;obtain⟨go,yl⟩:=iv.one i l[i] A' H' U;show⟨go,λaa H2=>∃A' q J,At3 Pn B S M A' aa H2 q J/\I (i+1) q J,λaa H2 h=>⟨l.length - (i+1),by lia,rfl,Z,h⟩,λx H2 hy=>?_⟩;obtain⟨S2,V2⟩:=yl x H2 hy;have a2:=a'.step (Go.same a'.pn S2);show hg.run A' O H2 q x l[i] _ _ a2.env V2 (it i l[i] q J U hI) λab ac r3 E3 f3=>?_;show hb.run B A' ab H2 ac J _ _ (EnvR.mineG a2 E3 f3) ⟨?_,?_,?_,kk.fc,?_⟩ r3
 exact λA4 Y H4 F n4 a4 r4=>⟨A4,F,n4,a4,r4⟩;exact λA4 Y H4 F n4 a4 r4=>kk.nx A4 Y H4 F n4 a4 r4;exact λA4 Y H4 F n4 a4 r4=>⟨A4,F,n4,a4,r4⟩;exact kk.rt;show Or.inl ?_;have ad:i=l.length:=by lia
 subst ad;exact⟨iv.stop H',kk.nx A' O H' q J a' (ie q J hI)⟩⟩
def W.nl:W->Prop
 | .d x=>x.noL=true
 | .pen _=>True
 | _=>False
def Fg:Ev->Ev->Prop
 | [],q=>q=[]
 | o::ρ,q=>∃o' r,q=o'::r/\(o'=none\/(o'=o/\∀w,o=some w->w.nl))/\Fg ρ r
def Fg.len:∀ {ρ q:Ev},Fg ρ q->q.length=ρ.length
 | [],_,h=>by cases h;rfl
 | _::_,_,⟨_,_,e,_,h⟩=>by subst e;rw[aO,aO,h.len]
def Fg.get:∀ {ρ q:Ev} {j:Nat} {w:W},Fg ρ q->q[j]?=some (some w)->ρ[j]?=some (some w)/\w.nl
 | [],_,_,_,h,e=>by cases h;simp at e
 | o::ρ,_,0,w,⟨o',r,B,h1,h⟩,e=>by
  subst B;have e:o'=some w:=by simpa using e
  subst e;rcases h1 with h1 | ⟨rfl,h1⟩;cases h1;exact⟨rfl,h1 w rfl⟩
 | o::ρ,_,j+1,w,⟨o',r,B,h1,h⟩,e=>by subst B;have:=Fg.get (ρ:=ρ) h (show r[j]?=some (some w) by simpa using e);simpa using this
def zrK {w:W}(h:w.nl):w.mut=false:=by
 cases w with
 | d x=>cases x <;> first | rfl | cases h
 | pen p=>rfl
 | _=>cases h
abbrev mInClr (i:Nat):Ms:=λρ n k=>∃F l st q,ρ[i]?=some (some (.d (.tup [F,.lst l])))/\F.noL=true/\stD st∈l/\Fg ρ q/\onP q i (.d (.tup [F,.lst []])) λB=>k.nx B n
def zrm(h:H q=some (.lst ys))(B:x.noL=true)(hi:Is (zL A H) x v):Is (zL A (upd H q o)) x v:=by have h1:=zgX (A:=λb=>b=q) (H:=zL A H) (λa xs e z=>by subst e;rw[zq _ _ z] at h;cases h) B hi;show h1.stay (zu.same λb u e=>?_);obtain⟨F,I⟩:=zp.mp e;obtain⟨J,O⟩:=zp.mp I;exact zr J (by rw[ze F];exact O)
def zoE {tg:Expr}{fs:AC}{body:List Stmt}{mg:W->Ev->(Ev->Prop)->Prop}{fb:Ms}(I:PassesOwn (model X.prog X.w) X.A X.env X.xe)(J:X.calm=true)(B:Gl X "range")(O:X.mg "range" = none)(U:JAB X Pn M [a] fs)(Y:JG X (S++M) M tg mg)(Z:JSs X Pn S M fr body fb)(F:starEach [a] X.env=[(false,eval a X.env)]:=by rfl)(hs:∀x,foldedSetIterable (.Call (.Name "range" p) [a] [] pos) X.env x=pure x:=by intro _;rfl){q:Pos} :
  JS X Pn S M fr (.For tg (.Call (.Name "range" p) [a] [] pos) body [] q) (ztJ (zuf fs) mg fb):=by
 rw[<- yM];obtain⟨ti,qi,ri⟩:=U.ex;obtain⟨aa,qg,rg⟩:=Y.ex;obtain⟨tb,qb,rb⟩:=Z.ex;exact⟨_,zhm I J (zfc B O qi F) qg qb hs,zpY ri rg rb⟩
end
end L3
namespace L2
open PyProof.Rows PySem.W PySem.SeqAt
section
variable {X:Cx}
end
end L2
namespace L3
open L2
section
variable {X:Cx}{Pn:PN}{M S:AR}{fr fr':Bool}{e:Expr}{f:AD}{pos:Pos}
abbrev W.pl:W->W
 | .ad _ x=>.d x
 | w=>w
def zqJ(h:Val A H (.ad a x) v):Val A H (.d x) v:=Val.of (Is.stay (zu.same ze5) h.2)
abbrev zrG (i:Nat):AD:=λρ n Q=>onV ρ i λw=>Q w.pl n
def zaz (i:Nat){x:Str}(hi:i∉M:=by ext)(F:X.N[i]?=some x:=by rfl)(I:Vis X.env.scope x:=by walk_at "v")(J:Ah x:=by ext)
  (q:(x==("__classdict__" : Str))=false:=by ext):JE X Pn M false (.Name x pos) (zrG i):=⟨_,qv i F I J q,⟨λA σ H ρ n Q R E P B k=>by
 unfold zrG at B;rw[x4] at B;obtain⟨w,e,r⟩:=B;obtain⟨v,h1,h2,_⟩:=E.val i w e;show⟨v,h1,k w.pl n v H r ?_ (Go.refl P) λz=>by cases z⟩
 cases w with
 | ad a x=>exact zqJ (h2 hi)
 | _=>exact h2 hi⟩⟩
abbrev mSetA (i:Nat) (f:AD):Ms:=λρ n k=>f ρ n λw m=>match w with
 | .d (.lst l)=>Dt.noLs l=true/\∀a,onP ρ i (.ad a (.lst l)) λq=>k.nx q m
 | w=>onP ρ i w λq=>k.nx q m
def zos(B:x.noL=true)(h:Is (zL A H) x v):Is (zcN a (zL A H)) x v:=
 zgX (λb xs z e=>by obtain⟨_,ys,q⟩:=z;rw[e] at q;cases q) B h
def zdD(B:Dt.noLs l=true)(h:IsL (zL A H) l vs):IsL (zcN a (zL A H)) l vs:=
 uH (λb xs z e=>by obtain⟨_,ys,q⟩:=z;rw[e] at q;cases q) B h
def zf8(h:zL A H a=some o):zcN a (zL A H) a=some o:=zr (λz=>z.1 rfl) h
def zl9(h:zL A H b=some (.tup xs)):zcN a (zL A H) b=some (.tup xs):=zr (λz=>by obtain⟨_,ys,q⟩:=z;rw[h] at q;cases q) h
def NewA (q:Addr)(ρ:Ev):Prop:=∀ (j:Nat) (a:Addr) (l:AS),ρ[j]?=some (some (W.ad a (.lst l)))->a≠q
abbrev zrE (i:Nat) (f:AD):Ms:=λρ n k=>∃ q,Fg ρ q/\f q n λw m=>match w with
 | .d (.tup [F,.lst l])=>F.noL=true/\Dt.noLs l=true/\∀I,NewA I ρ->onP ρ i (.ad I (.tup [F,.lst l])) λB=>k.nx B m
 | _=>False
def uC.big(h:uC Pn A n H):uC Pn (λb=>A b\/∃xs,H b=some (.lst xs)) n H:=by
 show⟨?_,Pn.J.grow h.2 λb z=>z.elim .inl λ⟨xs,e⟩=>.inr ⟨_,e,NP.lst,rfl⟩⟩;have B:=h.1;split at B;trivial;show⟨B.1,?_⟩;obtain⟨⟨O,l',I,g2⟩,q,U⟩:=B.1;show⟨λr F z=>z.elim (B.2.1 r F) (λ⟨xs,e⟩=>?_),λz=>z.elim B.2.2 (λ⟨xs,e⟩=>by rw[I] at e;cases e)⟩;rcases q with ⟨_,_,_,q⟩ | ⟨_,q⟩;rw[q] at e;cases e;rw[F] at q;cases q
def zp0(h:RE Pn M fr' te f)(ab:i∉M)(ac:i∉S++M):RS Pn S M fr (zh6 te (za5 i)) (zrE i f):=⟨λB A σ H ρ n k D a kk hf=>by
 obtain⟨F,hF,hf⟩:=hf;have I:∀ {j:Nat} {w:W},j∈M->F[j]?=some (some w)->False:=λ{j w} hj e=>by obtain⟨e1,e2⟩:=hF.get e;obtain⟨_,_,_,h3⟩:=a.env.val j w e1;obtain⟨_,_,_,_,h4⟩:=h3 hj;rw[zrK e2] at h4;cases h4
 have J:Al (λb=>A b\/∃xs,H b=some (.lst xs)) H:=λb z=>z.elim (a.env.al b) λ⟨xs,e⟩=>⟨_,e,NP.lst,rfl⟩
 have E:EnvR (λb=>A b\/∃xs,H b=some (.lst xs)) M σ H F:=⟨by rw[hF.len];exact a.env.len,λj w e=>by
  obtain⟨e1,e2⟩:=hF.get e;obtain⟨v,q1,q2,q3⟩:=a.env.val j w e1;show⟨v,q1,λz=>?_,λz=>(I z e).elim⟩;have:=q2 z
  cases w with
  | d x=>exact Val.of (zgX J.noT e2 ((Val.is this).stay (zu.same zq)))
  | pen p=>exact this
  | _=>exact (show False from e2).elim,λi j w u b hi _ _ e _=>(I hi e).elim,J⟩
 show h.run _ σ H F n _ _ E a.pn.big hf λw m v H' r hv g' a1=>?_;have g:Go Pn A H m H':=⟨g'.st,g'.pn.less λb z=>.inl z⟩;have a':=a.step g;split at r
 ·rename_i d0 l;obtain⟨hd,hl,r⟩:=r;obtain⟨b,xs,rfl,hb,ag⟩:=Val.is hv;obtain⟨x0,r0,rfl,h0,x1,r1,rfl,h1,O⟩:=ag;obtain⟨U,ys,rfl,Y,an⟩:=h1;cases O;have q:yO (zL (λb=>A b\/∃xs,H b=some (.lst xs)) H') (zL A H'):=xa λb z=>.inl z;have nL:=(zp.mp Y).1
  have Z:NewA U ρ:=λj c l' ej z=>by
   subst z;obtain⟨v',q1,q2,q3⟩:=a.env.val j _ ej;by_cases hj:j∈M;obtain⟨_,_,_,_,h4⟩:=q3 hj;cases h4;obtain⟨_,c2,zs,rfl,hc,_⟩:=q2 hj;obtain⟨n1,aa⟩:=zp.mp hc
   have ap:c2=c:=by
    by_cases y:c2=c;exact y;exact absurd ⟨y,zs,aa⟩ n1
   subst ap;exact nL (.inr ⟨zs,zq _ _ aa⟩)
  have r:=r U Z;rw[yW] at r;exact (zcr (S:=S++M) (M:=M) ab ac).run A σ H' ρ _ (.ad U (.tup [d0,.lst l])) _ (λF=>k.nx F m) a'.env ⟨⟨_,rfl⟩,b,_,rfl,zl9 (q _ _ hb),x0,_,rfl,zos hd (h0.stay (zu.same q)),.ref U,_,rfl,⟨U,ys,rfl,zf8 (q _ _ Y),zdD hl (an.stay (zu.same q))⟩,rfl⟩ r λas a0 r2 E2 f2=>kk.nx A as H' a0 m (EnvR.mineG a' E2 f2) r2
 cases r⟩
def zoG {i:Nat}{x:Str}{pos':Pos}(I:X.N.Nodup)(J:JE X Pn M fr' e f)(hi:X.N[i]?=some x:=by rfl)(O:Loc X.env.scope x:=by first | exact Or.inl rfl | exact Or.inr rfl)(B:i∉M:=by ext)(F:i∉S++M:=by ext)(hs:swapsWith e (some (.Name x pos')) pos.line X.env=pure false:=by rfl)(U:X.fn x=true\/X.env.scope.names.lookup x=some .local:=by walk_at "l") :
  JS X Pn S M fr (.Assign [.Name x pos'] e pos) (zrE i f):=let ⟨te,q,r⟩:=J.ex;⟨_,ux I hi O q hs U,zp0 r B F⟩
def W.nlA (q:Addr):W->Prop
 | .d x=>x.noL=true
 | .pen _=>True
 | .ad a _=>a≠q
 | _=>False
def FgA (B:Addr):Ev->Ev->Prop
 | [],q=>q=[]
 | o::ρ,q=>∃o' r,q=o'::r/\(o'=none\/(o'=o/\∀w,o=some w->w.nlA B))/\FgA B ρ r
def FgA.len:∀ {ρ q:Ev},FgA B ρ q->q.length=ρ.length
 | [],_,h=>by cases h;rfl
 | _::_,_,⟨_,_,e,_,h⟩=>by subst e;rw[aO,aO,h.len]
def FgA.get:∀ {ρ q:Ev} {j:Nat} {w:W},FgA F ρ q->q[j]?=some (some w)->ρ[j]?=some (some w)/\w.nlA F
 | [],_,_,_,h,e=>by cases h;simp at e
 | o::ρ,_,0,w,⟨o',r,B,h1,h⟩,e=>by
  subst B;have e:o'=some w:=by simpa using e
  subst e;rcases h1 with h1 | ⟨rfl,h1⟩;cases h1;exact⟨rfl,h1 w rfl⟩
 | o::ρ,_,j+1,w,⟨o',r,B,h1,h⟩,e=>by subst B;have:=FgA.get (ρ:=ρ) h (show r[j]?=some (some w) by simpa using e);simpa using this
def zo1{w:W}(h:w.nlA ad):w.mut=false:=by
 cases w with
 | d x=>cases x <;> first | rfl | cases h
 | pen p=>rfl
 | ad a x=>rfl
 | _=>cases h
def zma(h:zL A H q=some (.lst ys))(U:a≠q):yO (zcN a (zL A H)) (zcN a (zL A (upd H q (.lst zs)))):=λb o e=>by
 obtain⟨F,I⟩:=zp.mp e;obtain⟨Y,Z⟩:=zp.mp I;have B:b≠q:=λz=>by subst z;exact F ⟨λy=>U y.symm,ys,h⟩
 have J:zL A (upd H q (.lst zs)) b=some o:=zr Y (by rw[ze B];exact Z);show zr (λz=>F ⟨z.1,?_⟩) J;obtain⟨xs,O⟩:=z.2;rw[J] at O;cases O;exact⟨_,I⟩
def At3.inUpd(a:At3 Pn B S M A σ H ρ n)(hS:9999∈S)(aa:zL A H ad=some (.lst ys))(hF:FgA ad ρ I):At3 Pn B S M A σ (upd H ad (.lst zs)) I n:=by
 obtain⟨nA,Z⟩:=zp.mp aa;obtain⟨nG,nH⟩:=a.fix.2 hS;have O:∀ {j:Nat} {w:W},j∈M->I[j]?=some (some w)->False:=λ{j w} hj e=>by obtain⟨e1,e2⟩:=hF.get e;obtain⟨_,_,_,h3⟩:=a.env.val j w e1;obtain⟨_,_,_,_,h4⟩:=h3 hj;rw[zo1 e2] at h4;cases h4
 show⟨⟨by rw[hF.len];exact a.env.len,λj w e=>?_,λj k' w u q hj _ _ e1=>(O hj e1).elim,λq z=>?_⟩,⟨a.frm.sub,a.frm.new,λq o e np nc=>?_,a.frm.al,a.frm.cn,λq z=>?_⟩,?_,λq o e np=>?_,a.fix,λj w q hj e=>(O hj e).elim⟩;obtain⟨e1,e2⟩:=hF.get e;obtain⟨v,U,F,q3⟩:=a.env.val j w e1;show⟨v,U,λz=>?_,λz=>(O z e).elim⟩;have:=F z
 cases w with
 | d x=>exact Val.of (zrm Z e2 (Val.is this))
 | pen p=>exact this
 | ad c x=>exact⟨this.1,Is.stay (zu.same (zma aa e2)) this.2⟩
 | _=>cases e2
 obtain⟨o,U,F,q3⟩:=a.env.al q z;exact⟨o,by rw[ze (show q≠ad from λy=>nA (by rw[<- y];exact z))];exact U,F,q3⟩;have:=a.frm.st q o e np nc;have Y:q≠ad:=λy=>by rw[y,Z] at this;cases this;exact nH _ _ e
 rw[ze Y];exact this;obtain⟨o,U,F⟩:=a.frm.cs q z;by_cases ab:q=ad;subst ab;exact⟨_,zg,NP.lst⟩;exact⟨o,by rw[ze ab];exact U,F⟩
 ·have hp:=a.pn;show⟨?_,Pn.J.frz hp.2 Z NP.lst rfl⟩;have hp:=hp.1;split at hp;trivial
  ·show⟨?_,hp.2⟩;obtain⟨⟨a',l',g1,g2⟩,g3,g4⟩:=hp.1;rename_i p' c' ac _;exact⟨⟨a',l',by rw[ze λz=>by rw[z,Z] at g1;cases g1];exact g1,g2⟩,g3.but λ_ _ _ e=>by rw[ze λz=>by rw[z,Z] at e;cases e];exact e,g4⟩
 have:=a.prot q o e np;obtain⟨U,F⟩:=zp.mp this;have Y:q≠ad:=λy=>by rw[y,Z] at F;cases F;exact nG _ _ e
 exact zr U (by rw[ze Y];exact F)
abbrev mInApp (i:Nat):Ms:=λρ n k=>onV ρ i λw=>match w with
 | .ad B (.tup [_,.lst l])=>l.length<10000/\∃ q,FgA B ρ q/\k.nx q n
 | _=>False
abbrev mRem (i:Nat) (fk:AD):Ms:=λρ n k=>onV ρ i λv=>onL v λl=>fk ρ n λy m=>onI y λj=>∃ns:AG,l=ns.map Dt.int/\j∈ns/\onP ρ i (.d (lsD (ns.erase j))) λq=>k.nx q m
end
def zrf:Fg [] []:=rfl
def zeL(h:Fg ρ q):Fg (o::ρ) (none::q):=⟨_,_,rfl,.inl rfl,h⟩
def zre(B:x.noL=true)(h:Fg ρ q):Fg (some (.d x)::ρ) (some (.d x)::q):=⟨_,_,rfl,.inr ⟨rfl,λw e=>by cases e;exact B⟩,h⟩
def fg_p(h:Fg ρ q):Fg (some (.pen p)::ρ) (some (.pen p)::q):=⟨_,_,rfl,.inr ⟨rfl,λw e=>by cases e;trivial⟩,h⟩
def zrd:FgA q [] []:=rfl
def zly(h:FgA B ρ q):FgA B (o::ρ) (none::q):=⟨_,_,rfl,.inl rfl,h⟩
def zof(F:x.noL=true)(h:FgA B ρ q):FgA B (some (.d x)::ρ) (some (.d x)::q):=⟨_,_,rfl,.inr ⟨rfl,λw e=>by cases e;exact F⟩,h⟩
def fa_p(h:FgA B ρ q):FgA B (some (.pen p)::ρ) (some (.pen p)::q):=⟨_,_,rfl,.inr ⟨rfl,λw e=>by cases e;trivial⟩,h⟩
def fa_a(F:a≠B)(h:FgA B ρ q):FgA B (some (.ad a x)::ρ) (some (.ad a x)::q):=⟨_,_,rfl,.inr ⟨rfl,λw e=>by cases e;exact F⟩,h⟩
def znn (bk:AW):(yP bk).noL=true:=by have:=xZ bk;simpa [Dt.noL] using this
section
variable {X:Cx}{Pn:PN}{M S:AR}{fr fr':Bool}{e:Expr}{f:AD}{pos:Pos}
def One (x:Dt):Prop:=∃pre l,x = .tup (pre++[.lst l])/\Dt.noLs pre=true/\Dt.noLs l=true
def zgV:∀ {pre:AS} {xs:AT},IsL G (pre++[d]) xs->∃ys v,xs=ys++[v]/\IsL G pre ys/\Is G d v
 | [],xs,h=>by obtain⟨x,r,rfl,h1,h2⟩:=h;cases h2;exact⟨[],x,rfl,rfl,h1⟩
 | _::pre,xs,h=>by obtain⟨x,r,rfl,h1,h2⟩:=h;obtain⟨ys,v,rfl,q,B⟩:=zgV (pre:=pre) h2;exact⟨x::ys,v,rfl,⟨x,ys,rfl,h1,q⟩,B⟩
def NewB (q:Addr)(ρ:Ev):Prop:=∀ (j:Nat) (a:Addr) (x:Dt),ρ[j]?=some (some (W.ad a x))->One x->a≠q
abbrev mSetB (i:Nat) (f:AD):Ms:=λρ n k=>∃ B,Fg ρ B/\f B n λw m=>onD w λx=>
 (x.noL=true/\onP ρ i (.d x) λq=>k.nx q m)\/(One x/\∀F,NewB F ρ->onP ρ i (.ad F x) λq=>k.nx q m)
abbrev ztN (i:Nat):Ms:=λρ n k=>onV ρ i λw=>match w with
 | .ad B x=>One x/\(∀pre l,x = .tup (pre++[.lst l])->l.length<10000)/\∃ q,FgA B ρ q/\k.nx q n
 | _=>False
abbrev dGivA (i:Nat) (F:AU->Mo W) (I J:AD):Ms:=λρ n k=>I ρ n λw1 O=>J ρ O λw2 U=>onV ρ i λw=>match w with
 | .ad Y (.lst l)=>(w1.nl/\w2.nl/\Dt.noLs l=true)/\∃ q,FgA Y ρ q/\F [w1,w2,.d (.lst l)] U λw' Z=>match w' with
  | .d (.lst l')=>Dt.noLs l'=true/\∀a',onP q i (.ad a' (.lst l')) λB=>k.nx B Z
  | _=>False
 | _=>False
end
end L3
namespace L2
open PyProof.Rows PySem.W PySem.Calls
section
variable {X:Cx}{pos:Pos}
def zs2 (tk tv:TE):TE:=λσ H Q=>∀p,H p=none->zhu [(tk,tv)] σ (upd H p (.dT [])) λps H2=>∃x y H3,ps=[(x,y)]/\zeq H2 p x y H3/\Q (.ref p) H3
def zmn{tk tv:TE}(J:X.A.units+1<cLine)(O:QE X k tk)(U:QE X v tv):QE X (.Dict [some k] [v] pos) (zs2 tk tv):=⟨by
 intro pins s σ H Q I q;have I1:=I.laid (a:=s.heap.objs.size) (o:=.dT []) (h':=s.heap.push { cls:=.type "dict",data:=.dict #[] }) (t':=s.toks) (λ_ _ q=>ai _ q) (ak _) (zgK s.heap I.big);rw[arm_eval_Dict,zip_pairTrees [some k] [v] X.env pos rfl rfl,dictDisplay_pairs _ (by simp[pairTrees]) (by simp[pairTrees])];show ae (cQ (ae ?_));unfold subDict;show ae (wpAny_alloc (ae (bt ?_)));rw[if_pos (by simp[pairTrees])];show ae (thn (zhh (pos:=pos) O.run U.run zkb pins _ σ _ _ I1 (q _ (I.hok.fresh (ak s.heap.objs.size)))) ?_);rintro vs s2 ⟨ps,H2,I2,B,x,y,H3,rfl,Y,Z⟩
 cases B with
 | cons F r2=>
  cases r2;show bt ?_;rw[dR];show ae (ae (ae (ziK J I2 Y F.1 F.2 λs' I'=>ah ?_)));dsimp only;rw[List.forIn_nil];exact ah (ah (ah (ah ⟨.ref s.heap.objs.size,_,I',rfl,Z⟩)))⟩
def zs3 (te:TE):TE:=λσ H Q=>te σ H λx H1=>∃a ks,H1 a=some (dtO ks)/\∀ob,Q x (upd H1 a (.frz ob (dtO ks)))
def zmp(h:QE X e te):QE X e (zs3 te):=⟨by
 intro pins s σ H Q I q;show thn (h.run pins s σ H _ I q) ?_;rintro v O ⟨x,H1,I1,B,a,ks,F,J⟩;obtain⟨ob,I2⟩:=I1.frz F;exact⟨_,_,I2,B,J ob⟩⟩
def znC:AT->Hp->VK->Prop:=λxs H Q=>∃ (a:Addr) (kvs:List (AG×V)) (m:Nat),xs=[.ref a]/\Rd H a (dtO kvs)/\1<=m/\(∀q∈kvs,q.1.length=m)/\
 ∀ (ys:AT) (B:AF),IsL H (B.map stD) ys->B.Perm (kvs.map (·.1))->(B.Pairwise λa b=>HT.lexLt a b=true)->New H (.lst ys) Q
def zlp (hc:X.calm=true):CallQ X (.builtin "sorted") znC:=⟨by
 intro pins s σ H xs us Q I r h;obtain⟨a,kvs,m,rfl,hH,a3,hm,q⟩:=h;obtain⟨u,rfl,ru⟩:=zaY r;cases ru;obtain⟨lo,es,ep,xs,S,e1,ac,e3,hz,a4⟩:=zgL I hH;obtain⟨m0,ad,_⟩:=id I.loc
 have hsz:es.size=xs.length:=by
  have:=congrArg List.length e3;grind
 have J:xs.length=kvs.length:=by
  have:=congrArg List.length e1;grind
 have a5:∀b,(⟨#[],{}⟩:Heap).get? b=none:=λb=>by
  cases e:(⟨#[],{}⟩:Heap).get? b with
  | none=>rfl
  | some o'=>
   have:=az e;simp at this
 show kdu_sorted (h₀:=(⟨#[],{}⟩:Heap)) (L:=X.env.locals) (m:=m0) (news:=zaM s.heap X.env.locals) (zgJ (es:=es) a ep lo) (I.ok.hd hc) ⟨ad,λb o e=>(by right),aM _⟩ (λp hp=>?_) S (by rw[hsz,J];exact hz) λD h' ag vs F N a7 hl hP=>?_;obtain⟨b,o⟩:=p;have:=zD.mp hp;right
 have al:vs=xs.map λq=>Value.ref q.2:=by
  rw[<- e3];show dG (by right) λj h1 h2=>?_;obtain⟨e,he,hv⟩:=hP j vs[j] (ax h1);rw[hv,ce];rw[zbT] at he;rw[af] at h2;right
 have kp:∀b o,b≠X.env.locals->s.heap.get? b=some o->h'.get? b=some o:=λb o hb e=>(N (b,o) (ar _ (zD.mpr ⟨hb,e⟩))).1;have an:D≠X.env.locals:=(N (D,_) am).2.1
 have ba:s.heap.get? D=none:=by
  cases e:s.heap.get? D with
  | none=>rfl
  | some o=>exact absurd (a7 (D,o) (zD.mpr ⟨an,e⟩)) (cG _)
 have O:H D=none:=by
  cases e:H D with
  | none=>rfl
  | some o=>
   obtain⟨o',ap⟩:=uP (I.hok D o e);grind
 have as:Paired (zcD h' X.env.locals D) vs (xs.map (·.1)):=by
  rw[al]
  have bb:∀ (l:AE),(∀q∈l,H q.2=some (.tup (q.1.map V.int)))->Paired (zcD h' X.env.locals D) (l.map λq=>Value.ref q.2) (l.map (·.1)):=by
   intro l
   induction l with
   | nil=>intro _;exact .nil
   | cons q l ih=>
    intro hl;have U:=hl q am;obtain⟨items,rv,⟨o',ap,bc⟩,_⟩:=I.tuple (.of U);have a0:=zf U I.free;exact .cons ⟨q.2,items,rfl,⟨o',kp _ _ a0 ap,bc⟩,rv,a0,zf U O⟩ (ih λr hr=>hl r (ar _ hr))
  exact bb xs ac
 have bd:∀st∈xs.map (·.1),st.length=m:=λst a1=>by rw[e1] at a1;obtain⟨q,U,rfl⟩:=aD.mp a1;exact hm q U
 show zg4 (s:={ s with heap:=h',toks:=ag }) F.ns an (N (D,_) am).1 as (by rw[af,J];exact hz) a3 bd (by rw[e1];exact a4) λbs c p hp Y be bk a2=>?_;have Z:∀i∈p,i<xs.length:=λi hi=>by have:=aQ.mp ((hp.mem_iff).mp hi);rwa[af] at this
 have B:(p.map λi=>(xs.map (·.1)).getD i [])=(p.map λi=>xs.getD i ([],0)).map (·.1):=by rw[aF];exact bL λi hi=>by have h1:=Z i hi;simp[h1]
 have aa:(p.map λi=>vs.getD i .none)=(p.map λi=>xs.getD i ([],0)).map λq=>Value.ref q.2:=by rw[aF,al];exact bL λi hi=>by have h1:=Z i hi;simp[h1]
 have bl:∀q∈(p.map λi=>xs.getD i ([],0)),H q.2=some (.tup (q.1.map V.int)):=λq U=>by
  obtain⟨i,hi,rfl⟩:=aD.mp U;have h1:=Z i hi;have:xs.getD i ([],0)=xs[i]:=by simp[h1]
  rw[this];exact ac _ (bP h1)
 rw[aa] at a2;have bo:=Y;rw[B] at Y;have ab:p.length=xs.length:=by rw[hp.length_eq,aE,af]
 have I':=zb4 I ad (ys:=(p.map λi=>xs.getD i ([],0)).map λq=>V.ref q.2) (λb o hb e=>be b o hb (by grind) (kp b o hb e)) bk ba O a2 (zaZ _) (by rw[af,af,ab,J];exact hz) ag;show⟨.ref D,_,I',rfl,(q _ ((p.map λi=>xs.getD i ([],0)).map (·.1)) (zbI bl) ?_ Y).at O⟩;rw[<- e1,<- B];have:=hp.map λi=>(xs.map (·.1)).getD i [];rwa[u9] at this⟩
end
end L2
namespace L3
open L2
section
variable {X:Cx}{Pn:PN}{M S:AR}{fr fr':Bool}{pos p:Pos}{e a b c:Expr}{f fa fb fc:AD}
abbrev zqV (fk fv:AD):AD:=λρ n Q=>fk ρ n λy m=>fv ρ m λx q=>∃st,y = .d (stD st)/\onD x λd=>Q (.dt [(st,d)]) q
def zjo (hu:X.A.units+1<cLine)(hk:JE X Pn M fr a fa)(hv:JE X Pn M fr' b fb):JE X Pn M true (.Dict [some a] [b] pos) (zqV fa fb):=by
 obtain⟨ta,qa,ra⟩:=hk.ex;obtain⟨tb,qb,rb⟩:=hv.ex;show⟨_,zmn hu qa qb,⟨λA σ H ρ n Q R E P hf k=>λp Y=>?_⟩⟩;have S:=yO.upd (o:=.dT []) Y;have E1:=E.stay (zu.same S);show ra.run A σ _ ρ n _ _ E1 (P.same S) hf λw1 m1 v1 H1 r1 V1 Z _=>?_;show rb.run A σ H1 ρ m1 _ _ (E1.stay Z.st) Z.pn r1 λw2 m2 U H2 I V2 g2 _=>?_;obtain⟨st,rfl,I⟩:=I;rw[xg] at I;obtain⟨d,rfl,I⟩:=I;have B:H2 p=some (dtO []):=g2.st _ _ (Z.st _ _ zg (λ_ q=>by cases q)) (λ_ q=>by cases q);obtain⟨bd,xs,rfl,aa,hx⟩:=(V1.stay g2.st).is;obtain rfl:=hx.of_ints;have nA:=E.new Y;show⟨_,_,_,rfl,zeq.i (kvs:=[]) (v:=U) B (zq _ _ aa) (by change 0<sizeLine;decide),?_⟩;show k _ m2 _ _ I ⟨p,[(st,U)],rfl,zr nA zg,U,[],rfl,zeQ (λb o J O=>?_) V2.is,rfl⟩ ⟨λb o J O=>?_,zhg g2.pn B⟩ λ_=>⟨p,rfl,.of Y,p,[(st,U)],rfl,zg,U,[],rfl,zeQ (λb o J O=>?_) V2.is,rfl⟩;obtain⟨z1,F⟩:=zp.mp J;exact zr z1 (by rw[ze λy=>by rw[y,B] at F;cases F;exact O _ rfl];exact F);rw[ze (zf J Y)];exact g2.st _ _ (Z.st _ _ (S _ _ J) O) O;obtain⟨z1,F⟩:=zp.mp J;have hb:b≠p:=λy=>by rw[y,B] at F;cases F;exact O _ rfl
 exact zr (λy=>y.elim z1 hb) (by rw[ze hb];exact F)
abbrev zul (fk fd:AD):AD:=λρ n Q=>fk ρ n λy q=>fd ρ q λx B=>onE x λkvs=>∃st,y = .d (stD st)/\Q (.d (.bl (!(xW kvs st).isSome))) B
def zfZ (O:X.A.units+1<cLine)(U:JB X Pn M a fa)(Y:JB X Pn M b fb)(h1:behindInMarks .NotIn b=false:=by first | exact zdP _ (by ext) (by ext) | rfl):JT X Pn M (.Compare a [.NotIn] [b] pos) (ztE (zul fa fb)):=by
 obtain⟨ta,Z,ra⟩:=U.ex;obtain⟨tb,qb,rb⟩:=Y.ex;show⟨_,zhn (zki O Z qb) h1,zl ▸ zp1 (RE.rb (fr:=false) ⟨λA σ H ρ n Q R E P hf k=>?_⟩)⟩;show ra.run A σ H ρ n _ _ E P hf λw1 m1 v1 H1 r1 b1 q=>?_;show rb.run A σ H1 ρ m1 _ _ (E.stay q.st) q.pn r1 λw2 m2 v2 H2 I b2 g2=>?_;rw[zha] at I;obtain⟨kvs,rfl,st,rfl,r⟩:=I;obtain⟨ad,ks,rfl,B,J⟩:=b2;obtain⟨bd,xs,rfl,F,hx⟩:=ue (b1.stay g2.st);obtain rfl:=hx.of_ints;show⟨ad,xE ks st,rfl,zbu.i B F,k _ m2 _ H2 r (Val.of ?_) (q.trans g2) λz=>by cases z⟩
 cases e:xW kvs st with
 | none=>rw[(J.look (k:=st)).1 e];rfl
 | some d=>obtain⟨v,h1,h2⟩:=(J.look (k:=st)).2 d e;rw[h1];rfl
abbrev zm8:AU->Mo W:=λF n Q=>on1 F λx=>onZ x λkvs=>∃m:Nat,1<=m/\(∀q∈kvs,q.1.length=m)/\∀B:AF,B.Perm (kvs.map (·.1))->(B.Pairwise λa b=>HT.lexLt a b=true)->Q (.d (xN B)) n
def zqq:FL Pn true znC zm8:=⟨λA H xs ws n Q R J b P h k=>by
 simp only[zm8,zak,znr] at h;obtain⟨x,rfl,kvs,rfl,m,h1,Z,h⟩:=h;obtain⟨v,rfl,bb⟩:=za3 b;obtain⟨a,ks,rfl,ha,O⟩:=zm5 bb;show⟨a,ks,m,rfl,ha,h1,λq hq=>?_,λI B hy U hs p H' Y g S=>?_⟩;have:q.1∈ks.map (·.1):=aD.mpr ⟨q,hq,rfl⟩;rw[O.keys] at this;obtain⟨q',h2,h3⟩:=aD.mp this;rw[<- h3];exact Z q' h2;rw[O.keys] at U;have F:IsL (zL A H) (B.map stD) I:=uH J.noT (yq B) hy;exact k _ n _ H' (h B U hs) (uu F (zu.same S) (J.new Y) g) (Go.same P S) λz=>uh F S Y g⟩
abbrev zq1 (i:Nat) (f:AD):Ms:=λρ n k=>onV ρ i λx=>onE x λkvs=>f ρ n λw m=>onD w λd=>k.rt (.tz kvs d) m
def zju (i:Nat){x:Str}{x1}{q:Pos}(he:JE X Pn M fr' e f)(hi:i∈M:=by ext)(hN:X.N[i]?=some x:=by rfl)(hv:Vis X.env.scope x:=by walk_at "v")(hd:Ah x:=by ext)
  (Z:(x==("__classdict__" : Str))=false:=by ext) {pos':Pos} (h1:starEach [.Name x p,e] X.env=(false,eval (.Name x p) X.env)::starEach [e] X.env:=by rfl) (h2:starEach [e] X.env=(false,eval e X.env)::starEach [] X.env:=by rfl) :
  JS X Pn S M false (.Return (some (.Tuple [.Name x p,e] x1 q)) pos') (zq1 i f):=by
 obtain⟨te,qe,re⟩:=he.ex;show⟨_,uV (zmp (zd5 (zE (qv i hN hv hd Z) (zE qe yC h2) h1))),⟨λB A σ H ρ n k D a kk J=>?_⟩⟩;unfold zq1 at J;rw[x4] at J;obtain⟨w2,e2,J⟩:=J;rw[zha] at J;obtain⟨kvs,rfl,J⟩:=J;obtain⟨v2,s1,_,s3⟩:=a.env.val i _ e2;obtain⟨F,rfl,hA,hb,_⟩:=s3 hi;have I:=a.mine i _ F hi e2 s1
 have hn:¬ B.A0 F:=λz=>by
  rcases I with I | I;obtain⟨o,o1,o2,_⟩:=a.frm.al F z;exact I o o1 o2;exact a.frm.cn F I z
 show⟨.ref F,s1,?_⟩;show re.run A σ H ρ n _ _ a.env a.pn J λw m v H' r hV g _=>?_;have U:=a.step g;rw[xg] at r;obtain⟨d,rfl,r⟩:=r;obtain⟨a2,ks,e3,g1,g2⟩:=hb.stay g.st;cases e3;show⟨zc6 (show 2<=lim by ext),λp H2 np gp S=>⟨F,ks,S _ _ g1,λob=>?_⟩⟩;have O:=U.step (Go.same U.pn S);have aa:p≠F:=λy=>by rw[y,g1] at np;cases np
 have up:zu (zL A H') (zL B.A0 (L2.upd H2 F (.frz ob (dtO ks)))):=λb o Y _=>by obtain⟨z1,z2⟩:=zp.mp Y;exact zr (λy=>z1 (a.frm.sub b y)) (by rw[ze (show b≠F from λy=>z1 (by rw[y];exact hA))];exact S _ _ z2)
 show kk.rt (.tz kvs d) m _ _ ⟨p,F,ob,ks,v,rfl,zr (λz=>U.env.new np (U.frm.sub p z)) (by rw[ze aa];exact gp),zr hn zg,g2.stay up,hV.is.stay up⟩ (λb o Y nb nc=>?_) (zhg (O.pn.less O.frm.sub) (S _ _ g1)) (λz=>by cases z) r
 rw[ze (show b≠F from λy=>by
  subst y;rcases I with I | I;exact I o Y nb;exact nc I)]
 exact O.frm.st b o Y nb nc
abbrev dIxZ:W->W->Mo W:=λx y n Q=>match x with
 | .tz kvs d=>match y with
  | .d (.int i)=>match i with
   | .ofNat 0=>Q (.df kvs) n
   | .ofNat 1=>Q (.d d) n
   | _=>False
  | _=>False
 | _=>False
abbrev zt9 (i:Nat) (F:AU->Mo W) (q B:AD) (mg:W->Ev->(Ev->Prop)->Prop) (fs:Ms):Ms:=λρ n k=>q ρ n λw1 I=>onV ρ i λx=>onL x λl=>∃l' d,l=l'++[d]/\B (ρ.set i (some (.d (.lst l')))) I λJ O=>F [w1,.d d,J] O λw m=>onL w λr=>zog mg fs (ρ.set i (some (.d (.lst l')))) k (r.map W.d) m
def zoD(i:Nat){x y:Str}{st:Stmt}{ps:AM}{fA:Addr}{fd:Ac}{F:PN->AU->Mo W}{J O I pc:Pos}{body:List Stmt}{mg:W->Ev->(Ev->Prop)->Prop}(hK:X.K=K)(hp:PassesOwn (model X.prog X.w) X.A X.env X.xe)(hc:X.calm=true)(Df:Dfn X.K X.mg x st ps fA fd)(G:FnOk X.prog X.w X.K X.mg X.base CX0 j fA fd ps (spV 3 true F))(hr:Room kk X.A)(h1:JE X Pn M fr' a fa)(h3:JE X Pn M false c fc)(hg:JG X (S++M) M tg mg)(hb:JSs X Pn S M fr body fs)(hi:i∈M:=by ext)(hN:X.N[i]?=some y:=by rfl)(hv:Vis X.env.scope y:=by walk_at "v")(hd:Ah y:=by ext)(ab:(y==("__classdict__" : Str))=false:=by ext)(ac:j<=kk:=by ext)(ag:Gl X x:=by rfl)(an:Ah x:=by ext)(e1:starEach [a,.Call (.Attribute (.Name y I) "pop" J) [] [] O,c] X.env=(false,eval a X.env)::starEach [.Call (.Attribute (.Name y I) "pop" J) [] [] O,c] X.env:=by rfl)(e2:starEach [.Call (.Attribute (.Name y I) "pop" J) [] [] O,c] X.env=(false,eval (.Call (.Attribute (.Name y I) "pop" J) [] [] O) X.env)::starEach [c] X.env:=by rfl)(e3:starEach [c] X.env=(false,eval c X.env)::starEach [] X.env:=by rfl)(as:(backTo pc (starEach [.Call (.Attribute (.Name y I) "pop" J) [] [] O,c] X.env)).any (·.1)=false:=by rfl)(U:attributeBase (.Name y I) "pop" X.env (eval (.Name y I) X.env)=eval (.Name y I) X.env:=by rfl)(Y:(J.endLine==O.line)=true:=by rfl)(hs:∀z,foldedSetIterable (.Call (.Name x p) [a,.Call (.Attribute (.Name y I) "pop" J) [] [] O,c] [] pc) X.env z=pure z:=by intro _;rfl)(hS:9999∉S:=by ext) :
  JS X Pn S M fr (.For tg (.Call (.Name x p) [a,.Call (.Attribute (.Name y I) "pop" J) [] [] O,c] [] pc) body [] pos) (zt9 i (F Pn) fa fc mg fs):=by
 subst hK;obtain⟨t1,q1,r1⟩:=h1.ex;obtain⟨t3,q3,r3⟩:=h3.ex;obtain⟨a5,qg,rg⟩:=hg.ex;obtain⟨tb,qb,rb⟩:=hb.ex;show⟨_,zhm hp hc (zko (zkj Df G hr (zE q1 (zE (zkl (qv i hN hv hd ab) U Y) (zE q3 yC e3) e2) e1) ac ag an e1 as)) qg qb hs,⟨λB A σ H ρ n k D Z a0 hf=>?_⟩⟩;show r1.run A σ H ρ n _ _ Z.env Z.pn hf λw1 m1 v1 H1 ra V1 g1 _=>?_;have a1:=Z.step g1;rw[x4] at ra;obtain⟨wx,ex,ra⟩:=ra;rw[xz] at ra;obtain⟨l,rfl,l',d,rfl,ra⟩:=ra;obtain⟨ad,xs,s1,hA,hH,hl⟩:=a1.own hi ex;show⟨.ref ad,s1,.inl ⟨rfl,_,SqL.of hH⟩,?_⟩;obtain⟨q,y0,rfl,a4,hy⟩:∃q y0,xs=q++[y0]/\IsL (zL A H1) l' q/\Is (zL A H1) d y0:=zgV hl;show⟨ad,_,y0,rfl,rfl,hH,by simp,?_⟩;rw[List.dropLast_concat];have a2:=a1.wr hi ex s1 a4;have he:zL A (L2.upd H1 ad (.lst q))=zL A H1:=yg hA;show r3.run A σ _ _ m1 _ _ a2.env a2.pn ra λw3 m3 v3 H3 rc V3 g3 _=>?_;have a3:=a2.step g3;change spV 3 true F ([v1,y0,v3]++[]) _ _ E0;rw[cY];have V1':Val A (L2.upd H1 ad (.lst q)) w1 v1:=by unfold Val;rw[he];exact V1
 have Vy:Val A (L2.upd H1 ad (.lst q)) (.d d) y0:=Val.of (by rw[he];exact hy);show⟨Pn,A,[w1,.d d,w3],m3,_,a3.env.al,⟨v1,_,rfl,V1'.stay g3.st,y0,_,rfl,Vy.stay g3.st,v3,_,rfl,V3,rfl⟩,rfl,a3.pn,rc,λw m v H4 r4 V4 g4 _=>?_⟩;rw[xz] at r4;obtain⟨r,rfl,r4⟩:=r4;obtain⟨rd,zs,rfl,aa,hz⟩:=V4;exact⟨rd,rfl,⟨zs,.of (zq _ _ aa)⟩,zgQ rg rb hS (a3.step g4) a0 (zgY aa hz) r4⟩
variable {p1 p2 p3 p4:Pos}{apos cpos:Pos}
abbrev dGetK (fd fk q:AD):AD:=λρ n Q=>fd ρ n λx B=>onK x λkvs=>fk ρ B λy F=>q ρ F λz I=>onO (ztG y) λk=>onD z λd=>Q (.d ((xW kvs k).getD d)) I
def At3.moveO(h:At3 Pn B S M A σ H ρ n)(hi:i∈M)(hj:j∈M)(ag:i∉S)(e:ρ[j]?=some (some w))(s:σ[j]?=some (some (.ref U))):At3 Pn B S M A (σ.set i (some (.ref U))) H ((ρ.set j none).set i (some w)) n:=by
 have O:∀q (u:W),((ρ.set j none).set i (some w))[q]?=some (some u)->q≠i->q≠j/\ρ[q]?=some (some u):=λq u F Y=>by
  rw[av (Ne.symm Y)] at F;by_cases aa:q=j;subst aa;have I:=(aj.mp F).1;rw[bN] at I;rw[aU I] at F;cases F;rw[av (Ne.symm aa)] at F;exact⟨aa,F⟩
 have Z:∀ (u:W) (b:Addr),((ρ.set j none).set i (some w))[i]?=some (some u)->i<σ.length/\u=w:=λu b F=>by have I:=(aj.mp F).1;rw[bN] at I;rw[aU I] at F;rw[bN] at I;exact⟨by rw[h.env.len];exact I,by cases F;rfl⟩
 obtain⟨v0,s0,_,o0⟩:=h.env.val j w e;rw[s] at s0;cases s0;show⟨⟨by simp[h.env.len],λq u F=>?_,λq k u u' b Y hk ab e1 e2 s1 s2=>?_,h.env.al⟩,h.frm,h.pn,h.prot,⟨λk hk=>?_,h.fix.2⟩,λq u b Y F sq=>?_⟩;by_cases Y:q=i;subst Y;obtain⟨I,rfl⟩:=Z u U F;exact⟨.ref U,aU I,λz=>absurd hi z,λ_=>o0 hj⟩;obtain⟨_,z⟩:=O q u F Y;rw[av (Ne.symm Y)];exact h.env.val q u z;by_cases J:q=i;subst J;obtain⟨I,rfl⟩:=Z u U e1;rw[aU I] at s1;cases s1;obtain⟨k1,k2⟩:=O k u' e2 (Ne.symm ab);rw[av ab] at s2;exact h.env.dis j k _ u' U hj hk (Ne.symm k1) e k2 s s2;obtain⟨q1,q2⟩:=O q u e1 J;rw[av (Ne.symm J)] at s1;by_cases ac:k=i;subst ac;obtain⟨I,rfl⟩:=Z u' U e2;rw[aU I] at s2;cases s2;exact h.env.dis q j u _ U Y hj q1 q2 e s1 s;obtain⟨_,k2⟩:=O k u' e2 ac;rw[av (Ne.symm ac)] at s2;exact h.env.dis q k u u' b Y hk ab q2 k2 s1 s2;rw[av (show i≠k from λz=>ag (by rw[z];exact hk))];exact h.fix.1 k hk;by_cases J:q=i;subst J;obtain⟨I,rfl⟩:=Z u U F;rw[aU I] at sq;cases sq;exact h.mine j _ U hj e s;rw[av (Ne.symm J)] at sq;exact h.mine q u b Y (O q u F J).2 sq
def zlL(j:Nat){x y:Str}{px O sp:Pos}(Z:X.N.Nodup)(hi:X.N[i]?=some x)(hx:Loc X.env.scope x)(U:j∈M:=by ext)(q:i∈M:=by ext)(F:i∉S:=by ext)(I:X.N[j]?=some y:=by rfl)(hv:Vis X.env.scope y:=by walk_at "v")(hd:Ah y:=by ext)(J:(y==("__classdict__" : Str))=false:=by ext)(hs:swapsWith (.Name y O) (some (.Name x px)) sp.line X.env=pure false:=by rfl)(hf:X.fn x=true\/X.env.scope.names.lookup x=some .local:=by walk_at "l"):JS X Pn S M fr (.Assign [.Name x px] (.Name y O) sp) (zoS i j):=by
 show⟨_,ux (i:=i) Z hi hx (qv j I hv hd J) hs hf,⟨ ?_⟩⟩;rintro B A σ H ρ n k D a kk ⟨w,e,r⟩;obtain⟨v,Y,_,s3⟩:=a.env.val j w e;obtain⟨ad,rfl,hA,_,_⟩:=s3 U;exact⟨.ref ad,Y,kk.nx _ _ H _ n (a.moveO q U F e Y) r⟩
end
end L3
namespace L2
open PyProof.Rows PySem.W PySem.Calls
section
variable {prog:Aa}{w:Ab}{A:Ae}{E:AA}{s:AZ}
def zeI {O t:Addr}{items:AK}(U:t≠O):∀ (n i:Nat) (s:AZ) (Q:AN->AZ->Prop),s.heap.IsListIter O t i->s.heap.IsList t items->i+n<=items.size->
  (∀h',h'.IsListIter O t (i+n)->Heap.SameBut O s.heap h'->Q ((items.toList.drop i).take n) { s with heap:=h' })->Ag prog w A (draw (.ref O) n) Q E s
 | 0,i,s,Q,I,_,_,hQ=>by change wpAny _ _ (pure []) Q E s;exact ah (by simpa using hQ s.heap I (Heap.SameBut.refl ..))
 | n+1,i,s,Q,I,ht,ab,hQ=>by
  have Y:i<items.size:=by omega
  change wpAny _ _ (pyNext (.ref O) >>= _) Q E s;show ae (wpAny_pyNext_list_item I ht (x:=items[i]) (by simp[Y]) λaa B q=>?_);show ae (bt (zeI U n (i+1) _ _ B (ht.extBut q.extBut U) (by omega) λZ F J=>ah ?_));have hd:items.toList.drop i=items[i]::items.toList.drop (i+1):=by simp[bW,Y]
  have:=hQ Z (by rw[show i+(n+1)=i+1+n by omega];exact F) (q.trans J);rw[hd,List.take_succ_cons] at this;exact this
def za2{env:Env}{q:AO}{x1}{t:Addr}{items:AK}{Q:Unit->AZ->Prop}(hh:A.handled=none)(U:s.heap.IsList t items)(hn:(assignEach q env).length=items.size)(I:(assignEach q env).findIdx? (·.1)=none)(h:∀h',Heap.ExtBut s.heap.objs.size s.heap h'->Ag prog w A (assignInOrder ((assignEach q env).map (·.2)) items.toList) Q E { s with heap:=h' }) :
  Ag prog w A (assign (.Tuple q x1 pos) env (.ref t)) Q E s:=by
 have Y:t≠s.heap.objs.size:=by obtain⟨o,ho,_⟩:=U;exact aV (az ho)
 rw[assign_Tuple];show ae (cQ ?_);unfold unpack;rw[hn,I];show ae (bt ?_);unfold unpackItems;show ae ?_;unfold notIterableAtAll;show ae (eR U.typeIs slot_list_iter.lookup ?_);show ah ?_;simp only[aP,if_false];show ae (bt (fJ U ?_));show ae (bt (zeI Y items.size 0 _ _ ⟨_,aw _ rfl,rfl,rfl⟩ (U.push _) (by omega) λZ F B=>?_));have aa:List.take items.size (List.drop 0 items.toList)=items.toList:=by rw[dC];exact bj (by simp)
 rw[aa];rw[if_neg (by simp)];have J:Z.IsList t items:=(U.push _).extBut B.extBut Y;show ae (bt (wpAny_pyNext_list_end hh F J (by simp) λab O=>?_));simp only[Option.isSome_none,aP,if_false];exact ah (h ab λb o hb e=>O b o hb (B.extBut b o hb (ai _ e)))
variable {X:Cx}{pos:Pos}
def zux (K:AH)(n:Nat)(t:TGs):TG:=λv σ H Q=>∃a xs,v = .ref a/\SqL K H a xs/\xs.length=n/\t xs σ H Q
def zpG {es:AO}{k:Nat}{t:TGs}{n:Nat}(J:X.calm=true)(h:QGs X es t)
  (hn:(assignEach es X.env).length=n:=by rfl) (q:(assignEach es X.env).findIdx? (·.1)=none:=by rfl):QG X (.Tuple es k pos) (zux X.K n t):=⟨by
 intro pins s σ H v u Q I r B;obtain⟨a,xs,O,U,Y,B⟩:=B;subst O;cases r;obtain⟨Z,F,ht,hz⟩:=I.list U;show za2 (I.ok.hd J) ht.isList (by simp[hn,<- Y,F.length]) q λh' hx=>?_;have I1:Inv X pins σ H { s with heap:=h' }:=I.kept (t':=s.toks) λb o e=>hx b o (aV (az e)) e;exact h.run pins _ σ H xs _ Q I1 (by simpa using F) B⟩
end
end L2
namespace L3
open L2
section
variable {X:Cx}{Pn:PN}{M S:AR}{fr fr':Bool}{e:Expr}{f:AD}{pos:Pos}
def At3.set2(h:At3 Pn B S M A σ H ρ n)(F:i∉M)(I:j∉M)(J:i∉S++M)(O:j∉S++M)(h1:Val A H w1 U)(h2:Val A H w2 Y):At3 Pn B S M A ((σ.set i (some U)).set j (some Y)) H ((ρ.set i (some w1)).set j (some w2)) n:=
 EnvR.mineG h ((h.env.set F h1).set I h2) λq Z=>by have qi:i≠q:=λz=>J (by rw[z];exact Z);have qj:j≠q:=λz=>O (by rw[z];exact Z);rw[av qj,av qi,av qj,av qi];exact⟨rfl,rfl⟩
abbrev zun (i j:Nat) (f:AD):Ms:=λρ n k=>f ρ n λw m=>match w with
 | .tz kvs d=>onP ρ i (.df kvs) λq=>onP q j (.d d) λB=>k.nx B m
 | _=>False
def zoH {i j:Nat}{x y:Str}{k:Nat}{px F I:Pos}(K:AH)(hK:X.K=K)(hc:X.calm=true)(hN:X.N.Nodup)(he:JE X Pn M fr' e f)(hx:X.N[i]?=some x:=by rfl)(hy:X.N[j]?=some y:=by rfl)(lx:Loc X.env.scope x:=by first | exact Or.inl rfl | exact Or.inr rfl)(ly:Loc X.env.scope y:=by first | exact Or.inl rfl | exact Or.inr rfl)(J:i∉M:=by ext)(O:j∉M:=by ext)(U:i∉S++M:=by ext)(Y:j∉S++M:=by ext)
  (fx:X.fn x=true\/X.env.scope.names.lookup x=some .local:=by walk_at "l") (fy:X.fn y=true\/X.env.scope.names.lookup y=some .local:=by walk_at "l")
  (ha:(assignEach [.Name x px,.Name y F] X.env).length=2:=by rfl) (hb:(assignEach [.Name x px,.Name y F] X.env).findIdx? (·.1)=none:=by rfl) (h1:(assignEach [.Name x px,.Name y F] X.env).map (·.2)=assign (.Name x px) X.env::(assignEach [.Name y F] X.env).map (·.2):=by rfl) (h2:(assignEach [.Name y F] X.env).map (·.2)=assign (.Name y F) X.env::(assignEach [] X.env).map (·.2):=by rfl)
  (hs:swapsWithSole [.Tuple [.Name x px,.Name y F] k I] e pos.line X.env=pure false:=by rfl) (hw:swappedStores [.Tuple [.Name x px,.Name y F] k I] e X.env=pure none:=by rfl) (h3:(assignEach [.Tuple [.Name x px,.Name y F] k I] X.env).map (·.2)=[assign (.Tuple [.Name x px,.Name y F] k I) X.env]:=by rfl) :
  JS X Pn S M fr (.Assign [.Tuple [.Name x px,.Name y F] k I] e pos) (zun i j f):=by
 subst hK;obtain⟨te,q,r⟩:=he.ex;show⟨_,zkq q (zkm hc (yH (xj hN hx lx fx) (yH (xj hN hy ly fy) zco h2) h1) ha hb) hs hw h3,⟨λB A σ H ρ n k D a kk hf=>?_⟩⟩;show r.run A σ H ρ n _ _ a.env a.pn hf λw m v H' r hv g _=>?_;have a':=a.step g
 cases w with
 | tz kvs d=>
  have r:onP ρ i (.df kvs) λZ=>onP Z j (.d d) λaa=>k.nx aa m:=r;rw[yW,yW] at r;obtain⟨b,c,ob,ks,y0,rfl,z1,z2,z3,z4⟩:=hv;exact⟨b,_,rfl,.inl (.inl (zq _ _ z1)),rfl,_,_,rfl,_,_,rfl,rfl,kk.nx A _ H' _ m (a'.set2 (w1:=.df kvs) (w2:=.d d) J O U Y ⟨c,ob,ks,rfl,z2,z3⟩ (Val.of z4)) r⟩
 | _=>exact False.elim r
abbrev zq3 (i j:Nat) (f:AD):Ms:=λρ n k=>f ρ n λw m=>match w with
 | .d (.lst [.lst F,.lst I])=>Dt.noLs F=true/\Dt.noLs I=true/\∀a b,onP ρ i (.ad a (.lst F)) λq=>onP q j (.ad b (.lst I)) λB=>k.nx B m
 | _=>False
def zlM {i j:Nat}{x y:Str}{k:Nat}{px F I:Pos}(K:AH)(hK:X.K=K)(hc:X.calm=true)(hN:X.N.Nodup)(he:JE X Pn M fr' e f)(hx:X.N[i]?=some x:=by rfl)(hy:X.N[j]?=some y:=by rfl)(lx:Loc X.env.scope x:=by first | exact Or.inl rfl | exact Or.inr rfl)(ly:Loc X.env.scope y:=by first | exact Or.inl rfl | exact Or.inr rfl)(O:i∉M:=by ext)(U:j∉M:=by ext)(Y:i∉S++M:=by ext)(Z:j∉S++M:=by ext)
  (fx:X.fn x=true\/X.env.scope.names.lookup x=some .local:=by walk_at "l") (fy:X.fn y=true\/X.env.scope.names.lookup y=some .local:=by walk_at "l")
  (ha:(assignEach [.Name x px,.Name y F] X.env).length=2:=by rfl) (hb:(assignEach [.Name x px,.Name y F] X.env).findIdx? (·.1)=none:=by rfl) (h1:(assignEach [.Name x px,.Name y F] X.env).map (·.2)=assign (.Name x px) X.env::(assignEach [.Name y F] X.env).map (·.2):=by rfl) (h2:(assignEach [.Name y F] X.env).map (·.2)=assign (.Name y F) X.env::(assignEach [] X.env).map (·.2):=by rfl)
  (hs:swapsWithSole [.Tuple [.Name x px,.Name y F] k I] e pos.line X.env=pure false:=by rfl) (hw:swappedStores [.Tuple [.Name x px,.Name y F] k I] e X.env=pure none:=by rfl) (h3:(assignEach [.Tuple [.Name x px,.Name y F] k I] X.env).map (·.2)=[assign (.Tuple [.Name x px,.Name y F] k I) X.env]:=by rfl) :
  JS X Pn S M fr (.Assign [.Tuple [.Name x px,.Name y F] k I] e pos) (zq3 i j f):=by
 subst hK;obtain⟨te,q,r⟩:=he.ex;show⟨_,zkq q (zpG hc (yH (xj hN hx lx fx) (yH (xj hN hy ly fy) zco h2) h1) ha hb) hs hw h3,⟨λB A σ H ρ n k D a kk hf=>?_⟩⟩;show r.run A σ H ρ n _ _ a.env a.pn hf λw m v H' r hv g hz=>?_;have a':=a.step g;split at r
 ·rename_i l1 l2;obtain⟨n1,n2,r⟩:=r;obtain⟨b,xs,rfl,hb,hl⟩:=hv;obtain⟨x0,r0,rfl,h0,x1,r1,rfl,h1,J⟩:=hl;cases J;obtain⟨a1,y1,rfl,z1,u1⟩:=h0;obtain⟨a2,y2,rfl,z2,u2⟩:=h1;have r:=r a1 a2;rw[yW,yW] at r;exact⟨b,_,rfl,SqL.of (zq _ _ hb),rfl,_,_,rfl,_,_,rfl,rfl,kk.nx A _ H' _ m (a'.set2 (w1:=.ad a1 (.lst l1)) (w2:=.ad a2 (.lst l2)) O U Y Z ⟨⟨_,rfl⟩,a1,y1,rfl,zf8 z1,zdD n1 u1⟩ ⟨⟨_,rfl⟩,a2,y2,rfl,zf8 z2,zdD n2 u2⟩) r⟩
 cases r
abbrev zjK (i:Nat):Ms:=λρ n k=>onV ρ i λw=>match w with
 | .ad B (.tup [_,.lst l])=>l≠[]/\∃ q,FgA B ρ q/\k.nx q n
 | _=>False
def zmA(hS:9999∈S)(hi:i∉M):RS Pn S M fr (zmM (zvy K "list" zvr (tOp (zqF K) (zaU i) (tC (.int 1))))) (zjK i):=⟨by
 rintro B A σ H ρ n k D a kk I;unfold zjK at I;rw[x4] at I;obtain⟨w,e0,I⟩:=I;split at I
 ·rename_i ad d0 l;obtain⟨O,U,hF,r⟩:=I;obtain⟨v,s1,s2,_⟩:=a.env.val i _ e0;obtain⟨_,hv⟩:=s2 hi;obtain⟨b,xs,rfl,hb,hl⟩:=hv;obtain⟨x0,r0,rfl,h0,x1,r1,rfl,h1,J⟩:=hl;obtain⟨q,ys,rfl,Y,Z⟩:=h1;cases J;obtain⟨n1,F⟩:=zp.mp Y
  have aa:q=ad:=by
   by_cases y:q=ad;exact y;exact absurd ⟨y,ys,F⟩ n1
  subst aa;obtain⟨nA,hH⟩:=zp.mp F;have hB:H b=some (.tup [x0,.ref q]):=zq _ _ (ze5 _ _ hb);have ab:ys.length≠0:=λz=>O (aY (by rw[<- Z.length];exact z));show⟨.ref b,s1,b,_,1,.ref q,rfl,rfl,SqT.of hB,rfl,.inl ⟨rfl,_,SqL.of hH⟩,q,ys,ys[ys.length - 1]'(by omega),rfl,rfl,hH,ax _,?_⟩;exact kk.nx A σ _ U n (a.inUpd hS F hF) r
 cases I⟩
def zlK (i:Nat){x:Str}{k:Nat}{O U sp J q B:Pos}(Z:9999∈S:=by ext)(hi:i∉M:=by ext)(hN:X.N[i]?=some x:=by rfl)(hv:Vis X.env.scope x:=by walk_at "v")(hd:Ah x:=by ext)
  (Y:(x==("__classdict__" : Str))=false:=by ext) (hs:swapsWith (.Call (.Attribute (.Subscript (.Name x J) (.Constant (.int 1) k q) B) "pop" O) [] [] U) none sp.line X.env=pure false:=by rfl) (F:attributeBase (.Subscript (.Name x J) (.Constant (.int 1) k q) B) "pop" X.env (eval (.Subscript (.Name x J) (.Constant (.int 1) k q) B) X.env)=eval (.Subscript (.Name x J) (.Constant (.int 1) k q) B) X.env:=by rfl) (I:(O.endLine==U.line)=true:=by rfl) :
  JS X Pn S M fr (.Expr (.Call (.Attribute (.Subscript (.Name x J) (.Constant (.int 1) k q) B) "pop" O) [] [] U) sp) (zjK i):=
 ⟨_,zd8 (zkl (zkk yt (qv i hN hv hd Y) yk (λ_ _=>rfl)) F I) hs,zmA Z hi⟩
variable {K:AH}
abbrev ziH:W->W->Mo W:=λx y n Q=>onB x λb=>onL y λl=>∃q:List Bool,l=q.map .bl/\Q (.d (.bl (!q.contains b))) n
def zmR:F2 Pn false (rIn K true) ziH:=⟨λA H x y O U n Q R Y B q P h k=>by simp only[ziH,zj1,xz] at h;obtain⟨b,rfl,l,rfl,F,rfl,h⟩:=h;obtain⟨a,xs,rfl,I,J⟩:=y9 q;obtain rfl:=zji J;have e:x = .bl b:=B;subst e;exact⟨a,_,rfl,.inl (.of I),rfl,zgO F,k _ n _ H h (Val.of (by rw[zjc];rfl)) (Go.refl P) λz=>by cases z⟩⟩
end
end L3
local macro_rules | `(tactic| walk_at "up")=>`(tactic| first | assumption | ((with_reducible refine (?_:L2.yO _ _));(first | exact L2.zfh _ | (intro _ _ _;((repeat (first | assumption | refine L2.zqs (by assumption) ?_ | refine L2.zkY (by assumption) ?_ | refine L2.zkW (by assumption) ?_ | refine L2.uz (by assumption) ?_ (by assumption) | refine L2.uz (by assumption) ?_ L2.zo0 | refine L2.uz (by assumption) ?_ L2.zjY | refine L2.uz (by assumption) ?_ L2.zjZ | refine L2.zkX (by assumption) ?_ | refine L2.zie (by assumption) ?_ | refine L2.zie (L2.y6 (by assumption)) ?_ | refine L2.zdl (by assumption) ?_ | refine L2.zdl (L2.y6 (by assumption)) ?_ | refine L2.zbi (by assumption) ?_ | refine L2.zbi (L2.y6 (by assumption)) ?_ | refine L2.zbh (by assumption) ?_ | refine L2.zbh (L2.y6 (by assumption)) ?_ | refine L2.zdk (by assumption) ?_ | refine L2.zdk (L2.y6 (by assumption)) ?_ | refine L2.zdm (by assumption) ?_ | refine L2.zdm (L2.y6 (by assumption)) ?_ | refine L2.zab (by assumption) ?_ | refine L2.zab (L2.y6 (by assumption)) ?_ | refine L2.zaa (by assumption) ?_ | refine L2.zaa (L2.y6 (by assumption)) ?_));done)))) | ((with_reducible refine (?_:L2.zu _ _));(first | exact L2.zu.refl _ | (intro _ _ _ _;((repeat (first | assumption | refine L2.zqs (by assumption) ?_ | refine L2.zkY (by assumption) ?_ | refine L2.zkW (by assumption) ?_ | refine L2.uz (by assumption) ?_ (by assumption) | refine L2.uz (by assumption) ?_ L2.zo0 | refine L2.uz (by assumption) ?_ L2.zjY | refine L2.uz (by assumption) ?_ L2.zjZ | refine L2.zkX (by assumption) ?_ | refine L2.zie (by assumption) ?_ | refine L2.zie (L2.y6 (by assumption)) ?_ | refine L2.zdl (by assumption) ?_ | refine L2.zdl (L2.y6 (by assumption)) ?_ | refine L2.zbi (by assumption) ?_ | refine L2.zbi (L2.y6 (by assumption)) ?_ | refine L2.zbh (by assumption) ?_ | refine L2.zbh (L2.y6 (by assumption)) ?_ | refine L2.zdk (by assumption) ?_ | refine L2.zdk (L2.y6 (by assumption)) ?_ | refine L2.zdm (by assumption) ?_ | refine L2.zdm (L2.y6 (by assumption)) ?_ | refine L2.zab (by assumption) ?_ | refine L2.zab (L2.y6 (by assumption)) ?_ | refine L2.zaa (by assumption) ?_ | refine L2.zaa (L2.y6 (by assumption)) ?_));done)))) | ((repeat (first | assumption | refine L2.zqs (by assumption) ?_ | refine L2.zkY (by assumption) ?_ | refine L2.zkW (by assumption) ?_ | refine L2.uz (by assumption) ?_ (by assumption) | refine L2.uz (by assumption) ?_ L2.zo0 | refine L2.uz (by assumption) ?_ L2.zjY | refine L2.uz (by assumption) ?_ L2.zjZ | refine L2.zkX (by assumption) ?_ | refine L2.zie (by assumption) ?_ | refine L2.zie (L2.y6 (by assumption)) ?_ | refine L2.zdl (by assumption) ?_ | refine L2.zdl (L2.y6 (by assumption)) ?_ | refine L2.zbi (by assumption) ?_ | refine L2.zbi (L2.y6 (by assumption)) ?_ | refine L2.zbh (by assumption) ?_ | refine L2.zbh (L2.y6 (by assumption)) ?_ | refine L2.zdk (by assumption) ?_ | refine L2.zdk (L2.y6 (by assumption)) ?_ | refine L2.zdm (by assumption) ?_ | refine L2.zdm (L2.y6 (by assumption)) ?_ | refine L2.zab (by assumption) ?_ | refine L2.zab (L2.y6 (by assumption)) ?_ | refine L2.zaa (by assumption) ?_ | refine L2.zaa (L2.y6 (by assumption)) ?_));done))
local macro_rules | `(tactic| left)=>`(tactic| ((try (with_reducible conv=>whnf));repeat (with_reducible refine L3.zqP ?_;try (with_reducible conv=>whnf)));try dsimp only)
local macro_rules | `(tactic| walk_at "ct")=>`(tactic| (with_reducible refine L3.zu8 ?_ ?_;(first | decide | assumption | rfl));left)
local macro_rules | `(tactic| walk_at "cf")=>`(tactic| (with_reducible refine L3.zrP ?_ ?_;(first | decide | assumption | rfl));left)
namespace Law
open L2 L3
abbrev lc:AM:=[Ao,Ap]
abbrev ld:AM:=["given","box","better","worse",An,"left_alone"]
abbrev lf:AM:=[Ao,Aq]
abbrev lh:AM:=[Ap,Ar,As,At]
abbrev li:AM:=[Ao,Ap,Au]
abbrev lj:AM:=[Ar,Av,At]
abbrev ll:AM:=[Ap]
abbrev lm:AM:=["_law_script"]
abbrev ln:AM:=[Aj,Ak,"one","other",Am]
abbrev lq:AM:=["leads","one","other"]
abbrev lr:AM:=[Ar,As,At]
abbrev lu:AM:=[Ao,Ap,Aw]
abbrev lw:AM:=[Ax,Ay,Av]
abbrev lz:AM:=[An,"box","worth"]
abbrev lA:AM:=[Ai,Aj,Ak,Am]
abbrev lB:AM:=[Ax,Ap]
abbrev lC:AM:=[Az,Ao,Ap,Au]
abbrev lD:AM:=[A1,"_law_shut"]
abbrev lE:AM:=["_law_j",A5,Aw,"_law_rank"]
abbrev lF:AM:=[Aj,Ak,An,Am]
abbrev lG:AM:=[Ao,A6]
abbrev lH:AM:=[An,"given"]
abbrev lI:AM:=[Aw,Au,Ao]
abbrev lJ:AM:=[Ai,An]
abbrev lK:AM:=[As,A7]
abbrev lL:AM:=[Az,A1,A8]
abbrev lM:AM:=["came_from",An]
abbrev lN:AM:=[At]
abbrev lO:AM:=[Ay,A1,Az]
abbrev lP:AM:=[Ax,Ay]
abbrev lQ:AM:=[Az,As,A7]
abbrev lR:AM:=[Az,As,Aw]
abbrev lS:AM:=[A8,Ao]
def top (i:Nat):Stmt:=PySem.Challenge.pw_allelse_k16_shut_sets_told.main.body.getD i (.Pass ⟨0,0,0,0⟩)
abbrev zdg:Stmt:=top 13
abbrev zcz:Stmt:=top 14
abbrev zff:Stmt:=top 1
abbrev zkA:Stmt:=top 3
abbrev zbs:Stmt:=top 5
abbrev zhs:Stmt:=top 8
abbrev zht:Stmt:=top 9
abbrev zfg:Stmt:=top 10
abbrev znJ:Stmt:=top 11
abbrev zcy:Stmt:=top 15
abbrev zdf:Stmt:=top 17
abbrev zcx:Stmt:=top 16
abbrev uY:Stmt:=top 18
abbrev zbp:Stmt:=top 19
abbrev zcA:Stmt:=top 20
abbrev zaO:Stmt:=top 21
abbrev zcv:Stmt:=top 23
abbrev zbq:Stmt:=top 22
abbrev uX:Stmt:=top 24
abbrev zaN:Stmt:=top 25
abbrev zcu:Stmt:=top 26
abbrev zbr:Stmt:=top 27
abbrev zam:Stmt:=top 28
abbrev zcw:Stmt:=top 29
abbrev zbo:Stmt:=top 30
abbrev x8:Stmt:=top 31
abbrev zal:Stmt:=top 32
abbrev zsV:Stmt:=top 33
def zgm:FnScope lm lm (zc zdg):=by walk_at "f"
def yn:FnScope [Ao,Aq,A1,Ax,"_law_cell","_law_mixed"] lf (zc zcz):=by walk_at "f"
def zh0:FnScope lz lz (zc zff):=by walk_at "f"
def zec:FnScope [An,"given","box","worth"] lH (zc zkA):=by walk_at "f"
def zaP:FnScope [Aj,Ak,An,Am,"left_alone"] lF (zc zbs):=by walk_at "f"
def xl:FnScope ["leads","one","other","came_from","row","at","here","there"] lq (zc zhs):=by walk_at "f"
def zaQ:FnScope ["came_from",An,"row","here"] lM (zc zht):=by walk_at "f"
def zdh:FnScope ["leads","one","other","came_from","last"] lq (zc zfg):=by walk_at "f"
def zp3:FnScope ln ln (zc znJ):=by walk_at "f"
def xC:FnScope [Ap,"_law_many",A8] ll (zc zcy):=by walk_at "f"
def uq:FnScope [Ap,A1,A8] ll (zc zdf):=by walk_at "f"
def ym:FnScope [Ao,Aq,A6,Ap,Az,A8] lf (zc zcx):=by walk_at "f"
def zbC:FnScope lc lc (zc uY):=by walk_at "f"
def y4:FnScope [Ao,Ap,Aw,"_law_rare",A1,Ax] lu (zc zbp):=by walk_at "f"
def yX:FnScope [Ao,Ap,Au,Aw,"_law_worse",A9] li (zc zcA):=by walk_at "f"
def xL:FnScope [Ao,A6,A1,As] lG (zc zaO):=by walk_at "f"
def uZ:FnScope [As,A7,Aw,A5] lK (zc zcv):=by walk_at "f"
def z9:FnScope [Ap,A1,A8,"_law_longer",Az,A6] ll (zc zbq):=by walk_at "f"
def zK:FnScope [Ao,Ap,"_law_row",Ar,Ax,Au] lc (zc uX):=by walk_at "f"
def zC:FnScope [Ao,Ap,"_law_boxes_here",Ar,Az,Aw,"_law_parents","_law_case","_law_rank",A5] lc (zc zaN):=by walk_at "f"
def xB:FnScope [Ao,Ap,Au,Ar] lc (zc zcu):=by walk_at "f"
def yr:FnScope [Ar,Av,At,A1,A5,Aw,A9,"_law_worse"] lj (zc zbr):=by walk_at "f"
def yJ:FnScope [Ar,As,At,"_law_known","_law_waiting",BA] lr (zc zam):=by walk_at "f"
def zbt:FnScope li lc (zc zcw):=by walk_at "f"
def zeb:FnScope lN lN (zc zbo):=by walk_at "f"
def zZ:FnScope [Ap,Ar,As,At,"_law_shut",A9,BA,"_law_next_one"] lh (zc x8):=by walk_at "f"
def zcB:FnScope lD lD (zc zal):=by walk_at "f"
def xD:FnScope ["_law_script",Ao,Aq,Ap,Ar,"_law_turn",At,As,A6,"_law_shut",A7,A1,"_law_wide","_law_end"] lm (zc zsV):=by walk_at "f"
abbrev zgl:Stmt:=top 6
def zea:FnScope lA lA (zc (yb zgl 0)):=by walk_at "f"
def zcO:FnScope lJ lJ (zc (yb zgl 1)):=by walk_at "f"
set_option genInjectivity false in
structure Ad where
 C_Leads:Addr
 fI_Leads:Addr
 fA_Leads:Addr
 dI_Leads:Ac
 dA_Leads:Ac
 f0:Addr
 d0:Ac
 f1:Addr
 d1:Ac
 f2:Addr
 d2:Ac
 f3:Addr
 d3:Ac
 f4:Addr
 d4:Ac
 f5:Addr
 d5:Ac
 f6:Addr
 d6:Ac
 f7:Addr
 d7:Ac
 f8:Addr
 d8:Ac
 f9:Addr
 d9:Ac
 f10:Addr
 d10:Ac
 f11:Addr
 d11:Ac
 f12:Addr
 d12:Ac
 f13:Addr
 d13:Ac
 f14:Addr
 d14:Ac
 f15:Addr
 d15:Ac
 f16:Addr
 d16:Ac
 f17:Addr
 d17:Ac
 f18:Addr
 d18:Ac
 f19:Addr
 d19:Ac
 f20:Addr
 d20:Ac
 f21:Addr
 d21:Ac
 f22:Addr
 d22:Ac
 f23:Addr
 d23:Ac
 f24:Addr
 d24:Ac
 f25:Addr
 d25:Ac
 f26:Addr
 d26:Ac
 f27:Addr
 d27:Ac
structure Txt (K:AH)(mg:AI)(t:Ad):Prop where
 Leads:LdT K mg zgl t.C_Leads t.fI_Leads t.fA_Leads t.dI_Leads t.dA_Leads
 q0:Dfn K mg "_law_pen" zdg lm t.f0 t.d0
 q1:Dfn K mg "_law_take" zcz lf t.f1 t.d1
 q2:Dfn K mg "changed" zff lz t.f2 t.d2
 q3:Dfn K mg "keeps" zkA lH t.f3 t.d3
 q4:DfnD K mg "betterings" zbs lF [Value.none] t.f4 t.d4
 q5:Dfn K mg "search" zhs lq t.f5 t.d5
 q6:Dfn K mg "way_to" zht lM t.f6 t.d6
 q7:Dfn K mg "told_by" zfg lq t.f7 t.d7
 q8:DfnD K mg "told" znJ ln [Value.none] t.f8 t.d8
 q9:Dfn K mg "_law_size" zcy ll t.f9 t.d9
 q10:Dfn K mg "_law_all" zdf ll t.f10 t.d10
 q11:Dfn K mg "_law_room" zcx lf t.f11 t.d11
 q12:Dfn K mg "_law_standing" uY lc t.f12 t.d12
 q13:Dfn K mg "_law_given" zbp lu t.f13 t.d13
 q14:Dfn K mg "_law_wish" zcA li t.f14 t.d14
 q15:Dfn K mg "_law_turned" zaO lG t.f15 t.d15
 q16:Dfn K mg "_law_full" zcv lK t.f16 t.d16
 q17:Dfn K mg "_law_snake" zbq ll t.f17 t.d17
 q18:Dfn K mg "_law_row_book" uX lc t.f18 t.d18
 q19:Dfn K mg "_law_ranked" zaN lc t.f19 t.d19
 q20:Dfn K mg "_law_book" zcu lc t.f20 t.d20
 q21:Dfn K mg "_law_steps" zbr lj t.f21 t.d21
 q22:Dfn K mg "_law_reached" zam lr t.f22 t.d22
 q23:Dfn K mg "_law_held" zcw lc t.f23 t.d23
 q24:Dfn K mg "_law_boxes" zbo lN t.f24 t.d24
 q25:Dfn K mg "_law_not_better" x8 lh t.f25 t.d25
 q26:Dfn K mg "_law_is_told" zal lD t.f26 t.d26
 q27:Dfn K mg "law" zsV lm t.f27 t.d27
 b_sorted:mg "sorted" = none
 b_range:mg "range" = none
 b_tuple:mg "tuple" = none
 b_len:mg "len" = none
 b_list:mg "list" = none
 b_abs:mg "abs" = none
 b_isinstance:mg "isinstance" = none
 b_int:mg "int" = none
 b_zip:mg "zip" = none
section
variable {P:Aa}{w:Ab}{K:AH}{mg:AI}{base:Heap}{t:Ad}
def zf6 (T:Txt K mg t):FnOk P w K mg base CX0 1 t.f0 t.d0 lm (zmK K):=by
 show T.q0.F.okQ zgm (λvs H Q E h=>?_) (λI A q s H vs Q E U h=>?_);obtain⟨a,ns,rfl,_⟩:=h;rfl;obtain⟨a,ns,rfl,Y,J,O,k⟩:=h;show⟨_,(xk (uV (zpC (zd6 xi (qv 0) (zd6 xi yk (zd6 xi yk zpJ))) rfl rfl (by simp) (by ext)))),?_⟩;intro p B;show⟨_,rfl,zg,zaJ a 0 0,rfl,(by change 3<=15;decide),?_⟩;rw[zse];have S2:yO H (upd (upd H p (.dK [])) p (.dK (zaJ a 0 0))):=λb o e=>by rw[ze (zf e B),ze (zf e B)];exact e
 exact k p _ ⟨⟨0,0,zg,by lia,by lia,by lia⟩,J.same S2,O⟩ S2
def ze3 (T:Txt K mg t):FnOk P w K mg base CX0 1 t.f1 t.d1 lf (znM K):=by
 show T.q1.F.okQ yn (λvs H Q E h=>?_) (λap A ag s H vs Q E hr h=>?_);obtain⟨p,c,ns,n,zP,rfl,_⟩:=h;rfl
 ·obtain⟨p,c,ns,n,zP,rfl,hK,hP,hn,h1,h2,k⟩:=h;have J:=za6 hr;obtain⟨⟨a,l,U,al,as,aa⟩,hc,O⟩:=id hP
  have Z:∀r,ns=0::r->c≠p:=λr e=>by
   rcases hc with ⟨r',e',o,z⟩ | ⟨r',e'⟩;exact zl1 z U (by intro q;cases q);rw[e] at e';cases e'
  show⟨_,(z8 (zkr (uW zj2 (uo J (qv 0) xi (λ_ _=>rfl)) yk (zx _)) (z8 (ux (i:=2) yn.nd rfl (Or.inl rfl) (yF uR (uo J (qv 0) xi (λ_ _=>rfl)) (qv 1)))
   (z8 (zd7 J (qv 0) xi (yF zdY (uo J (qv 0) xi (λ_ _=>rfl)) (qv 1)) rfl)
   (xk (uV (qv 2))))) zcp)
   (z8 (ux (i:=3) yn.nd rfl (Or.inl rfl) (uo J (qv 0) xi (λ_ _=>rfl)))
   (z8 (zd7 J (qv 0) xi (yF yA (qv 3) yk) rfl)
   (z8 (ux (i:=4) yn.nd rfl (Or.inl rfl) yk)
   (z8 (zkr (uW zj2 (yZ yv (by rfl) T.b_len bg (zE (uo J (qv 0) xi (λ_ _=>rfl)) yC)) yk (zx _)) (xk (ux (i:=4) yn.nd rfl (Or.inl rfl) (zkk yf (uo J (qv 0) xi (λ_ _=>rfl)) (yF uR (qv 3) (yZ yv (by rfl) T.b_len bg (zE (uo J (qv 0) xi (λ_ _=>rfl)) yC))) (λ_ _=>rfl)))) zcp)
   (z8 (zkr (QW.pt (zho (uW zj3 (qv 3) (yZ yv (by rfl) T.b_len bg (zE (uo J (qv 0) xi (λ_ _=>rfl)) yC)) (zx _)) (zgh (uW zvf (yZ ziz (by rfl) T.b_abs eC (zE (qv 4) yC)) (yF zr2 yk yk) (zx _))))) (z8 (zd7 J (qv 0) xi (yF zdY (yZ ziz (by rfl) T.b_abs eC (zE (qv 4) yC)) (qv 1)) rfl)
   (xk (uV (yF uR (yZ ziz (by rfl) T.b_abs eC (zE (qv 4) yC)) (qv 1))))) zcp)
   (z8 (ux (i:=5) yn.nd rfl (Or.inl rfl) (yF uR (yF uS (yF yA (yF yA (yF yA (yF uR (qv 4) yk) (yF uS (yF uS yk (qv 3)) (qv 3))) (yF uS yk (qv 3))) yk) yk) yk))
   (z8 (ux (i:=5) yn.nd rfl (Or.inl rfl) (yF uR (yF yA (yF yA (yF uS (qv 5) (qv 5)) (yF uS yk (qv 5))) (yF uS yk (qv 3))) yk))
   (xk (uV (yF uR (yF zdY (yF uR (yF uS (qv 5) yk) yk) yk) (qv 1)))))))))))),?_⟩
  show⟨_,rfl,p,_,rfl,zj8 U,_,_,rfl,rfl,_,rfl,znf (λhl=>?_) (λhl=>?_)⟩;have a0:0<l:=bG hl;show⟨_,rfl,p,_,rfl,zj8 U,_,rfl,_,_,rfl,rfl,(by change (0:Int)<zP;lia),?_⟩;show⟨_,rfl,p,_,rfl,zj8 U,_,rfl,_,_,rfl,rfl,⟨by change (0:Int)<zP;lia,h2⟩,_,rfl,p,_,rfl,znv U _,?_⟩;show⟨_,rfl,k _ _ (c7 _ (by lia)) (cw _ (by lia)) ⟨⟨a,_,zg,al,by lia,Int.ediv_nonneg aa (by lia)⟩,hc.upd Z,O⟩ (zei U)⟩
  ·show⟨_,rfl,p,_,rfl,zsd U,?_⟩;show⟨_,rfl,_,_,rfl,rfl,_,rfl,p,_,rfl,zsh U _,?_⟩;have I:upd H p (.dK (zaJ c (a+1) l)) p=some (.dK (zaJ c (a+1) l)):=zg;have Y:PLs (upd H p (.dK (zaJ c (a+1) l))) c ns:=hc.upd Z;generalize an:upd H p (.dK (zaJ c (a+1) l))=H1 at I Y ⊢;have ab:zu H H1:=an ▸ zei U;obtain⟨r,hq⟩:=hK.seq Y;refine' meet (α:=Int) _ (λzy=>?_) ?_;rotate_left
   
   show⟨_,rfl,p,_,rfl,zhf I,_,_,rfl,.inl ⟨_,hq,rfl⟩,_,_,rfl,rfl,_,rfl,znf (λhz=>?_) (λhz=>?_)⟩;have ac:0<((r.map V.int).length:Int):=bG hz;obtain⟨B,ad⟩:=zqN r a ac;show⟨_,rfl,p,_,rfl,zhf I,_,rfl,_,rfl,p,_,rfl,zhf I,_,_,rfl,.inl ⟨_,hq,rfl⟩,_,_,rfl,rfl,ac,c,_,_,_,rfl,rfl,hq,ad,?_⟩;exact zy B;exact zy 0
   ·intro B;refine' zu1 _ (λzy=>?_) ?_;rotate_left
    ·show⟨_,rfl,_,rfl,p,_,rfl,zhf I,_,_,rfl,.inl ⟨_,hq,rfl⟩,_,_,rfl,rfl,_,rfl,znf (λh3=>?_) (λh3=>?_)⟩;rotate_left;show zrn ?_;exact zy;show⟨_,rfl,_,rfl,_,_,rfl,rfl,⟨by ext,by ext,by ext⟩,_,_,rfl,rfl,_,rfl,znf (λh4=>?_) (λh4=>?_)⟩;rotate_left;exact zy;have ha:0<=(if B<0 then -B else B):=by split <;> lia
     show⟨_,rfl,_,rfl,_,rfl,_,_,rfl,rfl,⟨by change (0:Int)<zP;lia,h2⟩,_,rfl,p,_,rfl,znv I _,?_⟩;show⟨_,rfl,_,rfl,_,rfl,_,_,rfl,rfl,(by change (0:Int)<zP;lia),k _ _ (c7 _ (by lia)) (cw _ (by lia)) ⟨⟨a+1,_,zg,by lia,by lia,Int.ediv_nonneg ha (by lia)⟩,Y.upd Z,O⟩ (ab.trans (zei I))⟩
    have a1:=c7 B (show (2147483629:Int)≠0 by ext);have a2:=cw B (show (0:Int)<2147483629 by ext);show⟨_,rfl,_,_,rfl,rfl,(by change (0:Int)<2147483629;decide),_,rfl,_,_,rfl,rfl,.inl ⟨by ext,by ext⟩,_,rfl,_,_,rfl,rfl,.inr ⟨by lia,by lia⟩,_,_,rfl,rfl,_,rfl,_,_,rfl,rfl,.inl ⟨by ext,by ext⟩,_,_,rfl,rfl,_,_,rfl,rfl,_,_,rfl,rfl,.inr ⟨by ext,by ext⟩,_,_,rfl,rfl,(by change (0:Int)<2147483647;decide),?_⟩;generalize a3:((B % 2147483629+7919 * a * a+104729 * a+23) * 69621:Int)=w1;have w0:=c7 w1 (show (2147483647:Int)≠0 by ext);have w2:=cw w1 (show (0:Int)<2147483647 by ext);generalize w1 % 2147483647=w3 at w0 w2;show⟨_,rfl,_,rfl,_,_,rfl,rfl,.inl ⟨by lia,by lia⟩,_,rfl,_,_,rfl,rfl,.inl ⟨by ext,by ext⟩,_,_,rfl,rfl,_,rfl,_,_,rfl,rfl,.inl ⟨by ext,by ext⟩,_,_,rfl,rfl,_,_,rfl,rfl,(by change (0:Int)<2147483579;decide),?_⟩;generalize a4:((w3 * w3+40692 * w3+65537 * a) % 2147483579:Int)=w5;show⟨_,rfl,_,_,rfl,rfl,.inr ⟨by ext,by ext⟩,_,_,rfl,rfl,(by change (0:Int)<2147483563;decide),_,_,rfl,rfl,⟨by ext,by ext⟩,_,rfl,_,_,rfl,rfl,(by change (0:Int)<zP;lia),?_⟩;exact k _ _ (c7 _ (by lia)) (cw _ (by lia)) ⟨⟨a+1,l,I,by lia,by lia,aa⟩,Y,O⟩ ab
def zJ (T:Txt K mg t):FnOk P w K mg base CX0 1 t.f1 t.d1 lf (spV 2 false (zij K)):=FnOk.lift (FnOk.mono (ze3 T) (by ext)) zjC
def zhT (T:Txt K mg t):FnOk P w K mg base CX0 1 t.f2 t.d2 lz zfl:=by
 show T.q2.F.okQ zh0 (λvs H Q E h=>?_) (λO A q s H vs Q E hr h=>?_);obtain⟨a,st,b,U,rfl,_⟩:=h;rfl;obtain⟨a,st,b,U,rfl,I,Y,Z,k⟩:=h;show⟨_,(xk (uV (yF xh (yF xh (zbO zgo (qv 0) zge (zgf (qv 1))) (zd5 (zE (qv 2) yC))) (zbO zgo (qv 0) (zgf (yF yA (qv 1) yk)) zge)))),?_⟩;have B:∀lo hi,(zc0 (st.map V.int) lo hi).length<=400:=λlo hi=>aA (zap _ _ _) (by rw[af];exact Y);show⟨_,rfl,_,rfl,_,rfl,a,_,rfl,I,λt1 H1 g1 S1=>?_⟩;show⟨_,rfl,(by change 1<=sizeLine;decide),λt2 H2 _ g2 S2=>?_⟩;show⟨t1,t2,_,_,rfl,rfl,S2 _ _ g1,g2,cH (zcC (by have:=B none (some b);change _+1<=1000;lia)),λt3 H3 g3 S3=>?_⟩;have S03:yO H H3:=λb o e=>S3 _ _ (S2 _ _ (S1 _ _ e));show⟨_,rfl,_,rfl,_,_,rfl,rfl,_,rfl,a,_,rfl,S03 _ _ I,λt4 H4 g4 S4=>?_⟩;show⟨t3,t4,_,_,rfl,rfl,S4 _ _ g3,g4,?_,λt5 H5 J S5=>?_⟩;have e1:=B none (some b);have e2:=B (some (b+1)) none;show cH (zcC ?_);rw[ao];change _+1+_<=1000;lia;rw[ziv st Z] at J;exact k t5 H5 J λb o e=>S5 _ _ (S4 _ _ (S03 _ _ e))
def zl4 (T:Txt K mg t):FnOk P w K mg base CX0 1 t.f3 t.d3 lH zkH:=by
 show T.q3.F.okQ zec (λvs H Q E h=>?_) (λal A Y s H vs Q E hr h=>?_);obtain⟨a,Z,st,gs,g,rfl,_⟩:=h;rfl;obtain⟨a,Z,st,gs,g,rfl,ha,B,I,hg,k⟩:=h;have J:gs.length=g.length:=by have:=I.length;rwa[af] at this
 show⟨_,(z8 (zhm bh rfl (zkp (qv 1)) (zkm rfl (yH (xj (i:=2) zec.nd rfl (Or.inl rfl)) (yH (xj (i:=3) zec.nd rfl (Or.inl rfl)) zco))) (xk (zkr (uW zga (zkk yt (qv 0) (qv 2) (λ_ _=>rfl)) (qv 3) (zx _)) (xk (uV zpy)) zcp)))
  (xk (uV zpy))),?_⟩
 show⟨_,rfl,Z,rfl,⟨gs,.of B⟩,zoi (K:=K) (xs:=gs) (λi σ H2=>H2=H/\(∃v1 v2,σ=[some (.ref a),some (.ref Z),v1,v2])/\xu st (g.take i)=true) ⟨rfl,⟨none,none,rfl⟩,rfl⟩ (λi σ H2 _ ⟨e,_⟩=>e ▸ .of B) ?_ ?_⟩;rintro i y σ H2 hi ⟨rfl,⟨v1,v2,rfl⟩,O⟩;obtain⟨d,hd,aa⟩:=I.get hi;rw[aN] at hd;obtain⟨q,hq,rfl⟩:=aL.mp hd;obtain⟨ca,ys,rfl,ab,y0,z0,rfl,ac,y1,z1,rfl,ad,ag⟩:=aa;cases ac;cases ad;cases ag;have U:=hg q (aJ hq);show⟨ca,_,rfl,.of ab,rfl,_,_,rfl,_,_,rfl,rfl,?_⟩;show⟨_,rfl,_,rfl,a,_,_,_,rfl,rfl,.of ha,zg6 U.1 U.2,_,rfl,rfl,_,rfl,znf (λh1=>?_) (λh1=>?_)⟩
 have e:xu st g=false:=by
  unfold xu;show List.all_eq_false.mpr ⟨q,aJ hq,?_⟩;intro z;have z':=bG z;rw[z'] at h1;simp at h1
 rw[e] at k;exact k;show⟨rfl,⟨_,_,rfl⟩,?_⟩
 have e:zP st q.1=q.2:=by
  by_cases e:zP st q.1=q.2;exact e;exact absurd (by simp[e]) h1
 unfold xu at O ⊢;rw[zm hq,List.all_append,O];simp[e];rintro σ H2 ⟨rfl,⟨v1,v2,rfl⟩,O⟩;rw[J,bB] at O;rw[O] at k;exact k
def zdS (T:Txt K mg t):FnOk P w K mg base CX0 2 t.f4 t.d4 lF znL:=by
 have G2:FnOk P w K mg base CX0 1 t.f2 t.d2 lz zfl:=zhT T;have G3:FnOk P w K mg base CX0 1 t.f3 t.d3 lH zkH:=zl4 T;show T.q4.F.okQ zaP (λvs H Q E h=>?_) (λbo A a4 s H vs Q E hr h=>?_);obtain⟨v0,vh,ba,a,rm,xs,bk,st,hs,rfl,_⟩:=h;rfl
 ·obtain⟨v0,vh,ba,a,rm,xs,bk,st,hs,rfl,h1,h8,hB,an,ha,hl,hh,k⟩:=h
  show⟨_,(z8 (ux (i:=4) zaP.nd rfl (Or.inr rfl) (zmq (zhn (zny (qv 3))) (zd5 yC) (qv 3)))
   (xk (uV (yZ (zln rfl) (by rfl) T.b_sorted cy (zE (zhY (za6 hr) (N:=ld) (cix:=[none,none,none,none,some 2,some 4]) rfl (by walk_at "c") (zkp (qv 1)) (λ_ _ _ _=>(zkn K rfl (n:=4) rfl (yH (xj (i:=0) (show (ld:AM).Nodup by decide +kernel) rfl (Or.inl rfl)) (yH (xj (i:=1) (show (ld:AM).Nodup by decide +kernel) rfl (Or.inl rfl)) (yH (xj (i:=2) (show (ld:AM).Nodup by decide +kernel) rfl (Or.inl rfl)) (yH (xj (i:=3) (show (ld:AM).Nodup by decide +kernel) rfl (Or.inl rfl)) zco)))))) (λ_ _ _ _=>(zks (QW.pt (zho (uW uA (zkk (zqz K rfl) (qv 4) (qv 1) (λ_ _=>rfl)) (qv 3) (zx _)) (zho (uW (zdZ K rfl) (qv 1) (qv 5) (by with_unfolding_all rfl)) (zgh (znB (zkj T.q3 G3 hr (zE (qv 4) (zE (qv 0) yC)))))))))) (λ_ _ _ _=>(zkj T.q2 G2 hr (zE (qv 4) (zE (qv 1) (zE (qv 2) yC)))))) yC))))),?_⟩
  refine' zu2 _ (λ(lv:V) (H1:Hp)=>∃Z,lv = .ref Z/\H1 Z=some (.tup (hs.map V.int))/\yO H H1) (λzy=>?_) ?_;rotate_left;show⟨_,rfl,_,rfl,znf (λh2=>?_) (λh2=>?_)⟩;show⟨(by change 0<=sizeLine;decide),λe H1 _ g1 S1=>?_⟩;generalize a5:V.ref e=lv;show zy lv H1 ⟨e,a5.symm,?_,S1⟩;rcases hh with ⟨_,I⟩ | ⟨p,I,_⟩;rw[I];exact g1;rw[I] at h2;cases bG h2;show⟨_,rfl,?_⟩;show zy _ H ?_;rcases hh with ⟨I,_⟩ | ⟨p,I,hp⟩;exact absurd (bi I) h2;exact⟨p,I,hp,λ_ _ z=>z⟩;rintro _ H1 ⟨Z,rfl,bs,S1⟩;have ac:BookAt H1 rm ba xs bk:=by walk_at "up"
  have ap:=hB.len;show⟨_,rfl,ba,rfl,⟨_,.of ac.at'⟩,λacc aa S0=>?_⟩;show zmH (xs:=xs) aa S0 (λi ad H'=>(∃v1 v2 v3 v4,ad=[v1,v2,v3,v4,some (.ref a),some (.ref Z)])/\(∃ks,zer P w H' acc ks/\∀z,z∈ks↔z∈xS (bk.take i) st hs)/\yO H1 H') (λH' z1 z2=>⟨⟨_,_,_,_,rfl⟩,⟨[],z1,λz=>by change z∈[]↔z∈[];exact Iff.rfl⟩,z2⟩) (λ_ _ _ _ ⟨_,_,S⟩=>.of (S _ _ ac.at')) ?_ ?_;rintro i y ad H' B ⟨⟨v1,v2,v3,v4,rfl⟩,⟨ks,J,hm⟩,S'⟩;obtain⟨x,hx,a7,O⟩:=(ac.stay (zu.same S')).get B;obtain⟨wa,ga,gs,rfl,bb,bc,U⟩:=zif a7;have b1:=O.b1;have ag:H' a=some (.tup (st.map V.int)):=by walk_at "up"
  have as:H' Z=some (.tup (hs.map V.int)):=by walk_at "up"
  have bd:bk.take (i+1)=bk.take i++[x]:=zm hx
  have a0:∀z,z∈xS (bk.take (i+1)) st hs↔(zad st x=true/\x.b∉hs/\z=chg st x.b x.r)\/z∈xS (bk.take i) st hs:=λz=>by
   rw[bd,yR,yR];constructor;rintro⟨y,B,h2⟩;rcases au.mp B with B | B;exact .inr ⟨y,B,h2⟩;rw[aq] at B;subst B;exact .inl h2;rintro (h2 | ⟨y,B,h2⟩);exact⟨x,aI _ (by simp),h2⟩;exact⟨y,aT _ B,h2⟩
  have no:¬ (zad st x=true/\x.b∉hs)->(∃w1 w2 w3 w4,[some (V.ref ga),some (.int x.b),some (.int x.r),some (.int x.w),some (V.ref a),some (.ref Z)]=[w1,w2,w3,w4,some (.ref a),some (.ref Z)])/\(∃ks,zer P w H' acc ks/\∀z,z∈ks↔z∈xS (bk.take (i+1)) st hs)/\yO H1 H':=λhn=>⟨⟨_,_,_,_,rfl⟩,⟨ks,J,λz=>by rw[hm,a0];exact⟨.inr,λz=>z.elim (λq=>absurd ⟨q.1,q.2.1⟩ hn) id⟩⟩,S'⟩;show⟨wa,_,rfl,.of bb,rfl,_,_,rfl,_,_,rfl,_,_,rfl,_,_,rfl,rfl,?_⟩;show⟨_,rfl,_,rfl,a,_,_,_,rfl,rfl,.of ag,zg6 O.b0 (by lia),_,rfl,rfl,_,rfl,znf (λh2=>?_) (λh2=>?_)⟩;have I:zP st x.b=x.w:=by simpa using h2
  show⟨_,rfl,_,rfl,Z,_,rfl,.inr (.of as),rfl,zeM hs,_,rfl,?_⟩;rw[zgT];by_cases Y:x.b∈hs;rw[eD.mpr Y];exact zrn (zrn (no λq=>q.2 Y))
  have hc:hs.contains x.b=false:=by
   cases e:hs.contains x.b with
   | false=>rfl
   | true=>exact absurd (eD.mp e) Y
  rw[hc];show iteT ⟨_,rfl,_,rfl,a,ga,st,gs,x.g,rfl,ag,bc,U,λq hq=>?_,_,rfl,?_⟩;have:=O.giv.ok q hq;exact⟨this.1,by lia⟩;have hg:zad st x=xu st x.g:=by unfold zad;rw[I];simp
  show znf (λh3=>?_) (λh3=>?_);show⟨_,rfl,_,rfl,_,rfl,a,st,x.b,x.r,rfl,ag,by lia,O.b0,λp H5 hp S5=>?_⟩;have ab:zer P w H5 acc ks:=by walk_at "up"
  show⟨p,_,ks,rfl,hp,ab,?_,λo be a1 bl bx=>⟨⟨_,_,_,_,rfl⟩,⟨be,a1,λz=>?_⟩,zmC aa (by walk_at "up")⟩⟩;obtain⟨_,_,_,_,al⟩:=ab;have:=zbY (hs:=hs) (bk:=bk.take i) (λy B=>hB.ok y (bF B)) h8 an al λz hz=>(hm z).mp hz;lia;rw[bl,a0,hm];constructor;rintro (h4 | h4);exact .inl ⟨by rw[hg];exact h3,Y,h4⟩;exact .inr h4;rintro (h4 | h4);exact .inl h4.2.2;exact .inr h4;exact no λq=>h3 (by rw[<- hg];exact q.1);show zrn (no λq=>h2 ?_);have:=q.1;unfold zad at this;rw[bI] at this;simpa using this.1;rintro ad H2 ⟨_,⟨ks,J,hm⟩,S2⟩;rw[ap,bB] at hm;have U:=zbZ (hs:=hs) hB.ok hl;show⟨acc,ks,rm.length,rfl,J,?_,h1,λz hz=>U z ((hm z).mp hz),λys a2 b2 hp hu=>?_⟩;obtain⟨_,_,_,_,al⟩:=J;have:=zbY hB.ok h8 an al λz hz=>(hm z).mp hz;lia;have e:a2=yy bk st hs:=zbP U hu λz=>(hp.mem_iff).trans (hm z);subst e;intro l H3 a3 g3 S3;have S23:yO H H2:=by walk_at "up"
  show k l H3 ?_ ⟨ys,g3,by walk_at "up"⟩ (by walk_at "up")
  cases e:H l with
  | none=>rfl
  | some o=>rw[S23 _ _ e] at a3;cases a3
def zdR (T:Txt K mg t):FnOk P w K mg base CX0 1 t.fI_Leads t.dI_Leads lA (zeh t.C_Leads):=by
 show T.Leads.FI.okQ zea (λvs H Q E h=>?_) (λF A B s H vs Q E U h=>?_);obtain⟨a,dx,I,J,O,rfl,_⟩:=h;rfl;show⟨_,⟨zaK (zhj (pv 0) (pv 1) rfl) (zaK (zhj (pv 0) (pv 2) rfl) (zaK (zhj (pv 0) (pv 3) rfl) (zd3 (zhj (pv 0) zhe rfl))))⟩,?_⟩;have e:xn lA vs=vs.map some:=by obtain⟨a,dx,I,J,O,rfl,_⟩:=h;rfl
 rw[e];exact zmu T.Leads.c h λ_ _ q=>q
def zcI (T:Txt K mg t):FnOk P w K mg base CX0 4 t.fA_Leads t.dA_Leads lJ (zeg P w t.C_Leads):=by
 show T.Leads.FA.okQ zcO (λvs H Q E h=>?_) (λI A q s H vs Q E F h=>?_);obtain⟨L,st,J,rfl,_⟩:=h;rfl;have B:=za6 F
 show⟨_,⟨zaK (zso (znx (ze8 B (pv 1) (zpi (zdd (pv 0) rfl)))) (zd3 (zke B (zdd (pv 0) rfl) (pv 1) (zpc (znA T.q4 (zdS (P:=P) (w:=w) (base:=base) T) F ⟨zbe (zdd (pv 0) rfl) (zbe (zdd (pv 0) rfl) (zbe (pv 1) (zbe (zdd (pv 0) rfl) zns)))⟩).run) rfl)) zkf)
  (zd3 (znw (zpd (zj7 B (zdd (pv 0) rfl) (pv 1) (λ_ _=>rfl)))))⟩,?_⟩
 have e:xn lJ vs=vs.map some:=by obtain⟨L,st,J,rfl,_⟩:=h;rfl
 rw[e];exact zmt T.Leads.c h rfl
def Rch (g:AG->AF)(a s:AG):Prop:=∀Z:AG->Prop,Z a->(∀u v,Z u->v∈g u->Z v)->Z s
def Rch.self {g:AG->AF}{a:AG}:Rch g a a:=λ_ h _=>h
def Rch.step {g:AG->AF}{a s v:AG}(h:Rch g a s)(B:v∈g s):Rch g a v:=λZ F q=>q _ _ (h Z F q) B
def zdr{rm:AG}{s t hs:AG}(B:xO rm bk)(F:StOk rm s)(I:t∈yy bk s hs):StOk rm t:=by obtain⟨x,J,_,_,rfl⟩:=yR.mp (yY.mp I);have q:=B x J;exact zmL F q.b0 q.b1 q.r0 q.r1
structure SrT (g:AG->AF)(rm one:AG)(kvs:List (AG×Dt)):Prop where
 hd:∃r,kvs=(one,.non)::r
 up:∀i q,kvs[i+1]?=some q->∃h,h∈(kvs.take (i+1)).map (·.1)/\q.2=stD h/\q.1∈g h
 nd:(kvs.map (·.1)).Nodup
 ok:∀s∈kvs.map (·.1),StOk rm s
def SrT.one {g:AG->AF}{rm one:AG}(h:StOk rm one):SrT g rm one [(one,.non)]:=⟨⟨[],rfl⟩,λi q e=>by simp at e,by simp,λs hs=>by rw[show s=one by simpa using hs];exact h⟩
def SrT.snoc {g:AG->AF}{rm one s t:AG}{kvs:List (AG×Dt)}(h:SrT g rm one kvs)(hs:s∈kvs.map (·.1))(F:t∈g s)(hn:t∉kvs.map (·.1))(I:StOk rm t):SrT g rm one (kvs++[(t,stD s)]):=by
 obtain⟨r,J⟩:=h.hd;show⟨⟨r++[(t,stD s)],by rw[J];rfl⟩,λi q e=>?_,?_,λu B=>?_⟩;by_cases hi:i+1<kvs.length;rw[bD hi] at e;obtain⟨u,h1,h2⟩:=h.up i q e;exact⟨u,by rw[cE (by lia)];exact h1,h2⟩;rw[bp (by lia)] at e;have O:i+1 - kvs.length=0:=by have:=(aj.mp e).1;simpa using this
 rw[O] at e;have e:(t,stD s)=q:=by simpa using e
 subst e;show⟨s,?_,rfl,F⟩;rw[cE (by lia),bj (by lia)];exact hs;rw[aH,dy];show⟨h.nd,by simp,λa U b Y e=>?_⟩;rw[show b=t by simpa using Y] at e;exact hn (e ▸ U);rw[aH,au] at B;rcases B with B | B;exact h.ok u B;rw[show u=t by simpa using B];exact I
def SrT.rch {g:AG->AF}{rm one:AG}{kvs:List (AG×Dt)}(h:SrT g rm one kvs):∀s∈kvs.map (·.1),Rch g one s:=by
 have key:∀ (n i:Nat),i<n->∀q,kvs[i]?=some q->Rch g one q.1:=by
  intro n
  induction n with
  | zero=>intro i hi;lia
  | succ n I=>
   intro i hi q e
   match i,hi,e with
   | 0,_,e=>
    obtain⟨r,J⟩:=h.hd;rw[J] at e;have e:(one,Dt.non)=q:=by simpa using e
    rw[<- e];exact Rch.self
   | i+1,hi,e=>
    obtain⟨u,h1,_,O⟩:=h.up i q e;obtain⟨p,U,rfl⟩:=aD.mp h1;obtain⟨j,F,B⟩:=bU.mp U;rw[bm] at F;show (I j (by lia) p ?_).step O;rw[fM] at B;rw[<- B];exact ax (by lia)
 intro s hs;obtain⟨q,Y,rfl⟩:=aD.mp hs;obtain⟨j,F,B⟩:=bU.mp Y;exact key (j+1) j (by lia) q (by rw[<- B];exact ax F)
def zat {rm:AG}{l:AF}(q:RoomOk rm)(I:zI rm<=256)(B:l.Nodup)(F:∀s∈l,StOk rm s):l.length<=256:=by have h1:=uO B λs hs=>zkJ (F s hs);have h2:=zgA q;lia
def zf1 {kvs:List (AG×Dt)}{st:AG}:(!(xW kvs st).isSome) = !decide (st∈kvs.map (·.1)):=by congr 1;unfold xW;rw[cW,decide_eq_true_iff,fK,List.find?_isSome];exact⟨λ⟨q,h1,h2⟩=>aD.mpr ⟨q,h1,bG h2⟩,λh=>let ⟨q,h1,h2⟩:=aD.mp h;⟨q,h1,bi h2⟩⟩
def zkh{kvs:List (AG×Dt)}{k:AG}(h:k∉kvs.map (·.1)):zhk kvs k d=kvs++[(k,d)]:=by unfold zhk;rw[if_neg];intro z;obtain⟨q,B,F⟩:=ge.mp z;exact h (aD.mpr ⟨q,B,bG F⟩)
structure Sr (g:AG->AF)(rm one:AG)(o:Dt)(kvs:List (AG×Dt))(x:Dt):Prop where
 t:SrT g rm one kvs
 e:(x = .non/\∀s∈kvs.map (·.1),∀u∈g s,u∈kvs.map (·.1)/\stD u≠o)\/∃h,x=stD h/\h∈kvs.map (·.1)/\∃u∈g h,stD u=o
def zbE (P:Aa)(w:Ab)(C:Addr):FV:=λPn q n R=>∃ (L:LdI) (one:AG) (o:Dt),q=[.pen L.a,.d (stD one),.d o]/\(Pn.J=ldJ L)/\(L.P=P)/\(L.w=w)/\(L.C=C)/\(StOk L.rm one)/\(RoomOk L.rm)/\(xO L.rm L.bk)/\(zI L.rm<=256)/\(o = .non\/∃st,o=stD st)/\(∀kvs x,Sr (λs=>yy L.bk s L.hs) L.rm one o kvs x->R (.tz kvs x) n)
def zbE.i{one:AG}(q:Pn.J=ldJ L)(B:L.P=P)(F:L.w=w)(I:L.C=C)(h1:StOk L.rm one)(O:RoomOk L.rm)(U:xO L.rm L.bk)(Y:zI L.rm<=256)(Z:o = .non\/∃st,o=stD st)(h:∀kvs x,Sr (λs=>yy L.bk s L.hs) L.rm one o kvs x->R (.tz kvs x) n)  : zbE P w C Pn [.pen L.a,.d (stD one),.d o] n R:=⟨L,one,o,rfl,q,B,F,I,h1,O,U,Y,Z,h⟩
def zhU (T:Txt K mg t):FnOk P w K mg base CX0 5 t.f5 t.d5 lq (spV 3 false (zbE P w t.C_Leads)):=by
 have G_Leads_after:=zcI (P:=P) (w:=w) (base:=base) T
 show Fun.okW (k:=4) (fr:=false) [3,4] 5 T.q5.F xl rfl (by ext) rfl λa3 A al s H E Pn hr=>⟨_,(zb (wS yu <| xt (i:=3) xl.nd (zjo (za6 hr) (kv 1) zoA))
   (zb (wS yu <| xt (i:=4) xl.nd (ui (za (kv 1) zd)))
   (zb (wS zo <| zz (i:=5) xl.nd zj)
   (zb (zdH bh (wT zl <| zF zj3 ztW (kb 5) (JE.bo (zX yv uB (by rfl) T.b_len bg (zi (kb 4) zk))) (zx _)) (zb (wS zo <| zz (i:=6) xl.nd (uD yf u6 (kb 4) (kb 5) (λ_ _=>rfl)))
   (zb (xV bh rfl (zuI K rfl (zow (i:=0) P w rfl rfl T.Leads G_Leads_after hr (qv 0) (by ext) (za (kv 6) zd))) (wG ye <| zt (i:=7) xl.nd) (zb (wS zB <| yE (wT zl <| zF (zhc hr.units) zmQ (kb 7) (kb 2) (zx _)) (zh (zju 3 (kv 6))) zA)
   (zh (wS zB <| yE (zfZ (za6 hr) (kb 7) (kb 3)) (zb (wS zaF <| zbJ 3 (za6 hr) (kb 7) (kv 6))
   (zh (wS zdL <| zgZ 4 (kv 7)))) zA))))
   (zh (zrt (F:=λi j=>i+j) (i:=5) xl.nd zrl (JE.bo zj))))))
   (zh (zju 3 zoA)))))),λws n R hF=>?_⟩
 obtain⟨L,one,o,rfl,hL,hP,hw,hC,h1,hR,hB,hp,ho,r⟩:=hF;left;show⟨one,rfl,?_⟩;left;show znQ (λk ρ n'=>n'=n/\∃ (kvs:List (AG×Dt)) (a:Nat) (v6 v7:Option W),k=256 - a/\a<=kvs.length/\ρ=[some (.pen L.a),some (.d (stD one)),some (.d o),some (.dt kvs),some (.d (xN (kvs.map (·.1)))),some (.d (.int a)),v6,v7]/\SrT (λs=>yy L.bk s L.hs) L.rm one kvs/\∀s∈(kvs.take a).map (·.1),∀u∈yy L.bk s L.hs,u∈kvs.map (·.1)/\stD u≠o) 256 ⟨rfl,[(one,.non)],0,_,_,rfl,by simp,rfl,.one h1,by simp⟩ ?_;rintro k ρ n' ⟨rfl,kvs,a,v6,v7,rfl,a4,rfl,hT,hc⟩ C B X an ap hX;have as:=zat hR hp hT.nd hT.ok;rw[af] at as;left;rw[af,af];show xm (λa5=>?_) (λa7=>?_);have ha:a<kvs.length:=by lia
 obtain⟨q,hq⟩:∃q,kvs[a]?=some q:=⟨_,ax ha⟩;have ab:q.1∈kvs.map (·.1):=aD.mpr ⟨q,aJ hq,rfl⟩;left;show zbd (show atI ((kvs.map (·.1)).map stD) (a:Int)=some (stD q.1) from zex (by rw[aN,aN,hq];rfl)) ?_;left;show⟨L,hL,hP,hw,hC,rfl,?_⟩;left;show⟨_,rfl,hT.ok _ ab,?_⟩;left;show⟨_,rfl,?_⟩;show yN (yy L.bk q.1 L.hs) (λs=>W.d (stD s)) (by rw[aF];rfl) (λj ρ m'=>m'=n'/\∃ (I:List (AG×Dt)) (v7:Option W),ρ=[some (.pen L.a),some (.d (stD one)),some (.d o),some (.dt I),some (.d (xN (I.map (·.1)))),some (.d (.int a)),some (.d (stD q.1)),v7]/\SrT (λs=>yy L.bk s L.hs) L.rm one I/\(∃r,I=kvs++r)/\∀s∈(yy L.bk q.1 L.hs).take j,s∈I.map (·.1)/\stD s≠o) ⟨rfl,kvs,_,rfl,hT,⟨[],by simp⟩,by simp⟩ ?_ ?_;rintro j t ρ m' ht ⟨rfl,I,v7,rfl,O,⟨r',J⟩,hs⟩ C' B' E' Z _ a0;have ac:=aJ ht;have aa:q.1∈I.map (·.1):=by rw[J,aH];exact aT _ ab
 have a1:=zdr hB (hT.ok _ ab) ac;have ad:=zat hR hp O.nd O.ok;rw[af] at ad
 have tk:∀ {Y:List (AG×Dt)},(∀s∈(yy L.bk q.1 L.hs).take j,s∈Y.map (·.1))->t∈Y.map (·.1)->stD t≠o->∀s∈(yy L.bk q.1 L.hs).take (j+1),s∈Y.map (·.1)/\stD s≠o:=λ{Y} y1 y2 y3 s U=>by
  rw[zm ht,au] at U;rcases U with z | z;exact⟨y1 s z,(hs s z).2⟩;rw[aq.mp z];exact⟨y2,y3⟩
 left;show⟨zax,?_,λb hb=>?_⟩;rcases ho with rfl | ⟨st,rfl⟩;rfl;exact zax;left;show zl7 (λh=>?_) (λh=>?_);left;exact a0 (hX (r _ _ ⟨O,.inr ⟨q.1,rfl,aa,t,ac,hb.mp h⟩⟩));have ag:stD t≠o:=λz=>by rw[hb.mpr z] at h;cases h
 left;show⟨t,rfl,?_⟩;rw[zf1];left;show ze4 (λhn=>?_) (λhn=>?_);have hn:t∉I.map (·.1):=of_decide_eq_false hn;left;show⟨_,rfl,aZ (by lia:_<=10000) (by ext),?_⟩;rw[zkh hn];left;show⟨aZ (by rw[af,af];lia:_<=10000) (by ext),?_⟩;have e2:(I.map (·.1)).map stD++[stD t]=((I++[(t,stD q.1)]).map (·.1)).map stD:=by rw[aH,aH];rfl
 rw[e2];show Z ⟨rfl,_,_,rfl,O.snoc aa ac hn a1,⟨r'++[(t,stD q.1)],by rw[J,aC]⟩,tk (λs z=>?_) ?_ ag⟩;rw[aH];exact aT _ (hs s z).1;rw[aH];exact aI _ (by simp);have hn:t∈I.map (·.1):=bG hn;left;exact Z ⟨rfl,I,_,rfl,O,⟨r',J⟩,tk (λs z=>(hs s z).1) hn ag⟩;rintro ρ m' ⟨rfl,I,v7,rfl,O,⟨r',J⟩,hs⟩;rw[bB] at hs;left;have ba:kvs.length<=I.length:=by rw[J,ao];lia
 show an (256 - (a+1)) (by lia) ⟨rfl,I,a+1,_,_,rfl,by lia,rfl,O,λs U u hu=>?_⟩;have a2:I[a]?=some q:=by rw[J,bD ha];exact hq
 rw[zm a2,aH,au] at U;rcases U with z | z;rw[J,cE (by lia)] at z;have:=hc s z u hu;exact⟨by rw[J,aH];exact aT _ this.1,this.2⟩;rw[show s=q.1 by simpa using z] at hu;exact hs u hu;show ap ?_;left;have e:a=kvs.length:=by lia
 rw[e,bB] at hc;exact r _ _ ⟨hT,.inl ⟨rfl,hc⟩⟩
def Sr.all{g:AG->AF}{rm one:AG}{kvs:List (AG×Dt)}(h:Sr g rm one o kvs x)(q:x = .non)(s:AG):s∈kvs.map (·.1)↔Rch g one s:=by
 show⟨h.t.rch s,λz=>?_⟩;rcases h.e with ⟨_,hc⟩ | ⟨u,e,_⟩;obtain⟨r,B⟩:=h.t.hd;show z (·∈kvs.map (·.1)) (by rw[B];exact am) λu v F I=>(hc u F v I).1;rw[q] at e;cases e
def zik  : FV:=λPn q n R=>∃ (x y:W),q=[x,y]/\(False)/\(R (.d (.lst [])) n)
def zik.i(q:False)(h:R (.d (.lst [])) n)  : zik Pn [x,y] n R:=⟨x,y,rfl,q,h⟩
def zhV (T:Txt K mg t):FnOk P w K mg base CX0 1 t.f6 t.d6 lM (spV 2 true zik):=by
 show Fun.okW (k:=0) (fr:=true) [2] 2 T.q6.F zaQ rfl (by ext) rfl λI A q s H E Pn J=>⟨_,(zb (wS yu <| xt (i:=2) zaQ.nd (ui zd))
   (zb (wS zo <| zz (i:=3) zaQ.nd (kv 1))
   (zb (zdH bh (wT zl <| zoI (kb 3)) (zb (wS zdL <| zgZ 2 (kv 3))
   (zh (wS zo <| zz (i:=3) zaQ.nd (zoy (za6 J) (kb 0) (kb 3) (λ_ _=>rfl))))))
   (zh (zM (wE zdN <| zjq (kb 2))))))),λU n R O=>?_⟩
 obtain⟨x,y,rfl,B,r⟩:=O;left;exact B.elim
def zk8 (P:Aa)(w:Ab)(C:Addr):FV:=λPn q n R=>∃ (L:LdI) (one other:AG),q=[.pen L.a,.d (stD one),.d (stD other)]/\(Pn.J=ldJ L)/\(L.P=P)/\(L.w=w)/\(L.C=C)/\(StOk L.rm one)/\(RoomOk L.rm)/\(xO L.rm L.bk)/\(zI L.rm<=256)/\(∀s,Rch (λs=>yy L.bk s L.hs) one s->other∉yy L.bk s L.hs)/\(∀sts:AF,Up' sts->(∀s,s∈sts↔Rch (λs=>yy L.bk s L.hs) one s)->(∀s∈sts,StOk L.rm s)->R (.d (.tup [.str "not",xN sts])) n)
def zk8.i{one other:AG}(B:Pn.J=ldJ L)(F:L.P=P)(I:L.w=w)(O:L.C=C)(h1:StOk L.rm one)(U:RoomOk L.rm)(Y:xO L.rm L.bk)(Z:zI L.rm<=256)(q:∀s,Rch (λs=>yy L.bk s L.hs) one s->other∉yy L.bk s L.hs)(h:∀sts:AF,Up' sts->(∀s,s∈sts↔Rch (λs=>yy L.bk s L.hs) one s)->(∀s∈sts,StOk L.rm s)->R (.d (.tup [.str "not",xN sts])) n)  : zk8 P w C Pn [.pen L.a,.d (stD one),.d (stD other)] n R:=⟨L,one,other,rfl,B,F,I,O,h1,U,Y,Z,q,h⟩
def zf7 (T:Txt K mg t):FnOk P w K mg base CX0 6 t.f7 t.d7 lq (spV 3 false (zk8 P w t.C_Leads)):=by
 have G5:=zhU (P:=P) (w:=w) (base:=base) T;have G6:=zhV (P:=P) (w:=w) (base:=base) T
 show Fun.okW (k:=5) (fr:=false) [] 2 T.q7.F zdh rfl (by ext) rfl λaa A I s H E Pn U=>⟨_,(zb (zoH (i:=3) (j:=4) K rfl rfl zdh.nd (wE zn <| yK T.q5 G5 U (za (kv 0) (za (kv 1) (za (kv 2) zd)))))
   (zb (wS zB <| yE (wT zl <| zjv (kb 4)) (zh (zM (yD (za zoB (za (zX (zlp rfl) zqq (by rfl) T.b_sorted cy (zi (kb 3) zk)) zd))))) zA)
   (zh (zM (yD (za zoB (za (uI zf9 zkT (JE.bo (wE zn <| yK T.q6 G6 U (za (kv 3) (za (kv 4) zd)))) (JE.bo (ui (za (kv 2) zd)))) zd))))))),λws n R hF=>?_⟩
 obtain⟨L,one,other,rfl,hL,hP,hw,hC,h1,Y,hB,hp,J,r⟩:=hF;left;show zbE.i hL hP hw hC h1 Y hB hp (.inr ⟨_,rfl⟩) λkvs x B=>?_
 have Z:x = .non:=by
  rcases B.e with ⟨e,_⟩ | ⟨u,_,O,v,hv,e⟩;exact e;exact absurd (by rw[<- zqb e];exact hv) (J u (B.t.rch u O))
 have ha:=B.all Z;subst Z;left;show⟨L.rm.length,Y.pos,λq hq=>(B.t.ok q.1 (aD.mpr ⟨q,hq,rfl⟩)).len,λsts hs O=>?_⟩;left;exact r sts O (λs=>(hs.mem_iff).trans (ha s)) λs z=>B.t.ok s ((hs.mem_iff).mp z)
def zao (P:Aa)(w:Ab)(C:Addr):FV:=λPn q n R=>∃ (rm:AG) (bk:AW) (one other hs:AG) (v:W),q=[.d (stD rm),.d (yP bk),.d (stD one),.d (stD other),v]/\(Pn.J=J0)/\(v = .d (stD hs)\/(hs=[]/\v = .d .non))/\(RoomOk rm)/\(xO rm bk)/\(zI rm<=256)/\(StOk rm one)/\(∀s,Rch (λs=>yy bk s hs) one s->other∉yy bk s hs)/\(∀sts:AF,Up' sts->(∀s,s∈sts↔Rch (λs=>yy bk s hs) one s)->(∀s∈sts,StOk rm s)->R (.d (.tup [.str "not",xN sts])) n)
def zao.i{rm:AG}{one other hs:AG}(B:Pn.J=J0)(F:v = .d (stD hs)\/(hs=[]/\v = .d .non))(I:RoomOk rm)(O:xO rm bk)(U:zI rm<=256)(h1:StOk rm one)(q:∀s,Rch (λs=>yy bk s hs) one s->other∉yy bk s hs)(h:∀sts:AF,Up' sts->(∀s,s∈sts↔Rch (λs=>yy bk s hs) one s)->(∀s∈sts,StOk rm s)->R (.d (.tup [.str "not",xN sts])) n)  : zao P w C Pn [.d (stD rm),.d (yP bk),.d (stD one),.d (stD other),v] n R:=⟨rm,bk,one,other,hs,v,rfl,B,F,I,O,U,h1,q,h⟩
def zl5 (T:Txt K mg t):FnOk P w K mg base CX0 7 t.f8 t.d8 ln (spV 5 false (zao P w t.C_Leads)):=by have G7:=zf7 (P:=P) (w:=w) (base:=base) T;have G_Leads_init:=zdR (P:=P) (w:=w) (base:=base) T;show FunD.okW (k:=6) (fr:=false) [] 0 T.q8.F zp3 rfl (by ext) rfl λO A q s H E Pn U=>⟨_,(zh (zM (zuF P w rfl rfl T.Leads T.q7 G_Leads_init G7 U T.Leads.b .nil (dv:=[]) (λ_ _=>rfl) (za (kv 0) (za (kv 1) (za (kv 4) zd))) (za (kv 2) (za (kv 3) zd)) ))),λws n R Y=>?_⟩;obtain⟨rm,bk,one,other,hs,v,rfl,Z,hv,I,J,hp,h1,B,r⟩:=Y;left;show⟨Z,?_⟩;left;show⟨rm,bk,hs,v,rfl,hv,I,J,?_⟩;left;show⟨rfl,rfl,?_⟩;rintro L hP hw hC rfl rfl rfl;exact zk8.i rfl hP hw hC h1 I J hp B r
def zcU  : FV:=λPn q n R=>∃ (ns:AG) (x:Dt),q=[.d x]/\(x=stD ns\/x=lsD ns)/\(∀m∈ns,2<=m/\m<=4)/\(R (.d (.int (zI ns))) n)
def zcU.i{ns:AG}(q:x=stD ns\/x=lsD ns)(B:∀m∈ns,2<=m/\m<=4)(h:R (.d (.int (zI ns))) n)  : zcU Pn [.d x] n R:=⟨ns,x,rfl,q,B,h⟩
def zaH (T:Txt K mg t):FnOk P w K mg base CX0 1 t.f9 t.d9 ll (spV 1 false zcU):=by
 show Fun.okW (k:=0) (fr:=false) [] 2 T.q9.F xC rfl (by ext) rfl λJ A q s H E Pn hr=>⟨_,(zb (wS zo <| zz (i:=1) xC.nd zj)
   (zb (xV bh rfl (wI zjM <| zng K rfl (kv 0)) (wG ye <| zt (i:=2) xC.nd) (zh (wS zo <| zz (i:=1) xC.nd (uI uS zqo (kb 1) (kb 2)))))
   (zh (zM (kv 1))))),λws n R O=>?_⟩
 obtain⟨ns,x,rfl,U,Y,r⟩:=O;left;refine' zrI _ (λkey=>?_) ?_;rotate_left;rcases U with rfl | rfl;left;generalize W.d (stD ns)=x;exact key x;left;generalize W.d (lsD ns)=x;exact key x;intro x;show yN ns (λi=>.d (.int i)) (by rw[aF];rfl) (λi ρ m=>m=n/\∃v,ρ=[some x,some (.d (.int (zI (ns.take i)))),v]) ⟨rfl,none,rfl⟩ ?_ ?_;rintro i a ρ m I ⟨rfl,v,rfl⟩ C B E Z _ _;have hm:=Y a (aJ I);left;show⟨.inr ⟨by lia,by lia⟩,Z ⟨rfl,some (.d (.int a)),?_⟩⟩;rw[zm I,yB];rintro ρ m ⟨rfl,v,rfl⟩;rw[bB];left;exact r
def zeu  : FV:=λPn q n R=>∃ (ns:AG) (x:Dt),q=[.d x]/\(x=stD ns\/x=lsD ns)/\(∀m∈ns,2<=m/\m<=4)/\(ns.length<=8)/\(R (.d (xN (uF (ns.map zG)))) n)
def zeu.i{ns:AG}(q:x=stD ns\/x=lsD ns)(B:∀m∈ns,2<=m/\m<=4)(F:ns.length<=8)(h:R (.d (xN (uF (ns.map zG)))) n)  : zeu Pn [.d x] n R:=⟨ns,x,rfl,q,B,F,h⟩
def zbl (T:Txt K mg t):FnOk P w K mg base CX0 1 t.f10 t.d10 ll (spV 1 false zeu):=by
 show Fun.okW (k:=0) (fr:=false) [] 2 T.q10.F uq rfl (by ext) rfl λaa A O s H E Pn hr=>⟨_,(zb (wS zo <| zz (i:=1) uq.nd (ui (za (yD zd) zd)))
   (zb (xV bh rfl (wI zjM <| zng K rfl (kv 0)) (wG ye <| zt (i:=2) uq.nd) (zh (wS zo <| zz (i:=1) uq.nd (xU (N:=lL) (cix:=[none,some 1,some 2]) rfl (by walk_at "c") (wI yM <| yc rfl T.b_range (zi (JE.bo (uI uS zqo (JE.bo (zX yv uB (by rfl) T.b_len bg (zi (kb 1) zk))) (kb 2))) zk)) (λ_ _ _ _=>(wG ye <| zt (i:=0) (show (lL:AM).Nodup by decide +kernel))) (λ_ _ _ _=>xb) (λ_ _ _ _=>(uI xh zaW (JE.bo (uD yf u6 (kb 1) (JE.bo (uI zdY zti (kb 0) (kb 2))) (λ_ _=>rfl))) (JE.bo (yD (za (uI uR zqn (kb 0) (kb 2)) zd)))))))))
   (zh (zM (kv 1))))),λws n R hF=>?_⟩
 obtain⟨ns,x,rfl,hw,hb,h8,r⟩:=hF;left;refine' zrI _ (λkey=>?_) ?_;rotate_left;rcases hw with rfl | rfl;left;generalize W.d (stD ns)=x;exact key x;left;generalize W.d (lsD ns)=x;exact key x;intro x;show yN ns (λi=>.d (.int i)) (by rw[aF];rfl) (λi ρ m=>m=n/\∃v,ρ=[some x,some (.d (xN (uF ((ns.take i).map zG)))),v]) ⟨rfl,none,rfl⟩ ?_ ?_;rintro i a ρ m ha ⟨rfl,v,rfl⟩ C B E U _ _;have hm:=hb a (aJ ha);obtain⟨w,rfl⟩:∃w:Nat,a=(w:Int):=⟨a.toNat,by lia⟩;have q:=zgy h8 hb i;have I:∀st∈uF ((ns.take i).map zG),st.length<=8:=λst Y=>by rw[zla _ _ Y,af,bm];lia
 have J:(List.range ((uF ((ns.take i).map zG)).length * w)).map (λk=>(uF ((ns.take i).map zG)).getD (k / w) []++[((k % w:Nat):Int)])=uF ((ns.take (i+1)).map zG):=by rw[zm ha,aH,aB,et,y8,zgH _ (by lia)]
 generalize uF ((ns.take i).map zG)=rows at q J I;have Z:rows.length * w<=262144:=Nat.mul_le_mul q (by lia:w<=4);left;have e:(((rows.map stD).length:Nat):Int) * (w:Int)=((rows.length * w:Nat):Int):=by rw[af,dW]
 show⟨.inr ⟨by lia,by lia⟩,?_⟩;left;rw[e];show⟨⟨by lia,by lia⟩,?_⟩;rw[aR,xA];show zbW (List.range (rows.length * w)) (λk:Nat=>W.d (.int (k:Int))) rfl (λρ=>∃v,ρ=[v,some (.d (xN rows)),some (.d (.int (w:Int)))]) (λk=>stD (rows.getD (k / w) []++[((k % w:Nat):Int)])) (by rw[aE];exact aA Z (by ext)) ⟨_,rfl⟩ ?_ ?_;rintro k hk ab ⟨v,rfl⟩ C U;have ac:=aQ.mp hk;have hd:k / w<rows.length:=Nat.div_lt_of_lt_mul (by rwa[Nat.mul_comm]);have e1:(k:Int) / (w:Int)=((k / w:Nat):Int):=by lia
 have e2:(k:Int) % (w:Int)=((k % w:Nat):Int):=by lia
 left;show⟨⟨by lia,by lia⟩,?_⟩;left;rw[e1];show zbd (zbU hd) ?_;left;show⟨by lia,?_⟩;left;show⟨zoO (aA (I _ (yQ hd)) (by ext)),?_⟩;rw[zm6,e2];exact U ⟨_,rfl⟩;rw[show (List.range (rows.length * w)).map (λk=>stD (rows.getD (k / w) []++[((k % w:Nat):Int)]))=((List.range (rows.length * w)).map λk=>rows.getD (k / w) []++[((k % w:Nat):Int)]).map stD by rw[aF];rfl,J];left;exact U ⟨rfl,_,rfl⟩;rintro ρ m ⟨rfl,v,rfl⟩;rw[bB];left;exact r
def zgu (K:AH):FV:=λPn B n R=>∃ (p:Addr) (q:Int),B=[.pen p,.d (.int q)]/\(uc K Pn p)/\(n+30<=1000000)/\(q=256\/(4<=q/\q<=64))/\(∀rm m,RoomOk rm->zI rm<=q->m<=n+20->R (.d (stD rm)) m)
def zgu.i{q:Int}(F:uc K Pn p)(B:q=256\/(4<=q/\q<=64))(h:∀rm m,RoomOk rm->zI rm<=q->m<=n+20->R (.d (stD rm)) m)(hn:n+30<=1000000:=by lia):zgu K Pn [.pen p,.d (.int q)] n R:=⟨p,q,rfl,F,hn,B,h⟩
def zdW (T:Txt K mg t):FnOk P w K mg base CX0 2 t.f11 t.d11 lf (spV 2 false (zgu K)):=by
 have G1:=zJ (P:=P) (w:=w) (base:=base) T;have G9:=zaH (P:=P) (w:=w) (base:=base) T
 show Fun.okW (k:=1) (fr:=false) [] 4 T.q11.F ym rfl (by ext) rfl λad A ac s H E Pn I=>⟨_,(zb (wS zB <| yE (wT zl <| zF uA zfq (kb 1) (JE.bo zj) (zx _)) (zh (zM (uD yf u6 (JE.bo (ui (za (yD (za zj (za zj (za zj (za zj zd))))) (za (yD (za zj (za zj (za zj (za zj (za zj (za zj (za zj (za zj zd))))))))) (za (yD (za zj (za zj (za zj (za zj (za zj zd)))))) (za (yD (za zj (za zj (za zj (za zj (za zj zd)))))) zd)))))) (JE.bo (wE zn <| yK T.q1 G1 I (za (kv 0) (za zj zd)))) (λ_ _=>rfl)))) zA)
   (zb (wS zo <| zz (i:=2) ym.nd (ui (za (yD (za zj zd)) (za (yD (za zj (za zj zd))) (za (yD (za zj (za zj (za zj (za zj zd))))) (za (yD (za zj (za zj zd))) (za (yD (za zj (za zj (za zj (za zj (za zj (za zj zd))))))) (za (yD (za zj (za zj (za zj zd)))) (za (yD (za zj (za zj (za zj (za zj zd))))) zd)))))))))
   (zb (wS zo <| zz (i:=3) ym.nd (uD yf u6 (kb 2) (JE.bo (wE zn <| yK T.q1 G1 I (za (kv 0) (za zj zd)))) (λ_ _=>rfl)))
   (zb (wS zB <| yE (JW.t (wW uj <| zaA (wT zl <| zF zr0 u_le (JE.bo (wE zn <| yK T.q9 G9 I (za (kv 3) zd))) (kb 1) (zx _)) (zah (.inl rfl) (wT zl <| zF uA zfq (JE.bo (wE zn <| yK T.q1 G1 I (za (kv 0) (za zj zd)))) (JE.bo zj) (zx _))))) (zh (zM (kv 3))) zA)
   (zb (wS zo <| zz (i:=3) ym.nd (yD zd))
   (zb (xV bh rfl (wI yM <| yc rfl T.b_range (zi (JE.bo (uI yA zbg (JE.bo zj) (JE.bo (wE zn <| yK T.q1 G1 I (za (kv 0) (za zj zd)))))) zk)) (wG ye <| zt (i:=4) ym.nd) (zb (wS zo <| zz (i:=5) ym.nd (uI yA zbg (JE.bo zj) (JE.bo (wE zn <| yK T.q1 G1 I (za (kv 0) (za zj zd))))))
   (zh (wS zB <| yE (wT zl <| zF zr0 u_le (JE.bo (uI uS zqo (JE.bo (wE zn <| yK T.q9 G9 I (za (kv 3) zd))) (kb 5))) (kb 1) (zx _)) (zh (wS zo <| zz (i:=3) ym.nd (uI xh zaW (kb 3) (JE.bo (yD (za (kv 5) zd)))))) zA))))
   (zh (zM (kv 3))))))))),λws n R hF=>?_⟩
 obtain⟨p,q,rfl,O,hn,U,r⟩:=hF;left;rcases U with rfl | U;walk_at "ct";show dr O λa a0 a1=>?_;left;show zl6 a0 a1 λx Y=>?_
 obtain⟨rm,rfl,hR,Z⟩:∃rm,x=stD rm/\RoomOk rm/\zI rm<=256:=by
  simp only[aG,cD,or_false] at Y;rcases Y with rfl | rfl | rfl | rfl;exact yI [4,4,4,4] rfl (by ext);exact yI [2,2,2,2,2,2,2,2] rfl (by ext);exact yI [3,3,3,3,3] rfl (by ext);exact yI [4,4,4,2,2] rfl (by ext)
 exact r rm _ hR Z (by lia)
 ·show xm (λh=>absurd h (by lia)) (λ_=>?_);left;show dr O λa a0 a1=>?_;left;show zl6 a0 a1 λx Y=>?_
  obtain⟨rm,rfl,hR,Z⟩:∃rm,x=stD rm/\RoomOk rm/\zI rm<=256:=by
   simp only[aG,cD,or_false] at Y;rcases Y with rfl | rfl | rfl | rfl | rfl | rfl | rfl;exact yI [2] rfl (by ext);exact yI [4,2] rfl (by ext);exact yI [2,2,2,2] rfl (by ext);exact yI [4,4] rfl (by ext);exact yI [2,2,2,2,2,2] rfl (by ext);exact yI [4,4,4] rfl (by ext);exact yI [3,2,4,2] rfl (by ext)
  left;show zcU.i (.inl rfl) hR.box ?_;left;refine' zu5 (n+2) _ (λzy=>?_) ?_;rotate_left;show xm (λhsz=>?_) (λ_=>?_);left;show dr O λb b0 b1=>?_;left;show xm (λ_=>?_) (λ_=>?_);left;exact r rm _ hR hsz (by lia);left;generalize aa:n+1+1=n1;exact zy n1 (by lia);left;generalize aa:n+1=n1;exact zy n1 (by lia);intro n1 aa;left;show dr O λt t0 t1=>?_;left;show⟨⟨by lia,by lia⟩,zeN (λi ρ m=>m<=n1+1+i/\∃rm v2 v4 v5,ρ=[some (.pen p),some (.d (.int q)),v2,some (.d (stD rm)),v4,v5]/\(∀r∈rm,2<=r/\r<=4)/\zI rm<=q/\(1<=i->rm≠[])) ⟨by lia,[],_,_,_,rfl,by simp,by change (1:Int)<=q;lia,by lia⟩ ?_ ?_⟩;rintro i ρ m hi ⟨hm,rm,v2,v4,v5,rfl,J,Z,ab⟩ C B E hC _ _;left;show dr O λw w0 w1=>?_;have h8:=zbn J (by lia);left;show zcU.i (.inl rfl) J ?_;left;show⟨.inr ⟨by lia,by lia⟩,?_⟩;left;show xm (λhc=>?_) (λhc=>?_);left;show⟨zoO (by lia),?_⟩;rw[zm6];show hC ⟨by lia,rm++[2+w],_,_,_,rfl,λr I=>?_,by rw[yB];exact hc,λ_=>by simp⟩;rcases au.mp I with z | z;exact J r z;rw[aq.mp z];lia;left;show hC ⟨by lia,rm,_,_,_,rfl,J,Z,λ_ z=>hc ?_⟩;subst z;change 1 * (2+w)<=q;lia;rintro ρ m ⟨hm,rm,v2,v4,v5,rfl,J,Z,ab⟩;left;exact r rm m ⟨ab (by lia),zbn J (by lia),J⟩ (by lia) (by lia)
def zgv (K:AH):FV:=λPn q n R=>∃ (p:Addr) (rm:AG),q=[.pen p,.d (stD rm)]/\(uc K Pn p)/\(n+20<=1000000)/\(RoomOk rm)/\(∀st m,StOk rm st->m<=n+8->R (.d (stD st)) m)
def zgv.i{rm:AG}(q:uc K Pn p)(B:RoomOk rm)(h:∀st m,StOk rm st->m<=n+8->R (.d (stD st)) m)(hn:n+20<=1000000:=by lia):zgv K Pn [.pen p,.d (stD rm)] n R:=⟨p,rm,rfl,q,hn,B,h⟩
def zbc (T:Txt K mg t):FnOk P w K mg base CX0 2 t.f12 t.d12 lc (spV 2 false (zgv K)):=by
 have G1:=zJ (P:=P) (w:=w) (base:=base) T;show Fun.okW (k:=1) (fr:=false) [] 0 T.q12.F zbC rfl (by ext) rfl λZ A I s H E Pn hr=>⟨_,(zh (zM (yp zY ut (by rfl) T.b_tuple bv (zi (JE.bo (xU (N:=lS) (cix:=[none,some 0]) rfl (by walk_at "c") (wI zcc <| zeT K rfl (kv 1)) (λ_ _ _ _=>(wG ye <| zt (i:=0) (show (lS:AM).Nodup by decide +kernel))) (λ_ _ _ _=>xb) (λ_ _ _ _=>(wE zn <| yK T.q1 G1 hr (za (kv 1) (za (kv 0) zd)))))) zk)))),λws n R hF=>?_⟩;obtain⟨p,rm,rfl,hP,hn,Y,r⟩:=hF;left;have h8:=Y.few;show zgE rm (λi=>.d (.int i)) (by rw[aF];rfl) (aA h8 (by ext)) (λi q J acc=>J=n+i/\i<=rm.length/\∃ (v:Option W) (st:AG),q=[v,some (.pen p)]/\acc=st.map Dt.int/\StOk (rm.take i) st) ⟨rfl,aM _,none,[],rfl,rfl,rfl,λb b0 b1=>absurd b1 (by simp;lia)⟩ ?_ ?_;rintro i a q J acc O ⟨rfl,hi,v,st,rfl,rfl,B⟩ C hC;have hm:=Y.box a (aJ O);have U:=(aj.mp O).1;left;show dr hP λt t0 t1=>?_;left;rw[zm6];show hC ⟨rfl,U,_,st++[t],rfl,rfl,?_⟩;rw[zm O];exact B.snoc t0 t1;rintro q J acc ⟨rfl,hi,v,st,rfl,rfl,B⟩;rw[bB] at B;exact r st _ B (by lia)
def zcS (K:AH):FV:=λPn F n R=>∃ (p:Addr) (rm:AG) (B:Int),F=[.pen p,.d (stD rm),.d (.int B)]/\(uc K Pn p)/\(n+40<=1000000)/\(RoomOk rm)/\(∀g m,Giv rm g->(∀q∈g,q.1≠B)->m<=n+20->R (.d (zri g)) m)
def zcS.i{rm:AG}{B:Int}(F:uc K Pn p)(I:RoomOk rm)(h:∀g m,Giv rm g->(∀q∈g,q.1≠B)->m<=n+20->R (.d (zri g)) m)(hn:n+40<=1000000:=by lia):zcS K Pn [.pen p,.d (stD rm),.d (.int B)] n R:=⟨p,rm,B,rfl,F,hn,I,h⟩
def zcK (T:Txt K mg t):FnOk P w K mg base CX0 2 t.f13 t.d13 lu (spV 3 false (zcS K)):=by
 have G1:=zJ (P:=P) (w:=w) (base:=base) T
 show Fun.okW (k:=1) (fr:=false) [4] 3 T.q13.F y4 rfl (by ext) rfl λad A aa s H E Pn hr=>⟨_,(zb (wS zo <| zz (i:=3) y4.nd (uI yA zbg (JE.bo zj) (JE.bo (wE zn <| yK T.q1 G1 hr (za (kv 0) (za zj zd))))))
   (zb (wS yu <| xt (i:=4) y4.nd (ui zd))
   (zb (xV bh rfl (wI yM <| yc rfl T.b_range (zi (JE.bo (zX yv uB (by rfl) T.b_len bg (zi (kb 1) zk))) zk)) (wG ye <| zt (i:=5) y4.nd) (zh (wS zB <| yE (JW.t (wW uj <| zaA (wT zl <| zF uA zfq (JE.bo (wE zn <| yK T.q1 G1 hr (za (kv 0) (za (uI yA zbg (JE.bo zj) (kb 3)) zd)))) (JE.bo zj) (zx _)) (zah (.inl rfl) (wT zl <| zF zga zqG (kb 5) (kb 2) (zx _))))) (zh (wS zdL <| zgZ 4 (yD (za (kv 5) (za (wE zn <| yK T.q1 G1 hr (za (kv 0) (za (uD yt ur (kb 1) (kb 5) (λ_ _=>rfl)) zd))) zd))))) zA)))
   (zh (zM (yp zY ut (by rfl) T.b_tuple bv (zi (kb 4) zk))))))),λws n R hF=>?_⟩
 obtain⟨p,rm,O,rfl,hP,hn,hR,r⟩:=hF;left;have h8:=hR.few;show dr hP λra ag al=>?_;left;rw[af];show⟨⟨by lia,by lia⟩,zeN (λi ρ m=>m<=n+1+2 * i/\i<=rm.length/\∃g U,ρ=[some (.pen p),some (.d (stD rm)),some (.d (.int O)),some (.d (.int (1+ra))),some (.d (.lst (g.map xK))),U]/\Giv rm g/\(∀q∈g,q.1≠O)/\(∀q∈g,q.1<(i:Int))/\g.length<=i) ⟨by lia,aM _,[],_,rfl,⟨by simp,.nil⟩,by simp,by simp,aM _⟩ ?_ ?_⟩;rintro i ρ m hi ⟨hm,ab,g,U,rfl,hG,I,J,ac⟩ C B E hC _ _;have an:=x6 hR.box (b:=(i:Int)) (by lia) (by lia);left;show dr hP λt t0 t1=>?_;have Y:∀U,C [some (.pen p),some (.d (stD rm)),some (.d (.int O)),some (.d (.int (1+ra))),some (.d (.lst (g.map xK))),U] (m+1):=λU=>hC ⟨by lia,by lia,g,_,rfl,hG,I,λq Z=>by have:=J q Z;lia,by lia⟩;left;show xm (λ_=>?_) (λ_=>⟨Y _⟩);left;show zl8 (λhb=>?_) (λ_=>⟨Y _⟩);left;show onA (by lia) (by lia) ?_;left;show dr hP λu u0 u1=>?_;left;show⟨by rw[af];exact aZ (by lia:_<=8) (by ext),hC ⟨by lia,by lia,g++[((i:Int),u)],_,by rw[aH];rfl,hG.snoc J (by lia) (by lia) u0 u1,λq Z=>?_,λq Z=>?_,by rw[ao];simp;lia⟩⟩;rcases au.mp Z with z | z;exact I q z;rw[aq.mp z];exact hb;rcases au.mp Z with z | z;have:=J q z;lia;rw[aq.mp z];change (i:Int)<((i+1:Nat):Int);lia;rintro ρ m ⟨hm,ab,g,U,rfl,hG,I,J,ac⟩;left;exact r g m hG I (by lia)
def zcT (K:AH):FV:=λPn B n R=>∃ (p:Addr) (rm:AG) (q:Int),B=[.pen p,.d (stD rm),.d (.int q)]/\(uc K Pn p)/\(n+60<=1000000)/\(RoomOk rm)/\(∀x m,WishOk rm x->m<=n+30->R (.d (xM x)) m)
def zcT.i{rm:AG}{q:Int}(B:uc K Pn p)(F:RoomOk rm)(h:∀x m,WishOk rm x->m<=n+30->R (.d (xM x)) m)(hn:n+60<=1000000:=by lia):zcT K Pn [.pen p,.d (stD rm),.d (.int q)] n R:=⟨p,rm,q,rfl,B,hn,F,h⟩
def zaI (T:Txt K mg t):FnOk P w K mg base CX0 3 t.f14 t.d14 li (spV 3 false (zcT K)):=by
 have G1:=zJ (P:=P) (w:=w) (base:=base) T;have G13:=zcK (P:=P) (w:=w) (base:=base) T
 show Fun.okW (k:=2) (fr:=false) [] 3 T.q14.F yX rfl (by ext) rfl λac A aa s H E Pn hr=>⟨_,(zb (wS zo <| zz (i:=3) yX.nd (wE zn <| yK T.q1 G1 hr (za (kv 0) (za (zX yv uB (by rfl) T.b_len bg (zi (kb 1) zk)) zd))))
   (zb (wS zo <| zz (i:=4) yX.nd (wE zn <| yK T.q1 G1 hr (za (kv 0) (za (uD yt ur (kb 1) (kb 3) (λ_ _=>rfl)) zd))))
   (zb (wS zo <| zz (i:=5) yX.nd (uI uR zqn (JE.bo (uI yA zbg (JE.bo (uI yA zbg (kb 4) (JE.bo zj))) (JE.bo (wE zn <| yK T.q1 G1 hr (za (kv 0) (za (uI zj4 zqr (JE.bo (uD yt ur (kb 1) (kb 3) (λ_ _=>rfl))) (JE.bo zj)) zd)))))) (JE.bo (uD yt ur (kb 1) (kb 3) (λ_ _=>rfl)))))
   (zb (wS zB <| yE (JW.t (wW uj <| zaA (wT zl <| zF uA zfq (kb 2) (JE.bo zj) (zx _)) (zah (.inl rfl) (wT zl <| zF zj3 ztW (kb 5) (kb 4) (zx _))))) (zh (wS zoU <| zru (i:=5) (j:=4) rfl yX.nd rfl rfl rfl rfl (za (kv 4) (za (kv 5) zd)))) zA)
   (zh (zM (yD (za (wE zn <| yK T.q13 G13 hr (za (kv 0) (za (kv 1) (za (kv 3) zd)))) (za (kv 3) (za (kv 5) (za (kv 4) zd))))))))))),λws n R hF=>?_⟩
 obtain⟨p,rm,ad,rfl,Y,hn,Z,r⟩:=hF;left;have h8:=Z.few;have ab:=Z.pos;rw[af];show dr Y λq O U=>?_;have hm:=x6 Z.box O U;left;show onA O U ?_;left;show dr Y λJ w0 w1=>?_;left;show onA O U ?_;left;show dr Y λt t0 t1=>?_;left;show onA O U ?_;left;show⟨by lia,?_⟩;have c0:=c7 (J+1+t) (show zP rm q≠0 by lia);have c1:=cw (J+1+t) (show 0<zP rm q by lia)
 have I:(J+1+t) % zP rm q≠J:=by
  have h3:zP rm q=2\/zP rm q=3\/zP rm q=4:=by lia
  revert w1 t1;generalize zP rm q=mm at h3;rcases h3 with rfl | rfl | rfl <;> lia
 generalize (J+1+t) % zP rm q=be at c0 c1 I;left;show xm (λ_=>?_) (λ_=>?_);left;show xm (λ_=>?_) (λ_=>?_);left;show zcS.i Y Z λg m hG B hm=>?_;left;exact r ⟨g,q,J,be⟩ m ⟨hG,O,U,B,w0,w1,c0,c1,Ne.symm I⟩ (by lia);left;show zcS.i Y Z λg m hG B hm=>?_;left;exact r ⟨g,q,be,J⟩ m ⟨hG,O,U,B,c0,c1,w0,w1,I⟩ (by lia);left;show zcS.i Y Z λg m hG B hm=>?_;left;exact r ⟨g,q,be,J⟩ m ⟨hG,O,U,B,c0,c1,w0,w1,I⟩ (by lia)
def u7 (K:AH):FV:=λPn q n R=>∃ (p:Addr) (l:AS),q=[.pen p,.d (.lst l)]/\(uc K Pn p)/\(n+l.length+5<=1000000)/\(l.length<=1000)/\(∀l':AS,l'.Perm l->R (.d (.lst l')) (n+l.length))
def u7.i(q:uc K Pn p)(B:l.length<=1000)(h:∀l':AS,l'.Perm l->R (.d (.lst l')) (n+l.length))(hn:n+l.length+5<=1000000:=by lia):u7 K Pn [.pen p,.d (.lst l)] n R:=⟨p,l,rfl,q,hn,B,h⟩
def zch (T:Txt K mg t):FnOk P w K mg base CX0 2 t.f15 t.d15 lG (spV 2 true (u7 K)):=by
 have G1:=zJ (P:=P) (w:=w) (base:=base) T
 show Fun.okW (k:=1) (fr:=true) [2] 2 T.q15.F xL rfl (by ext) rfl λY A J s H E Pn Z=>⟨_,(zb (wS yu <| xt (i:=2) xL.nd (ui zd))
   (zb (xV bh rfl (wI xJ <| xI K rfl (kv 1)) (wG ye <| zt (i:=3) xL.nd) (zh (wS zjL <| zni 2 (wE zn <| yK T.q1 G1 Z (za (kv 0) (za (uI yA zbg (JE.bo (zX yv uB (by rfl) T.b_len bg (zi (kb 2) zk))) (JE.bo zj)) zd))) (kv 3))))
   (zh (wS zg5 <| zjt 2)))),λws n R hF=>?_⟩
 obtain⟨p,l,rfl,hP,hn,hl,r⟩:=hF;left;show yN l W.d rfl (λi ρ m=>m=n+i/\i<=l.length/\∃l' v,ρ=[some (.pen p),some (.d (.lst l)),some (.d (.lst l')),v]/\l'.Perm (l.take i)) ⟨rfl,aM _,[],_,rfl,.refl _⟩ ?_ ?_;rintro i a ρ m U ⟨rfl,O,l',v,rfl,q⟩ C B E hC _ _;have I:=q.length_eq;rw[bm] at I;have hi:=(aj.mp U).1;left;show dr hP λt t0 t1=>?_;left;show⟨⟨t0,by lia,aZ (by lia:_<=1000) (by ext)⟩,hC ⟨by lia,hi,_,_,rfl,?_⟩⟩;rw[zm U];show .trans ?_ (List.perm_append_comm (l₁:=[a]));show .trans List.perm_middle (List.Perm.cons a ?_);rw[aX];exact q;rintro ρ m ⟨rfl,O,l',v,rfl,q⟩;rw[bB] at q;left;exact r l' q
def zuo (a b:AG):Nat:=((List.range a.length).filter λk=>!decide (a.getD k 0=b.getD k 0)).headD 0
def zev  : FV:=λPn q n R=>∃ (rm a b:AG),q=[.d (stD a),.d (stD b)]/\(RoomOk rm)/\(StOk rm a)/\(StOk rm b)/\(a≠b)/\(∀x,WishOk rm x->x=zlA a b (zuo a b)->R (.d (xM x)) n)
def zev.i{rm a b:AG}(B:RoomOk rm)(F:StOk rm a)(I:StOk rm b)(q:a≠b)(h:∀x,WishOk rm x->x=zlA a b (zuo a b)->R (.d (xM x)) n)  : zev Pn [.d (stD a),.d (stD b)] n R:=⟨rm,a,b,rfl,B,F,I,q,h⟩
def zdU (T:Txt K mg t):FnOk P w K mg base CX0 1 t.f16 t.d16 lK (spV 2 false zev):=by
 show Fun.okW (k:=0) (fr:=false) [] 2 T.q16.F uZ rfl (by ext) rfl λac A B s H E Pn hr=>⟨_,(zb (wS zo <| zz (i:=2) uZ.nd (uD yf u6 (JE.bo (xU (N:=lQ) (cix:=[none,some 0,some 1]) rfl (by walk_at "c") (wI yM <| yc rfl T.b_range (zi (JE.bo (zX yv uB (by rfl) T.b_len bg (zi (kb 0) zk))) zk)) (λ_ _ _ _=>(wG ye <| zt (i:=0) (show (lQ:AM).Nodup by decide +kernel))) (λ_ _ _ _=>(zb6 (wT zl <| zF zga zqG (JE.bo (uD yt ur (kb 1) (kb 0) (λ_ _=>rfl))) (JE.bo (uD yt ur (kb 2) (kb 0) (λ_ _=>rfl))) (zx _)))) (λ_ _ _ _=>(kv 0)))) (JE.bo zj) (λ_ _=>rfl)))
   (zb (wS zo <| zz (i:=3) uZ.nd (yp zY ut (by rfl) T.b_tuple bv (zi (JE.bo (xU (N:=lR) (cix:=[none,some 0,some 2]) rfl (by walk_at "c") (wI yM <| yc rfl T.b_range (zi (JE.bo (zX yv uB (by rfl) T.b_len bg (zi (kb 0) zk))) zk)) (λ_ _ _ _=>(wG ye <| zt (i:=0) (show (lR:AM).Nodup by decide +kernel))) (λ_ _ _ _=>(zb6 (wT zl <| zF zga zqG (kb 0) (kb 2) (zx _)))) (λ_ _ _ _=>(yD (za (kv 0) (za (uD yt ur (kb 1) (kb 0) (λ_ _=>rfl)) zd)))))) zk)))
   (zh (zM (yD (za (kv 3) (za (kv 2) (za (uD yt ur (kb 1) (kb 2) (λ_ _=>rfl)) (za (uD yt ur (kb 0) (kb 2) (λ_ _=>rfl)) zd))))))))),λws n R hF=>?_⟩
 obtain⟨rm,a,b,rfl,hR,ha,hb,I,r⟩:=hF;left;have J:=ha.len;have O:=hb.len;have h8:=hR.few;rw[af];show⟨⟨by lia,by lia⟩,?_⟩;rw[aR,xA];show zdu (List.range a.length) (λk:Nat=>W.d (.int (k:Int))) rfl (λρ=>∃v,ρ=[v,some (.d (stD a)),some (.d (stD b))]) (λk=>!decide (a.getD k 0=b.getD k 0)) (λk=>.int (k:Int)) (by rw[aE];exact aA (by lia:a.length<=8) (by ext)) ⟨_,rfl⟩ ?_ ?_;rintro k q U ⟨v,rfl⟩ C Y Z;have ad:=aQ.mp q;left;show onA (by lia) (by lia) ?_;left;show onA (by lia) (by lia) ?_;left;rw[zN,zN];show zl8 (λh=>?_) (λh=>?_);exact Y (by rw[a8 h];rfl) ⟨_,rfl⟩;exact Z (by rw[bi h];rfl) ⟨_,rfl⟩;obtain⟨k,zy,q,aa,ab⟩:=ziQ (J.trans O.symm) I;rw[q];left;show zbd (zex (i:=0) rfl) ?_;left;rw[af];show⟨⟨by lia,by lia⟩,?_⟩;rw[aR,xA];show zdu (List.range a.length) (λk:Nat=>W.d (.int (k:Int))) rfl (λρ=>∃v,ρ=[v,some (.d (stD a)),some (.d (.int (k:Int)))]) (λi=>!decide (i=k)) (λi=>xK ((i:Int),a.getD i 0)) (by rw[aE];exact aA (by lia:a.length<=8) (by ext)) ⟨_,rfl⟩ ?_ ?_;rintro i hi U ⟨v,rfl⟩ C Y Z;have ag:=aQ.mp hi;left;show zl8 (λh=>?_) (λh=>?_);left;show onA (by lia) (by lia) ?_;left;rw[zN];exact Y (by rw[a8 (by lia)];rfl) ⟨_,rfl⟩;exact Z (by rw[bi (by lia)];rfl) ⟨_,rfl⟩;left;show onA (by lia) (by lia) ?_;left;show onA (by lia) (by lia) ?_;left;have:=r _ (zlB ha hb aa ab) (by unfold zuo;rw[q];rfl);unfold zlA xM at this;rw[aF] at this;rw[zN,zN];exact this
def zdo  : FV:=λPn q n R=>∃ (rm:AG),q=[.d (stD rm)]/\(RoomOk rm)/\(zI rm<=256)/\(∀sts:AF,sts.Nodup->(∀st∈sts,StOk rm st)->(sts.length:Int)=zI rm->R (.d (xN sts)) n)
def zdo.i{rm:AG}(q:RoomOk rm)(B:zI rm<=256)(h:∀sts:AF,sts.Nodup->(∀st∈sts,StOk rm st)->(sts.length:Int)=zI rm->R (.d (xN sts)) n)  : zdo Pn [.d (stD rm)] n R:=⟨rm,rfl,q,B,h⟩
def zcL (T:Txt K mg t):FnOk P w K mg base CX0 1 t.f17 t.d17 ll (spV 1 true zdo):=by
 show Fun.okW (k:=0) (fr:=true) [1,3] 5 T.q17.F z9 rfl (by ext) rfl λap A al s H E Pn hr=>⟨_,(zb (wS yu <| xt (i:=1) z9.nd (ui (za (yD zd) zd)))
   (zb (xV bh rfl (wI zcc <| zeT K rfl (kv 0)) (wG ye <| zt (i:=2) z9.nd) (zb (wS yu <| xt (i:=3) z9.nd (ui zd))
   (zb (xV bh rfl (wI yM <| yc rfl T.b_range (zi (JE.bo (zX yv uB (by rfl) T.b_len bg (zi (kb 1) zk))) zk)) (wG ye <| zt (i:=4) z9.nd) (zb (wS zo <| zoF (i:=5) (zdG (ix:=5) z9.nd rfl rfl (N:=lO) (cix:=[none,some 1,some 4]) rfl (by walk_at "c") (wI yM <| yc rfl T.b_range (zi (kb 2) zk)) (λ_ _ _ _=>(wG ye <| zt (i:=0) (show (lO:AM).Nodup by decide +kernel))) (λ_ _ _ _=>xb) (λ_ _ _ _=>(uI xh zaW (JE.bo (uD yf u6 (kb 1) (kb 2) (λ_ _=>rfl))) (JE.bo (yD (za (kv 0) zd)))))))
   (zh (wS zjJ <| znh 3 (uD yf u6 (JE.bo (ui (za (kv 5) (za (wE zdN <| zjq (kb 5)) zd)))) (JE.bo (uI uR zqn (kb 4) (JE.bo zj))) (λ_ _=>rfl))))))
   (zh (wS zlW <| zlL (i:=1) 3 z9.nd rfl (Or.inr rfl))))))
   (zh (wS zg5 <| zjt 1)))),λws n R hF=>?_⟩
 obtain⟨rm,rfl,hR,hp,r⟩:=hF;left;have h8:=hR.few;have Y:∀i,zI (rm.take i)<=65536:=λi=>by rw[<- ud _ λn hn=>by have:=hR.box n (bF hn);lia];have:=zgy h8 hR.box i;lia
 show yN rm (λi=>.d (.int i)) (by rw[aF];rfl) (λi ρ m=>m=n/\∃ (sts:AF) (v2 v3 J O:Option W),ρ=[some (.d (stD rm)),some (.d (xN sts)),v2,v3,J,O]/\sts.Nodup/\(∀st∈sts,StOk (rm.take i) st)/\(sts.length:Int)=zI (rm.take i)) ⟨rfl,[[]],_,_,_,_,rfl,by ext,λst Z=>?_,rfl⟩ ?_ ?_;rw[aq.mp Z];exact⟨rfl,λb b0 b1=>absurd b1 (by simp;lia)⟩;rintro i a ρ m ha ⟨rfl,sts,v2,v3,J,O,rfl,hN,I,q⟩ C B E hC _ _;have hm:=hR.box a (aJ ha);have hf:=Y i;have as:=Y (i+1);have ad:zI (rm.take (i+1))=zI (rm.take i) * a:=by rw[zm ha,yB]
 obtain⟨w,rfl⟩:∃w:Nat,a=(w:Int):=⟨a.toNat,by lia⟩
 have a0:sts.length * w<=65536:=by
  have:((sts.length * w:Nat):Int)=zI (rm.take (i+1)):=by rw[ad,<- q,dW]
  lia
 left;rw[af];show⟨⟨by lia,by lia⟩,?_⟩;rw[aR];show zeN (λk ρ m'=>m'=m/\∃ (U:AF) (J O:Option W),ρ=[some (.d (stD rm)),some (.d (xN sts)),some (.d (.int (w:Int))),some (.d (.lst (U.map stD))),J,O]/\U.Nodup/\(∀x∈U,∃b∈sts.take k,∃v:Int,0<=v/\v<w/\x=b++[v])/\U.length=k * w) ⟨rfl,[],_,_,rfl,.nil,by simp,by simp⟩ ?_ ?_;rintro k ρ m' hk ⟨rfl,U,J,O,rfl,aa,ab,ac⟩ C B E hC _ _;left;show⟨⟨by lia,by lia⟩,?_⟩;rw[aR,xA];have an:=(I _ (yQ hk)).len;rw[bm] at an;have a1:(k+1) * w<=sts.length * w:=Nat.mul_le_mul_right _ hk;show zbW (List.range w) (λv:Nat=>W.d (.int (v:Int))) rfl (λρ=>∃v,ρ=[v,some (.d (xN sts)),some (.d (.int (k:Int)))]) (λv=>stD (sts.getD k []++[(v:Int)])) (by rw[aE];exact aA (by lia:w<=4) (by ext)) ⟨_,rfl⟩ ?_ ?_;rintro v hv a2 ⟨u,rfl⟩ C hC;left;show zbd (zbU hk) ?_;left;show⟨zoO (by lia),?_⟩;rw[zm6];exact hC ⟨_,rfl⟩;have ag:(List.range w).map (λv:Nat=>stD (sts.getD k []++[(v:Int)]))=((List.range w).map λv:Nat=>sts.getD k []++[(v:Int)]).map stD:=by rw[aF];rfl
 rw[ag];have fin:∀B:AF,B.Perm ((List.range w).map λv:Nat=>sts.getD k []++[(v:Int)])->∀J O,(U.map stD).length+(B.map stD).length<=lim/\C [some (.d (stD rm)),some (.d (xN sts)),some (.d (.int (w:Int))),some (.d (.lst (U.map stD++B.map stD))),J,O] m':=λB hB J O=>by obtain⟨q1,q2,q3⟩:=zh4 hk hN aa ab ac hB;show⟨?_,hC ⟨rfl,U++B,_,_,by rw[aH],q1,q2,q3⟩⟩;rw[af,af,<- ao,q3];exact aA (by lia:_<=65536) (by ext)
 generalize ((List.range w).map λv:Nat=>sts.getD k []++[(v:Int)])=blk at fin;left;have h2:(k:Int) % 2=0\/(k:Int) % 2=1:=by lia
 show⟨by lia,?_⟩;left;rcases h2 with e | e
 rw[e];with_reducible show zbd zt3 ?_;exact fin blk (.refl _) _ _
 rw[e];with_reducible show zbd zt4 ?_;have:=fin blk.reverse (dw _) (some (.d (.int (k:Int)))) (some (.d (.lst (blk.map stD))));rw[List.map_reverse] at this;exact this
 rintro ρ m' ⟨rfl,U,J,O,rfl,aa,ab,ac⟩;left;show hC ⟨rfl,U,_,_,_,_,rfl,aa,λst Z=>?_,?_⟩;obtain⟨b,hb,v,v0,v1,rfl⟩:=ab st Z;rw[bB] at hb;rw[zm ha];exact (I b hb).snoc v0 v1;rw[ac,ad,<- q,dW];rintro ρ m ⟨rfl,sts,v2,v3,J,O,rfl,hN,I,q⟩;rw[bB] at q I;left;exact r sts hN I q
def zcR (K:AH):FV:=λPn q n R=>∃ (p:Addr) (rm:AG),q=[.pen p,.d (stD rm)]/\(uc K Pn p)/\(n+5000<=1000000)/\(RoomOk rm)/\(zI rm<=256)/\(∀bk m,xO rm bk->bk.length<=1000->m<=n+4000->R (.d (yP bk)) m)
def zcR.i{rm:AG}(q:uc K Pn p)(B:RoomOk rm)(F:zI rm<=256)(h:∀bk m,xO rm bk->bk.length<=1000->m<=n+4000->R (.d (yP bk)) m)(hn:n+5000<=1000000:=by lia):zcR K Pn [.pen p,.d (stD rm)] n R:=⟨p,rm,rfl,q,hn,B,F,h⟩
def zbb (T:Txt K mg t):FnOk P w K mg base CX0 4 t.f18 t.d18 lc (spV 2 false (zcR K)):=by
 have G1:=zJ (P:=P) (w:=w) (base:=base) T;have G14:=zaI (P:=P) (w:=w) (base:=base) T;have G17:=zcL (P:=P) (w:=w) (base:=base) T;have G16:=zdU (P:=P) (w:=w) (base:=base) T
 show Fun.okW (k:=3) (fr:=false) [3] 4 T.q18.F zK rfl (by ext) rfl λap A al s H E Pn O=>⟨_,(zb (wS zo <| zz (i:=2) zK.nd (wE zn <| yK T.q17 G17 O (za (kv 1) zd)))
   (zb (wS zB <| yE (wT zl <| zF uA zfq (JE.bo (wE zn <| yK T.q1 G1 O (za (kv 0) (za zj zd)))) (JE.bo zj) (zx _)) (zh (wS zo <| zz (i:=2) zK.nd (wE zdN <| zjq (kb 2)))) zA)
   (zb (wS yu <| zjs (i:=3) (zdG (ix:=3) zK.nd rfl rfl (N:=[Az,"_law_row"]) (cix:=[none,some 2]) rfl (by walk_at "c") (wI yM <| yc rfl T.b_range (zi (JE.bo (uI zj4 zqr (JE.bo (zX yv uB (by rfl) T.b_len bg (zi (kb 2) zk))) (JE.bo zj))) zk)) (λ_ _ _ _=>(wG ye <| zt (i:=0) (show ([Az,"_law_row"]:AM).Nodup by decide +kernel))) (λ_ _ _ _=>xb) (λ_ _ _ _=>(wE zn <| yK T.q16 G16 O (za (uD yf u6 (kb 1) (kb 0) (λ_ _=>rfl)) (za (uD yf u6 (kb 1) (JE.bo (uI yA zbg (kb 0) (JE.bo zj))) (λ_ _=>rfl)) zd))))))
   (zb (wS zo <| zz (i:=4) zK.nd (wE zn <| yK T.q1 G1 O (za (kv 0) (za (zX yv uB (by rfl) T.b_len bg (zi (kb 3) zk)) zd))))
   (zb (wS zo <| zz (i:=5) zK.nd (wE zn <| yK T.q1 G1 O (za (kv 0) (za zj zd))))
   (zb (wS zB <| yE (wT zl <| zF uA zfq (kb 5) (JE.bo zj) (zx _)) (zh (wS yu <| xt (i:=3) zK.nd (uI zf9 zkT (JE.bo (wE za9 <| zhL (kb 3) uJ (wO xx <| uK (kb 4)))) (JE.bo (wE za9 <| zhL (kb 3) (wO xx <| uK (JE.bo (uI yA zbg (kb 4) (JE.bo zj)))) uJ))))) zA)
   (zb (wS zB <| yE (wT zl <| zF uA zfq (kb 5) (JE.bo zj) (zx _)) (zh (wS zjO <| znj 3 (kb 4) (wE zn <| yK T.q16 G16 O (za (uD yf u6 (kb 2) (JE.bo (uI yA zbg (kb 4) (JE.bo zj))) (λ_ _=>rfl)) (za (uD yf u6 (kb 2) (kb 4) (λ_ _=>rfl)) zd))))) zA)
   (zb (wS zB <| yE (wT zl <| zF uA zfq (kb 5) (JE.bo zj) (zx _)) (zh (wS zjL <| zni 3 (kv 4) (wE zn <| yK T.q14 G14 O (za (kv 0) (za (kv 1) (za zj zd)))))) zA)
   (zh (zM (yp zY ut (by rfl) T.b_tuple bv (zi (kb 3) zk)))))))))))),λws n R hF=>?_⟩
 obtain⟨p,rm,rfl,hP,hn,hR,hp,r⟩:=hF;left;show zdo.i hR hp λsts hN B I=>?_;left;show dr hP λc c0 c1=>?_;have h2:=zkd hR.ne λn hn=>(hR.box n hn).1;left;refine' zrH (λsts:AF=>sts.Nodup/\(∀st∈sts,StOk rm st)/\(sts.length:Int)=zI rm) _ (λzy=>?_) ?_;rotate_left;show xm (λ_=>?_) (λ_=>?_);left;rw[<- List.map_reverse];have q:sts.reverse.Nodup/\(∀st∈sts.reverse,StOk rm st)/\(sts.reverse.length:Int)=zI rm:=⟨(dw sts).nodup_iff.mpr hN,λst an=>B st (cB.mp an),by rw[List.length_reverse];exact I⟩;generalize sts.reverse=s2 at q ⊢;exact zy s2 q;left;exact zy sts ⟨hN,B,I⟩;rintro sts ⟨hN,B,I⟩;left;have as:sts.length<=256:=by lia
 have a2:2<=sts.length:=by lia
 rw[af];show⟨⟨by lia,by lia⟩,?_⟩;have e1:((sts.length:Int) - 1).toNat=sts.length - 1:=by lia
 rw[e1,xA];show zgE (List.range (sts.length - 1)) (λk:Nat=>W.d (.int (k:Int))) rfl (by rw[aE];exact aA (by lia:_<=256) (by ext)) (λi U n' acc=>n'=n+1/\i<=sts.length - 1/\∃ (v:Option W) (bk:AW),U=[v,some (.d (xN sts))]/\acc=bk.map xM/\xO rm bk/\bk.length=i) ⟨rfl,aM _,none,[],rfl,rfl,by intro x Y;simp at Y,rfl⟩ ?_ ?_;rintro i k U n' acc hk ⟨rfl,hi,v,bk,rfl,rfl,Z,aa⟩ C hC;obtain⟨ab,ac⟩:=aj.mp hk;rw[aE] at ab;rw[cx] at ac;subst ac;left;show zbd (zbU (by lia)) ?_;left;rw[show ((i:Int)+1)=((i+1:Nat):Int) from rfl];show zbd (zbU (by lia)) ?_;left;show zev.i hR (B _ (yQ (by lia))) (B _ (yQ (by lia))) (zc9 hN (by lia)) λx Y _=>?_;exact hC ⟨rfl,ab,_,bk++[x],rfl,by rw[aH];rfl,Z.app (λy hy=>by rw[aq.mp hy];exact Y),by rw[ao,aa];rfl⟩;rintro U n' acc ⟨rfl,hi,v,bk,rfl,rfl,Z,aa⟩;rw[aE] at aa;left;rw[af];show dr hP λad a0 a1=>?_;left;show dr hP λJ w0 w1=>?_;have ag:J=0\/J=1\/J=2\/J=3:=by lia
 obtain⟨j,rfl⟩:∃j:Nat,ad=(j:Int):=⟨ad.toNat,by lia⟩;left;rcases ag with rfl | rfl | rfl | rfl;walk_at "ct";rw[xG,xG];have c1:=uf bk none (some (j:Int));have c2:=uf bk (some ((j:Int)+1)) none;show⟨by rw[af,af];exact aA (by lia:_<=1000) (by ext),?_⟩;rw[<- aH];left;walk_at "cf";walk_at "cf";exact r _ _ ((Z.cut _ _).app (Z.cut _ _)) (by rw[ao];lia) (by lia);walk_at "cf";walk_at "ct";rw[show ((j:Int)+1)=((j+1:Nat):Int) from rfl];show zbd (zbU (by lia)) ?_;left;show zbd (zbU (by lia)) ?_;left;show zev.i hR (B _ (yQ (by lia))) (B _ (yQ (by lia))) (Ne.symm (zc9 hN (by lia))) λx Y _=>?_;left;show⟨⟨by lia,by rw[af];lia⟩,?_⟩;rw[aR,<- List.map_set];left;walk_at "cf";exact r _ _ (Z.set Y j) (by rw[bN];lia) (by lia);walk_at "cf";walk_at "cf";walk_at "ct";show zcT.i hP hR λx m Y hm=>?_;left;show⟨⟨by lia,by rw[af];lia,by rw[af];exact aZ (by lia:_<=1000) (by ext)⟩,?_⟩;rw[aR,zor];left;exact r _ _ (Z.ins Y j) (by rw[zoq];lia) (by lia);walk_at "cf";walk_at "cf";walk_at "cf";exact r _ _ Z (by lia) (by lia)
def zfe{rm B:AG}(I:∀q∈B,0<=q/\q<rm.length)(J:B.length<=100)(h:Q (.d (lsD (B.map (zP rm)))) m):zdw (eN 0) ztO (znl zqX (zk6 1) (zk6 0)) [none,some (.d (stD rm))] Q ((B.map Dt.int).map W.d) m:=by
 show zbW B (λq=>W.d (.int q)) (by rw[aF];rfl) (λρ=>∃v,ρ=[v,some (.d (stD rm))]) (λq=>.int (zP rm q)) (aA J (by ext)) ⟨_,rfl⟩ ?_ ?_;rintro q O U ⟨v,rfl⟩ C Y;have F:=I q O;left;show onA F.1 F.2 ?_;exact Y ⟨_,rfl⟩;have:B.map (λq=>Dt.int (zP rm q))=(B.map (zP rm)).map Dt.int:=by rw[aF];rfl
 rw[this];exact h
def zcg (T:Txt K mg t):FnOk P w K mg base CX0 3 t.f19 t.d19 lc (spV 2 false (zcR K)):=by
 have G1:=zJ (P:=P) (w:=w) (base:=base) T;have G9:=zaH (P:=P) (w:=w) (base:=base) T;have G10:=zbl (P:=P) (w:=w) (base:=base) T;have G15:=zch (P:=P) (w:=w) (base:=base) T
 show Fun.okW (k:=2) (fr:=false) [3] 8 T.q19.F zC rfl (by ext) rfl λcp A bc s H E Pn hr=>⟨_,(zb (wS zo <| zz (i:=2) zC.nd (wE zn <| yK T.q15 G15 hr (za (kv 0) (za (wE zcd <| zeS T.b_list T.b_range (zi (JE.bo (zX yv uB (by rfl) T.b_len bg (zi (kb 1) zk))) zk)) zd))))
   (zb (wS yu <| xt (i:=3) zC.nd (ui zd))
   (zb (xV bh rfl (wI yM <| yc rfl T.b_range (zi (JE.bo (zX yv uB (by rfl) T.b_len bg (zi (kb 2) zk))) zk)) (wG ye <| zt (i:=4) zC.nd) (zb (wS zo <| zz (i:=5) zC.nd (uD yf u6 (kb 2) (kb 4) (λ_ _=>rfl)))
   (zb (wS zo <| zz (i:=6) zC.nd (zX zlm zqp (by rfl) T.b_sorted cy (zi (JE.bo (wE za9 <| zhL (JE.bo (wE zn <| yK T.q15 G15 hr (za (kv 0) (za (wE za9 <| zhL (kb 2) uJ (wO xx <| uK (kb 4))) zd)))) uJ (wO xx <| uK (JE.bo (wE zn <| yK T.q1 G1 hr (za (kv 0) (za zj zd))))))) zk)))
   (zb (wS zB <| yE (wT zl <| zF zj2 zvD (JE.bo (wE zn <| yK T.q9 G9 hr (za (xU (N:=lB) (cix:=[none,some 1]) rfl (by walk_at "c") (wI xJ <| xI K rfl (kv 6)) (λ_ _ _ _=>(wG ye <| zt (i:=0) (show (lB:AM).Nodup by decide +kernel))) (λ_ _ _ _=>xb) (λ_ _ _ _=>(uD yt ur (kb 1) (kb 0) (λ_ _=>rfl)))) zd))) (JE.bo zj) (zx _)) (zh (wS zo <| zz (i:=6) zC.nd (wE za9 <| zhL (kb 6) uJ (wO xx <| uK (JE.bo zj))))) zA)
   (zh (xV bh rfl (wI xJ <| xI K rfl (wE zn <| yK T.q10 G10 hr (za (xU (N:=lB) (cix:=[none,some 1]) rfl (by walk_at "c") (wI xJ <| xI K rfl (kv 6)) (λ_ _ _ _=>(wG ye <| zt (i:=0) (show (lB:AM).Nodup by decide +kernel))) (λ_ _ _ _=>xb) (λ_ _ _ _=>(uD yt ur (kb 1) (kb 0) (λ_ _=>rfl)))) zd))) (wG ye <| zt (i:=7) zC.nd) (zb (wS zo <| zz (i:=8) zC.nd (wE zn <| yK T.q15 G15 hr (za (kv 0) (za (wE zcd <| zeS T.b_list T.b_range (zi (JE.bo (uD yt ur (kb 1) (kb 5) (λ_ _=>rfl))) zk)) zd))))
   (zb (wS zo <| zz (i:=9) zC.nd (yp zY ut (by rfl) T.b_tuple bv (zi (JE.bo (xU (N:=lP) (cix:=[none,none]) rfl (by walk_at "c") (wI zlV <| zoC rfl T.b_zip (za (kv 6) (za (kv 7) zd))) (λ_ _ _ _=>(wG zi7 <| zjr (n:=2) K rfl rfl (wH zbk <| xq (wG ye <| zt (i:=0) (show (lP:AM).Nodup by decide +kernel)) (wH zbk <| xq (wG ye <| zt (i:=1) (show (lP:AM).Nodup by decide +kernel)) (wH zi6 zfX))))) (λ_ _ _ _=>xb) (λ_ _ _ _=>(yD (za (kv 0) (za (kv 1) zd)))))) zk)))
   (zh (wS zjJ <| znh 3 (xU (N:=lE) (cix:=[none,some 9,some 5,some 8]) rfl (by walk_at "c") (wI yM <| yc rfl T.b_range (zi (JE.bo (uI zj4 zqr (JE.bo (uD yt ur (kb 1) (kb 5) (λ_ _=>rfl))) (JE.bo zj))) zk)) (λ_ _ _ _=>(wG ye <| zt (i:=0) (show (lE:AM).Nodup by decide +kernel))) (λ_ _ _ _=>xb) (λ_ _ _ _=>(yD (za (kv 1) (za (kv 2) (za (uD yf u6 (kb 3) (JE.bo (uI yA zbg (kb 0) (JE.bo zj))) (λ_ _=>rfl)) (za (uD yf u6 (kb 3) (kb 0) (λ_ _=>rfl)) zd)))))))))))))))))
   (zh (zM (yp zY ut (by rfl) T.b_tuple bv (zi (kb 3) zk))))))),λws n R hF=>?_⟩
 obtain⟨p,rm,rfl,hP,hn,hR,hp,r⟩:=hF;left;have h8:=hR.few;rw[af];show⟨⟨by lia,by lia⟩,?_⟩;rw[aR,zfd];show u7.i hP (by rw[af,yS];lia) (λl bd=>?_) (by rw[af,yS];lia);obtain⟨bs,rfl,ag⟩:=zcm bd;have be:=ag.length_eq;rw[af,yS];rw[yS] at be;left;rw[af];show⟨⟨by lia,by lia⟩,?_⟩;rw[aR];show zeN (λk ρ m=>m<=n+8+50 * k/\∃ (bk:AW) (v4 v5 v6 v7 v8 v9:Option W),ρ=[some (.pen p),some (.d (stD rm)),some (.d (.lst (bs.map Dt.int))),some (.d (.lst (bk.map xM))),v4,v5,v6,v7,v8,v9]/\xO rm bk/\bk.length<=27 * k) ⟨by lia,[],_,_,_,_,_,_,rfl,by intro x hx;simp at hx,aM _⟩ ?_ ?_
 ·rintro k ρ m hk ⟨hm,bk,v4,v5,v6,v7,v8,v9,rfl,hB,ap⟩ C B E hC _ _;left;show onA (by lia) (by lia) ?_;left;rw[zN,xG,L3.u8];show u7.i hP (by rw[af,bm];lia) (λl2 bl=>?_) (by rw[af,bm];lia);obtain⟨ps,rfl,as⟩:=zcm bl;have bx:=as.length_eq;rw[bm] at bx;rw[af,bm];left;show dr hP λt t0 t1=>?_;left;rw[xG];have a0:=uf ps none (some t);show⟨_,rfl,by lia,λqs a1 b0=>?_⟩;have J:=zr4 ag (by lia) as a1 b0;have cu:=a1.length_eq;have b1:bs.getD k 0∈bs:=by rw[bq,ax hk];exact bP _
  obtain⟨aa,ab⟩:=zb1 (ag.mem_iff.mp b1);have a2:=x6 hR.box aa ab;generalize bs.getD k 0=U at J aa ab a2;generalize cv:m+min k bs.length+1=m1;have co:m1<=m+9:=by lia
  have ac:∀O,ParOk rm U O->∀x∈O.map (zP rm),2<=x/\x<=4:=λO h1 x hx=>by obtain⟨q,hq,rfl⟩:=aD.mp hx;have:=h1.ok q hq;exact x6 hR.box this.1 this.2.1
  left;show zfe (λq hq=>⟨(J.ok q hq).1,(J.ok q hq).2.1⟩) (by lia) ?_;left;show zcU.i (.inr rfl) (ac _ J) ?_;left;refine' zrH (λO:AG=>ParOk rm U O/\O.length<=8/\zI (O.map (zP rm))<=9) _ (λzy=>?_) ?_;rotate_left;show xm (λh9=>?_) (λh9=>?_);left;rw[xG];have I:=J.cut none (some 1);have ad:(uw qs none (some 1)).length<=1:=by rw[show (1:Int)=((1:Nat):Int) from rfl,L3.u8,bm];lia
  generalize uw qs none (some 1)=O at I ad;show zy O ⟨I,by lia,?_⟩
  match O,ad,I with
  | [],_,_=>change (1:Int)<=9;decide
  | [q],_,hq=>
   have:=hq.ok q (by simp);have:=x6 hR.box this.1 this.2.1;change 1 * zP rm q<=9;lia
  left;exact zy qs ⟨J,by lia,by lia⟩;rintro O ⟨I,c0,c1⟩;have a3:=ac O I;left;show zfe (λq hq=>⟨(I.ok q hq).1,(I.ok q hq).2.1⟩) (by lia) ?_;left;show zeu.i (.inr rfl) a3 (by rw[af];lia) ?_;left;have a0:=ud (O.map (zP rm)) λx hx=>by have:=a3 x hx;lia
  have a4:=zin (O.map (zP rm));generalize uF ((O.map (zP rm)).map zG)=cs at a0 a4;show yN cs (λst=>W.d (stD st)) (by rw[aF];rfl) (λi ρ m'=>m'<=m1+4 * i/\i<=cs.length/\∃ (Y:AW) (v7 v8 v9:Option W),ρ=[some (.pen p),some (.d (stD rm)),some (.d (.lst (bs.map Dt.int))),some (.d (.lst (Y.map xM))),some (.d (.int (k:Int))),some (.d (.int U)),some (.d (.lst (O.map Dt.int))),v7,v8,v9]/\xO rm Y/\Y.length<=27 * k+3 * i) ⟨by lia,aM _,bk,_,_,_,rfl,hB,by lia⟩ ?_ ?_;rintro i st ρ m' a5 ⟨b2,b3,Y,v7,v8,v9,rfl,al,a7⟩ C B E hC _ _;have hi:=(aj.mp a5).1;have ba:=a4 st (aJ a5);have b4:=ba.len;rw[af] at b4;obtain⟨hG,ca⟩:=zol I ba;obtain⟨w,hw⟩:∃w:Nat,zP rm U=(w:Int):=⟨(zP rm U).toNat,by lia⟩;have c2:2<=w/\w<=4:=by lia
  left;show onA aa ab ?_;left;rw[hw];show⟨⟨by lia,by lia⟩,?_⟩;rw[aR,zfd];show u7.i hP (by rw[af,yS];lia) (λl3 cc=>?_) (by rw[af,yS];lia);obtain⟨Z,rfl,an⟩:=zcm cc;have cd:=an.length_eq;rw[yS] at cd;rw[show (List.map Dt.int (zdC w)).length=w by rw[af,yS]];left;show⟨by rw[af,af];lia,?_⟩;rw[zhx];show zbW (O.zip st) (λq=>W.d (xK q)) rfl (λρ=>∃a b,ρ=[a,b]) xK (by rw[List.length_zip];exact aA (by lia:_<=8) (by ext)) ⟨_,_,rfl⟩ ?_ ?_;rintro q hq ch ⟨a,b,rfl⟩ C hC;exact hC ⟨_,_,rfl⟩;left;show onA aa ab ?_;left;rw[hw];show⟨⟨by lia,by lia⟩,?_⟩;have e3:((w:Int) - 1).toNat=w - 1:=by lia
  rw[e3,xA];have ck:Z.Nodup:=an.nodup_iff.mpr (zb2 _)
  have bb:∀j:Nat,j<w->0<=Z.getD j 0/\Z.getD j 0<zP rm U:=λj hj=>by
   have h1:Z.getD j 0∈Z:=by rw[bq,ax (by lia)];exact bP _
   have:=zb1 (an.mem_iff.mp h1);lia
  show zbW (List.range (w - 1)) (λj:Nat=>W.d (.int (j:Int))) rfl (λρ=>∃v,ρ=[v,some (.d (.tup ((O.zip st).map xK))),some (.d (.int U)),some (.d (.lst (Z.map Dt.int)))]) (λj=>xM ⟨O.zip st,U,Z.getD (j+1) 0,Z.getD j 0⟩) (by rw[aE];exact aA (by lia:_<=4) (by ext)) ⟨_,rfl⟩ ?_ ?_;rintro j hj ch ⟨v,rfl⟩ C hC;have cl:=aQ.mp hj;left;rw[show ((j:Int)+1)=((j+1:Nat):Int) from rfl];show onA (by lia) (by lia) ?_;left;show onA (by lia) (by lia) ?_;rw[zN,zN];exact hC ⟨_,rfl⟩;left;show⟨by rw[af,af,aE];exact aA (by lia:_<=1000) (by ext),hC ⟨by lia,hi,Y++(List.range (w - 1)).map (λj=>⟨O.zip st,U,Z.getD (j+1) 0,Z.getD j 0⟩),_,_,_,by rw[aH,aF];rfl,al.app λx hx=>?_,by rw[ao,af,aE];lia⟩⟩;obtain⟨j,hj,rfl⟩:=aD.mp hx;have cl:=aQ.mp hj;have h1:=bb j (by lia);have h2:=bb (j+1) (by lia);have cn:Z.getD (j+1) 0≠Z.getD j 0:=by have:=bE.mp ck j (j+1) (by lia) (by lia) (by lia);intro z;apply this;simpa [show j<Z.length by lia,show j+1<Z.length by lia] using z.symm
  exact⟨hG,aa,ab,ca,h2.1,h2.2,h1.1,h1.2,cn⟩;rintro ρ m' ⟨b2,b3,Y,v7,v8,v9,rfl,al,a7⟩;exact hC ⟨by lia,Y,_,_,_,_,_,_,rfl,al,by lia⟩
 rintro ρ m ⟨hm,bk,v4,v5,v6,v7,v8,v9,rfl,hB,ap⟩;left;exact r bk m hB (by lia) (by lia)
def zgr (K:AH):FV:=λPn q n R=>∃ (p:Addr) (rm:AG),q=[.pen p,.d (stD rm)]/\(uc K Pn p)/\(n+7000<=1000000)/\(RoomOk rm)/\(zI rm<=256)/\(∀bk m,xO rm bk->bk.length<=1100->m<=n+5000->R (.d (yP bk)) m)
def zgr.i{rm:AG}(q:uc K Pn p)(B:RoomOk rm)(F:zI rm<=256)(h:∀bk m,xO rm bk->bk.length<=1100->m<=n+5000->R (.d (yP bk)) m)(hn:n+7000<=1000000:=by lia):zgr K Pn [.pen p,.d (stD rm)] n R:=⟨p,rm,rfl,q,hn,B,F,h⟩
def zdT (T:Txt K mg t):FnOk P w K mg base CX0 5 t.f20 t.d20 lc (spV 2 false (zgr K)):=by
 have G1:=zJ (P:=P) (w:=w) (base:=base) T;have G14:=zaI (P:=P) (w:=w) (base:=base) T;have G18:=zbb (P:=P) (w:=w) (base:=base) T;have G19:=zcg (P:=P) (w:=w) (base:=base) T
 show Fun.okW (k:=4) (fr:=false) [3] 2 T.q20.F xB rfl (by ext) rfl λac A aa s H E Pn B=>⟨_,(zb (wS zo <| zz (i:=2) xB.nd (wE zn <| yK T.q1 G1 B (za (kv 0) (za zj zd))))
   (zb (wS zB <| yE (wT zl <| zF uA zfq (kb 2) (JE.bo zj) (zx _)) (zh (zM (yD zd))) zA)
   (zb (wS zB <| yE (wT zl <| zF uA zfq (kb 2) (JE.bo zj) (zx _)) (zh (zM (wE zn <| yK T.q18 G18 B (za (kv 0) (za (kv 1) zd))))) zA)
   (zb (wS zB <| yE (wT zl <| zF zj2 zvD (kb 2) (JE.bo zj) (zx _)) (zb (wS yu <| xt (i:=3) xB.nd (yp zfD ztk (by rfl) T.b_list cN (zi (JE.bo (wE zn <| yK T.q19 G19 B (za (kv 0) (za (kv 1) zd)))) zk)))
   (zb (wS zB <| yE (JW.t (wW uj <| zaA (wT zl <| zF uA zfq (kb 2) (JE.bo zj) (zx _)) (zah (.inl rfl) (wT zl <| zF zj2 zvD (JE.bo (zX yv uB (by rfl) T.b_len bg (zi (kb 3) zk))) (JE.bo zj) (zx _))))) (zh (wS zjO <| znj 3 (JE.bo (wE zn <| yK T.q1 G1 B (za (kv 0) (za (zX yv uB (by rfl) T.b_len bg (zi (kb 3) zk)) zd)))) (wE zn <| yK T.q14 G14 B (za (kv 0) (za (kv 1) (za zj zd)))))) zA)
   (zh (zM (yp zY ut (by rfl) T.b_tuple bv (zi (kb 3) zk)))))) zA)
   (zb (wS yu <| zjs (i:=3) (zdG (ix:=3) xB.nd rfl rfl (N:=lC) (cix:=[none,some 0,some 1,some 2]) rfl (by walk_at "c") (wI yM <| yc rfl T.b_range (zi (JE.bo (uI yA zbg (JE.bo zj) (JE.bo (wE zn <| yK T.q1 G1 B (za (kv 0) (za zj zd)))))) zk)) (λ_ _ _ _=>(wG ye <| zt (i:=0) (show (lC:AM).Nodup by decide +kernel))) (λ_ _ _ _=>xb) (λ_ _ _ _=>(wE zn <| yK T.q14 G14 B (za (kv 1) (za (kv 2) (za (kv 3) zd)))))))
   (zh (zM (yp zY ut (by rfl) T.b_tuple bv (zi (JE.bo (uI zf9 zkT (kb 3) (JE.bo (wE za9 <| zhL (kb 3) uJ (wO xx <| uK (JE.bo (wE zn <| yK T.q1 G1 B (za (kv 0) (za zj zd))))))))) zk))))))))),λws n R hF=>?_⟩
 obtain⟨p,rm,rfl,I,hn,hR,hp,r⟩:=hF;left;show dr I λab w0 w1=>?_;left;show xm (λh6=>?_) (λh6=>?_);left;exact r [] _ (by intro x J;simp at J) (by ext) (by lia);left;show xm (λh5=>?_) (λh5=>?_);left;exact zcR.i I hR hp λbk m q hl hm=>r bk m q (by lia) (by lia);left;show xm (λh2=>?_) (λh2=>?_);left;show zcR.i I hR hp λbk m q hl hm=>?_;left;show xm (λh4=>?_) (λh4=>?_);left;rw[af];show xm (λhz=>?_) (λhz=>?_);left;show zcT.i I hR λx m2 J ad=>?_;left;rw[af];show dr I λa a0 a1=>?_;left;show⟨⟨a0,a1⟩,?_⟩;rw[<- List.map_set];left;exact r _ _ (q.set J _) (by rw[bN];lia) (by lia);left;exact r bk m q (by lia) (by lia);left;exact r bk m q (by lia) (by lia);left;show dr I λt t0 t1=>?_;left;show⟨⟨by lia,by lia⟩,?_⟩;rw[xA];show zgE (List.range (1+t).toNat) (λk:Nat=>W.d (.int (k:Int))) rfl (by rw[aE];exact aA (by lia:_<=14) (by ext)) (λi O n' acc=>n'<=n+2+30 * i/\i<=(1+t).toNat/\∃ (v:Option W) (bk:AW),O=[v,some (.pen p),some (.d (stD rm)),some (.d (.int ab))]/\acc=bk.map xM/\xO rm bk/\bk.length=i) ⟨by lia,aM _,none,[],rfl,rfl,by intro x J;simp at J,rfl⟩ ?_ ?_;rintro i k O n' acc hk ⟨Y,hi,v,bk,rfl,rfl,q,U⟩ C hC;have Z:=(aj.mp hk).1;rw[aE] at Z;left;show zcT.i I hR λx m J hm=>?_;exact hC ⟨by lia,Z,_,bk++[x],rfl,by rw[aH];rfl,q.app (λy hy=>by rw[aq.mp hy];exact J),by rw[ao,U];rfl⟩;rintro O n' acc ⟨Y,hi,v,bk,rfl,rfl,q,U⟩;rw[aE] at U Y;left;show dr I λb b0 b1=>?_;left;rw[xG];have hc:=uf bk none (some b);show⟨by rw[af,af];exact aA (by lia:_<=100) (by ext),?_⟩;rw[<- aH];left;exact r _ _ (q.app (q.cut _ _)) (by rw[ao];lia) (by lia)
def zmT{st:AG}{g:List (Int×Int)}(I:∀q∈g,0<=q.1/\q.1<st.length)(J:g.length<=100)(h:∀L:AG,((Dt.lst (L.map Dt.int) = .lst [])↔xu st g=true)->Q (.d (.lst (L.map Dt.int))) n):zdw (eTp 2 (eCn (eN 0) (eCn (eN 1) eNl))) (ztE (znl dNe (znl zqX (zk6 2) (zk6 0)) (zk6 1))) (zk6 0) [none,none,some (.d (stD st))] Q ((g.map xK).map W.d) n:=by
 show zdu g (λq=>.d (xK q)) (by rw[aF];rfl) (λρ=>∃a b,ρ=[a,b,some (.d (stD st))]) (λq=>!decide (zP st q.1=q.2)) (λq=>.int q.1) (aA J (by ext)) ⟨_,_,rfl⟩ ?_ ?_;rintro q B O ⟨a,b,rfl⟩ C U Y;have F:=I q B;left;show onA F.1 F.2 ?_;left;show zl8 (λh=>?_) (λh=>?_);exact U (by rw[a8 h];rfl) ⟨_,_,rfl⟩;exact Y (by rw[bi h];rfl) ⟨_,_,rfl⟩;have Z:(g.filter λq=>!decide (zP st q.1=q.2)).map (λq=>Dt.int q.1)=((g.filter λq=>!decide (zP st q.1=q.2)).map (·.1)).map Dt.int:=by rw[aF];rfl
 rw[Z];show h _ ?_;rw[xu,cz];constructor;intro z q B;apply bX;intro hn;have:q∈g.filter (λq=>!decide (zP st q.1=q.2)):=b7.mpr ⟨B,by simpa using hn⟩;have z':=dM.mp (dM.mp (Dt.lst.inj z));rw[z'] at this;simp at this;intro z;have:g.filter (λq=>!decide (zP st q.1=q.2))=[]:=List.filter_eq_nil_iff.mpr λq B=>by simpa using z q B
 rw[this];rfl
def zd4{kvs:List (AG×Dt)}{k:AG}{x:AG}:x∈(zhk kvs k d).map (·.1)↔x=k\/x∈kvs.map (·.1):=by
 unfold zhk;by_cases h:(kvs.any λkv=>decide (kv.1=k))=true
 ·rw[if_pos h];have e:(kvs.map λkv=>if kv.1=k then (kv.1,d) else kv).map (·.1)=kvs.map (·.1):=by rw[aF];exact bL λkv _=>by by_cases z:kv.1=k <;> simp[z]
  rw[e];show⟨.inr,λz=>z.elim (λz=>?_) id⟩;obtain⟨q,B,F⟩:=ge.mp h;rw[z,<- bG F];exact aD.mpr ⟨q,B,rfl⟩
 rw[if_neg h,aH,au];exact⟨λz=>z.elim .inr λz=>.inl (by simpa using z),λz=>z.elim (λz=>.inr (by simp[z])) .inl⟩
def zbR  : FV:=λPn q n R=>∃ (rm:AG) (bk:AW) (st hs:AG),q=[.d (yP bk),.d (stD st),.d (stD hs)]/\(RoomOk rm)/\(xO rm bk)/\(bk.length<=10000)/\(st.length=rm.length)/\(R (.d (xN (yy bk st hs))) n)
def zbR.i{rm:AG}{st hs:AG}(F:RoomOk rm)(I:xO rm bk)(q:bk.length<=10000)(B:st.length=rm.length)(h:R (.d (xN (yy bk st hs))) n)  : zbR Pn [.d (yP bk),.d (stD st),.d (stD hs)] n R:=⟨rm,bk,st,hs,rfl,F,I,q,B,h⟩
def zaj (T:Txt K mg t):FnOk P w K mg base CX0 1 t.f21 t.d21 lj (spV 3 true zbR):=by
 show Fun.okW (k:=0) (fr:=true) [3] 5 T.q21.F yr rfl (by ext) rfl λan A ac s H E Pn hr=>⟨_,(zb (wS yu <| xt (i:=3) yr.nd zjp)
   (zb (xV bh rfl (wI zcc <| zeT K rfl (kv 0)) (wG zi7 <| zjr (n:=4) K rfl rfl (wH zbk <| xq (wG ye <| zt (i:=4) yr.nd) (wH zbk <| xq (wG ye <| zt (i:=5) yr.nd) (wH zbk <| xq (wG ye <| zt (i:=6) yr.nd) (wH zbk <| xq (wG ye <| zt (i:=7) yr.nd) (wH zi6 zfX)))))) (zh (wS zB <| yE (JW.t (wW uj <| zaA (wT zl <| zF uT zmS (kb 5) (kb 2) (by with_unfolding_all rfl)) (zah (.inl rfl) (wT zl <| zF uA zfq (JE.bo (uD yt ur (kb 1) (kb 5) (λ_ _=>rfl))) (kb 7) (zx _))))) (zh (wS zB <| yE (wT zl <| zF (zhc hr.units) zmQ (JE.bo (xU (N:=lw) (cix:=[none,none,some 1]) rfl (by walk_at "c") (wI zcc <| zeT K rfl (kv 4)) (λ_ _ _ _=>(wG zi7 <| zjr (n:=2) K rfl rfl (wH zbk <| xq (wG ye <| zt (i:=0) (show (lw:AM).Nodup by decide +kernel)) (wH zbk <| xq (wG ye <| zt (i:=1) (show (lw:AM).Nodup by decide +kernel)) (wH zi6 zfX))))) (λ_ _ _ _=>(zb6 (wT zl <| zF zga zqG (JE.bo (uD yt ur (kb 2) (kb 0) (λ_ _=>rfl))) (kb 1) (zx _)))) (λ_ _ _ _=>(kv 0)))) (JE.bo (ui zd)) (zx _)) (zh (wS zaF <| zbJ 3 (za6 hr) (JE.bo (uI xh zaW (JE.bo (uI xh zaW (JE.bo (wE zjP <| zrs (kb 1) uJ (wO xx <| uK (kb 5)))) (JE.bo (yD (za (kv 6) zd))))) (JE.bo (wE zjP <| zrs (kb 1) (wO xx <| uK (JE.bo (uI yA zbg (kb 5) (JE.bo zj)))) uJ)))) zjn)) zA)) zA)))
   (zh (zM (zX ziB zkV (by rfl) T.b_sorted cy (zi (JE.bo (yp (zgG rfl) zkU (by rfl) T.b_list cN (zi (kb 3) zk))) zk)))))),λws n R hF=>?_⟩
 obtain⟨rm,bk,st,hs,rfl,hR,hB,ap,aa,r⟩:=hF;left;have h8:=hR.few;show yN bk (λx=>W.d (xM x)) (by rw[aF];rfl) (λi ρ m=>m=n/\∃ (kvs:List (AG×Dt)) (Y Z v6 v7:Option W),ρ=[some (.d (yP bk)),some (.d (stD st)),some (.d (stD hs)),some (.dt kvs),Y,Z,v6,v7]/\(∀z,z∈kvs.map (·.1)↔z∈xS (bk.take i) st hs)/\kvs.length<=i) ⟨rfl,[],_,_,_,_,rfl,by simp[xS],aM _⟩ ?_ ?_;rintro i x ρ m hx ⟨rfl,kvs,Y,Z,v6,v7,rfl,I,ad⟩ C B E hC _ _;have hW:=hB x (aJ hx);have hi:=(aj.mp hx).1;have ab:=hW.b0;have as:=hW.b1
 have U:(zad st x&&!hs.contains x.b)=false->∀Y Z v6 v7,C [some (.d (yP bk)),some (.d (stD st)),some (.d (stD hs)),some (.dt kvs),Y,Z,v6,v7] m:=λhg Y Z v6 v7=>by
  have e:xS (bk.take (i+1)) st hs=xS (bk.take i) st hs:=by rw[zm hx,zc2,hg];simp
  exact hC ⟨rfl,kvs,_,_,_,_,rfl,by rw[e];exact I,by lia⟩
 have ag:∀q∈x.g,0<=q.1/\q.1<st.length:=λq hq=>by have:=hW.giv.ok q hq;rw[aa];exact⟨this.1,this.2.1⟩
 left;show⟨hs,rfl,?_⟩;left;show ze4 (λhh=>?_) (λhh=>⟨U (by rw[hh];simp) _ _ _ _⟩);left;show onA ab (by lia) ?_;left;show xm (λhw=>?_) (λhw=>⟨U ?_ _ _ _ _⟩);left;show zmT ag (zok hW.giv h8) λL hL=>?_;left;show⟨zc1,zc1 (ns:=[]),λb hb=>?_⟩;left;show zl7 (λJ=>?_) (λJ=>⟨U ?_ _ _ _ _⟩);have J:=hL.mp (hb.mp J);left;have hg:(zad st x&&!hs.contains x.b)=true:=by unfold zad;rw[bi hw,J,hh];rfl
 have e:xS (bk.take (i+1)) st hs=xS (bk.take i) st hs++[chg st x.b x.r]:=by rw[zm hx,zc2,if_pos hg]
 show⟨zlh (by lia),?_⟩;left;show⟨zli (by lia),?_⟩;rw[znY ab (by lia)];show⟨_,rfl,aZ (by lia:_<=10000) (by ext),hC ⟨rfl,_,_,_,_,_,rfl,λz=>?_,?_⟩⟩;rw[e,zd4,I,au,aq];exact Or.comm;have:=zkg kvs (chg st x.b x.r) (.bl true);lia
 have J:xu st x.g=false:=by
  cases hz:xu st x.g with
  | false=>rfl
  | true=>rw[hb.mpr (hL.mpr hz)] at J;cases J
 unfold zad;rw[J];simp;unfold zad;rw[a8 hw];simp;rintro ρ m ⟨rfl,kvs,Y,Z,v6,v7,rfl,I,ad⟩;rw[bB] at I;left;intro nd;left;have O:∀y∈xS bk st hs,y.length=rm.length:=λz hz=>zbZ hB aa z hz;show⟨kvs.map (·.1),rm.length,rfl,hR.pos,λz hz=>O z ((I z).mp hz),nd,λal hp hu=>?_⟩;rw[zbP O hu λz=>(hp.mem_iff).trans (I z)];exact r
structure Kw (g:AG->AF)(rm one:AG)(keys wt:AF)(Z:AG->Prop):Prop where
 nd:keys.Nodup
 ok:∀s∈keys,StOk rm s
 rc:∀s∈keys,Rch g one s
 on:one∈keys
 wq:∀s∈wt,s∈keys
 cl:∀s∈keys,s∈wt\/Z s\/∀u∈g s,u∈keys
def Kw.snoc {g:AG->AF}{rm one u h:AG}{q B:AF}{Z:AG->Prop}(k:Kw g rm one q B Z)(F:h∈q)(I:u∈g h)(hn:u∉q)(J:StOk rm u):Kw g rm one (q++[u]) (B++[u]) Z:=by
 show⟨?_,λs hs=>?_,λs hs=>?_,aT _ k.on,λs hs=>?_,λs hs=>?_⟩;rw[dy];show⟨k.nd,by simp,λa O b U e=>hn ?_⟩;rw[<- aq.mp U,<- e];exact O;rcases au.mp hs with z | z;exact k.ok s z;rw[aq.mp z];exact J;rcases au.mp hs with z | z;exact k.rc s z;rw[aq.mp z];exact (k.rc h F).step I;rcases au.mp hs with z | z;exact aT _ (k.wq s z);exact aI _ z;rcases au.mp hs with z | z;rcases k.cl s z with y | y | y;exact .inl (aT _ y);exact .inr (.inl y);exact .inr (.inr λv Y=>aT _ (y v Y));exact .inl (aI _ z)
def zgt  : FV:=λPn q n R=>∃ (rm:AG) (bk:AW) (one hs:AG),q=[.d (yP bk),.d (stD one),.d (stD hs)]/\(RoomOk rm)/\(xO rm bk)/\(bk.length<=10000)/\(zI rm<=256)/\(StOk rm one)/\(∀sts:AF,Up' sts->(∀s,s∈sts↔Rch (λs=>yy bk s hs) one s)->R (.d (xN sts)) n)
def zgt.i{rm:AG}{one hs:AG}(B:RoomOk rm)(F:xO rm bk)(q:bk.length<=10000)(I:zI rm<=256)(h1:StOk rm one)(h:∀sts:AF,Up' sts->(∀s,s∈sts↔Rch (λs=>yy bk s hs) one s)->R (.d (xN sts)) n)  : zgt Pn [.d (yP bk),.d (stD one),.d (stD hs)] n R:=⟨rm,bk,one,hs,rfl,B,F,q,I,h1,h⟩
def zbA (T:Txt K mg t):FnOk P w K mg base CX0 2 t.f22 t.d22 lr (spV 3 true zgt):=by
 have G21:=zaj (P:=P) (w:=w) (base:=base) T
 show Fun.okW (k:=1) (fr:=true) [3,4] 3 T.q22.F yJ rfl (by ext) rfl λbc A a0 s H E Pn hr=>⟨_,(zb (wS yu <| xt (i:=3) yJ.nd (zjo (za6 hr) (kv 1) zjn))
   (zb (wS yu <| xt (i:=4) yJ.nd (ui (za (kv 1) zd)))
   (zb (zdH bh (wT zl <| zF (zr1 hr.units) zvF (kb 4) (JE.bo (ui zd)) (zx _)) (zh (zoD 4 rfl bh rfl T.q21 G21 hr (kv 0) (kv 2) (wG ye <| zt (i:=5) yJ.nd) (zh (wS zB <| yE (zfZ (za6 hr) (kb 5) (kb 3)) (zb (wS zaF <| zbJ 3 (za6 hr) (kb 5) zjn)
   (zh (wS zdL <| zgZ 4 (kv 5)))) zA)))))
   (zh (zM (zX ziB zkV (by rfl) T.b_sorted cy (zi (JE.bo (yp (zgG rfl) zkU (by rfl) T.b_list cN (zi (kb 3) zk))) zk))))))),λws n R hF=>?_⟩
 obtain⟨rm,bk,one,hs,rfl,hR,hB,a1,hp,h1,r⟩:=hF;left;show⟨one,rfl,?_⟩;left;have a2:Kw (λs=>yy bk s hs) rm one [one] [one] λ_=>False:=⟨by simp,λs z=>by rw[aq.mp z];exact h1,λs z=>by rw[aq.mp z];exact Rch.self,aq.mpr rfl,λs z=>z,λs z=>.inl z⟩;show znQ (λk ρ n'=>n'=n/\∃ (kvs:List (AG×Dt)) (wt:AF) (v5:Option W),k=2 * (256 - kvs.length)+wt.length/\k<=600/\ρ=[some (.d (yP bk)),some (.d (stD one)),some (.d (stD hs)),some (.dt kvs),some (.d (xN wt)),v5]/\Kw (λs=>yy bk s hs) rm one (kvs.map λq:AG×Dt=>q.1) wt λ_=>False) _ ⟨rfl,[(one,.bl true)],[one],_,rfl,by change 2 * (256 - 1)+1<=600;lia,rfl,a2⟩ ?_;rintro k ρ n' ⟨rfl,kvs,wt,v5,rfl,bb,rfl,U⟩ C B X hC a3 hX;have a4:=zat hR hp U.nd U.ok;rw[af] at a4;left;show⟨zar wt,zar [],λb hb=>?_⟩;left;show ze4 (λhn=>?_) (λhn=>?_)
 obtain⟨Z,h,rfl⟩:∃Z h,wt=Z++[h]:=by
  rcases eA wt with z | ⟨a,b',z⟩;rw[hb.mpr (by rw[z];rfl)] at hn;cases hn;exact⟨a,b',by rw[z,List.concat_eq_append]⟩
 have hh:=U.wq h (aI _ (aq.mpr rfl));have ad:=U.ok h hh;left;show⟨Z.map stD,stD h,by rw[aH];rfl,?_⟩;left;show zbR.i hR hB a1 ad.len ?_;left
 have k0:Kw (λs=>yy bk s hs) rm one (kvs.map (·.1)) Z (· = h):=⟨U.nd,U.ok,U.rc,U.on,λs z=>U.wq s (aT _ z),λs z=>by
  rcases U.cl s z with y | y | y;rcases au.mp y with y | y;exact .inl y;exact .inr (.inl (aq.mp y));exact y.elim;exact .inr (.inr y)⟩
 show yN (yy bk h hs) (λs=>W.d (stD s)) (by rw[aF];rfl) (λj ρ m'=>m'=n'/\∃ (I:List (AG×Dt)) (O:AF) (v5:Option W),ρ=[some (.d (yP bk)),some (.d (stD one)),some (.d (stD hs)),some (.dt I),some (.d (xN O)),v5]/\Kw (λs=>yy bk s hs) rm one (I.map (·.1)) O (· = h)/\h∈I.map (·.1)/\2 * (256 - I.length)+O.length+1<=2 * (256 - kvs.length)+(Z++[h]).length/\∀u∈(yy bk h hs).take j,u∈I.map (·.1)) ⟨rfl,kvs,Z,_,rfl,k0,hh,by rw[ao,cr];lia,by simp⟩ ?_ ?_;rintro j u ρ m' hu ⟨rfl,I,O,v5,rfl,J,aa,ag,ab⟩ C' B' E' ac _ bd;have al:=aJ hu;have a5:=zdr hB ad al;have an:=zat hR hp J.nd J.ok;rw[af] at an
 have tk:∀ {Y:AF},(∀s∈I.map (·.1),s∈Y)->u∈Y->∀s∈(yy bk h hs).take (j+1),s∈Y:=λ{Y} y1 y2 s ap=>by
  rw[zm hu,au] at ap;rcases ap with z | z;exact y1 s (ab s z);rw[aq.mp z];exact y2
 left;show⟨u,rfl,?_⟩;rw[zf1];left;show ze4 (λhn=>?_) (λhn=>?_);have hn:u∉I.map (·.1):=of_decide_eq_false hn;have kw:=J.snoc aa al hn a5;have e3:(I++[(u,Dt.bl true)]).map (·.1)=I.map (·.1)++[u]:=by rw[aH];rfl
 rw[<- e3] at kw;have a7:=zat hR hp kw.nd kw.ok;rw[af,ao,cr] at a7;left;show⟨_,rfl,aZ (by lia:_<=10000) (by ext),?_⟩;rw[zkh hn];left;have be:=λs z=>J.wq s z;show⟨aZ (by rw[af];lia:_<=10000) (by ext),?_⟩;have e2:O.map stD++[stD u]=(O++[u]).map stD:=by rw[aH];rfl
 rw[e2];show ac ⟨rfl,_,_,_,rfl,kw,?_,?_,?_⟩;rw[e3];exact aT _ aa;rw[ao,ao,cr,cr];lia;rw[e3];exact tk (λs z=>aT _ z) (aI _ (aq.mpr rfl));have hn:u∈I.map (·.1):=bG hn;left;exact ac ⟨rfl,I,O,_,rfl,J,aa,ag,tk (λs z=>z) hn⟩;rintro ρ m' ⟨rfl,I,O,v5,rfl,J,aa,ag,ab⟩;rw[bB] at ab;show hC (2 * (256 - I.length)+O.length) (by lia) ⟨rfl,I,O,_,rfl,by lia,rfl,J.nd,J.ok,J.rc,J.on,J.wq,λs z=>?_⟩;rcases J.cl s z with y | y | y;exact .inl y;exact .inr (.inr (by rw[y];exact ab));exact .inr (.inr y)
 have hw:wt=[]:=by
  have:=hb.mp hn;exact dM.mp (Dt.lst.inj this)
 subst hw;show a3 ?_;left;intro nd;left;show⟨kvs.map (·.1),rm.length,rfl,hR.pos,λz hz=>(U.ok z hz).len,nd,λas ba hu=>r as hu λs=>(ba.mem_iff).trans ⟨U.rc s,λz=>z (·∈kvs.map (·.1)) U.on λa b ha hb=>?_⟩⟩;rcases U.cl a ha with y | y | y;cases y;exact y.elim;exact y b hb
def zgs (K:AH):FV:=λPn q n R=>∃ (p:Addr) (rm:AG),q=[.pen p,.d (stD rm)]/\(uc K Pn p)/\(n+30<=1000000)/\(RoomOk rm)/\(∀v hs m,(v = .d (stD hs)\/(hs=[]/\v = .d .non))->m<=n+9->R v m)
def zgs.i{rm:AG}(q:uc K Pn p)(B:RoomOk rm)(h:∀v hs m,(v = .d (stD hs)\/(hs=[]/\v = .d .non))->m<=n+9->R v m)(hn:n+30<=1000000:=by lia):zgs K Pn [.pen p,.d (stD rm)] n R:=⟨p,rm,rfl,q,hn,B,h⟩
def zdV (T:Txt K mg t):FnOk P w K mg base CX0 2 t.f23 t.d23 lc (spV 2 false (zgs K)):=by
 have G1:=zJ (P:=P) (w:=w) (base:=base) T
 show Fun.okW (k:=1) (fr:=false) [] 1 T.q23.F zbt rfl (by ext) rfl λaa A U s H E Pn hr=>⟨_,(zb (wS zo <| zz (i:=2) zbt.nd (wE zn <| yK T.q1 G1 hr (za (kv 0) (za zj zd))))
   (zb (wS zB <| yE (wT zl <| zF uA zfq (kb 2) (JE.bo zj) (zx _)) (zh (zM zoA)) zA)
   (zh (zM (yp zY ut (by rfl) T.b_tuple bv (zi (JE.bo (xU (N:=lI) (cix:=[none,some 2,some 0]) rfl (by walk_at "c") (wI yM <| yc rfl T.b_range (zi (JE.bo (zX yv uB (by rfl) T.b_len bg (zi (kb 1) zk))) zk)) (λ_ _ _ _=>(wG ye <| zt (i:=0) (show (lI:AM).Nodup by decide +kernel))) (λ_ _ _ _=>(zb6 (JW.t (wW uj <| zaA (wT zl <| zF uA zfq (kb 1) (JE.bo zj) (zx _)) (zah (.inl rfl) (wT zl <| zF uA zfq (JE.bo (wE zn <| yK T.q1 G1 hr (za (kv 2) (za zj zd)))) (JE.bo zj) (zx _))))))) (λ_ _ _ _=>(kv 0)))) zk)))))),λws n R hF=>?_⟩
 obtain⟨p,rm,rfl,hP,hn,hR,r⟩:=hF;left;show dr hP λY w0 w1=>?_;have h8:=hR.few;left;show xm (λ_=>?_) (λ_=>?_);left;exact r _ [] _ (.inr ⟨rfl,rfl⟩) (by lia);left;rw[af];show⟨⟨by lia,by lia⟩,?_⟩;rw[aR,xA];show zgE (List.range rm.length) (λk:Nat=>W.d (.int (k:Int))) rfl (by rw[aE];exact aA h8 (by ext)) (λi B O acc=>O<=n+1+i/\i<=rm.length/\∃ (v:Option W) (hs:AG),B=[v,some (.d (.int Y)),some (.pen p)]/\acc=hs.map Dt.int) ⟨by lia,aM _,_,[],rfl,rfl⟩ ?_ ?_;rintro i k B O acc hk ⟨I,hi,v,hs,rfl,rfl⟩ C Z;obtain⟨q,J⟩:=aj.mp hk;rw[aE] at q;rw[cx] at J;subst J;left;show xm (λhc=>?_) (λhc=>?_);left;show dr hP λt t0 t1=>?_;left;show xm (λhc=>?_) (λhc=>?_);exact Z ⟨by lia,q,_,hs++[(i:Int)],rfl,by rw[aH];rfl⟩;exact Z ⟨by lia,q,_,hs,rfl,rfl⟩;exact Z ⟨by lia,q,_,hs,rfl,rfl⟩;rintro B O acc ⟨I,hi,v,hs,rfl,rfl⟩;rw[aE] at I;exact r _ hs O (.inl rfl) (by lia)
def zk7  : FV:=λPn q n R=>∃ (hs:AG) (v:W),q=[v]/\(v = .d (stD hs)\/(hs=[]/\v = .d .non))/\(R (.d (stD hs)) n)
def zk7.i{hs:AG}(q:v = .d (stD hs)\/(hs=[]/\v = .d .non))(h:R (.d (stD hs)) n)  : zk7 Pn [v] n R:=⟨hs,v,rfl,q,h⟩
def zcJ (T:Txt K mg t):FnOk P w K mg base CX0 1 t.f24 t.d24 lN (spV 1 false zk7):=by
 show Fun.okW (k:=0) (fr:=false) [] 0 T.q24.F zeb rfl (by ext) rfl λB A q s H E Pn O=>⟨_,(zb (wS zB <| yE (wT zl <| zjv (kb 0)) (zh (zM (yD zd))) zA)
   (zh (zM (kv 0)))),λU n R I=>?_⟩
 obtain⟨hs,v,rfl,J,r⟩:=I;left;rcases J with rfl | ⟨rfl,rfl⟩;left;exact r;left;exact r
def zgw  : FV:=λPn B n R=>∃ (rm:AG) (bk:AW) (one hs:AG),B=[.d (stD rm),.d (yP bk),.d (stD one),.d (stD hs)]/\(RoomOk rm)/\(xO rm bk)/\(bk.length<=10000)/\(zI rm<=256)/\(StOk rm one)/\(∀some q:AF,(∀o∈some,StOk rm o/\∀s,Rch (λs=>yy bk s hs) one s->o∉yy bk s hs)->some.length<=256->Up' q->(∀s,s∈q↔Rch (λs=>yy bk s hs) one s)->R (.d (.lst [xN some,xN q])) n)
def zgw.i{rm:AG}{one hs:AG}(F:RoomOk rm)(I:xO rm bk)(B:bk.length<=10000)(J:zI rm<=256)(h1:StOk rm one)(h:∀some q:AF,(∀o∈some,StOk rm o/\∀s,Rch (λs=>yy bk s hs) one s->o∉yy bk s hs)->some.length<=256->Up' q->(∀s,s∈q↔Rch (λs=>yy bk s hs) one s)->R (.d (.lst [xN some,xN q])) n)  : zgw Pn [.d (stD rm),.d (yP bk),.d (stD one),.d (stD hs)] n R:=⟨rm,bk,one,hs,rfl,F,I,B,J,h1,h⟩
def zas (T:Txt K mg t):FnOk P w K mg base CX0 3 t.f25 t.d25 lh (spV 4 false zgw):=by
 have G10:=zbl (P:=P) (w:=w) (base:=base) T;have G21:=zaj (P:=P) (w:=w) (base:=base) T;have G22:=zbA (P:=P) (w:=w) (base:=base) T
 show Fun.okW (k:=2) (fr:=false) [5] 4 T.q25.F zZ rfl (by ext) rfl λa2 A an s H E Pn hr=>⟨_,(zb (wS zo <| zz (i:=4) zZ.nd (wE zn <| yK T.q22 G22 hr (za (kv 1) (za (kv 2) (za (kv 3) zd)))))
   (zb (wS yu <| xt (i:=5) zZ.nd zjp)
   (zb (xV bh rfl (wI xJ <| xI K rfl (kv 4)) (wG ye <| zt (i:=6) zZ.nd) (zh (xV bh rfl (wI xJ <| xI K rfl (wE zn <| yK T.q21 G21 hr (za (kv 1) (za (kv 6) (za (kv 3) zd))))) (wG ye <| zt (i:=7) zZ.nd) (zh (wS zaF <| zbJ 5 (za6 hr) (kb 7) zjn)))))
   (zh (zM (zrr (ui (za (xU (N:=[A7,A9]) (cix:=[none,some 5]) rfl (by walk_at "c") (wI xJ <| xI K rfl (wE zn <| yK T.q10 G10 hr (za (kv 0) zd))) (λ_ _ _ _=>(wG ye <| zt (i:=0) (show ([A7,A9]:AM).Nodup by decide +kernel))) (λ_ _ _ _=>(zb6 (zfZ (za6 hr) (kb 0) (kb 1)))) (λ_ _ _ _=>(kv 0))) (za (kv 4) zd))))))))),λws n R hF=>?_⟩
 obtain⟨rm,bk,one,hs,rfl,Z,hB,ad,hp,h1,r⟩:=hF;left;show zgt.i Z hB ad hp h1 λI hu aa=>?_;left;have ab:∀s∈I,StOk rm s:=λs hs=>(aa s).mp hs (StOk rm) h1 λu v hu hv=>zdr hB hu hv;have a3:=zat Z hp (ztq hu) ab;show yN I (λs=>W.d (stD s)) (by rw[aF];rfl) (λi ρ m=>m=n/\i<=I.length/\∃ (kvs:List (AG×Dt)) (v6 v7:Option W),ρ=[some (.d (stD rm)),some (.d (yP bk)),some (.d (stD one)),some (.d (stD hs)),some (.d (xN I)),some (.dt kvs),v6,v7]/\kvs.length<=32 * i/\∀s∈I.take i,∀u∈yy bk s hs,u∈kvs.map (·.1)) ⟨rfl,aM _,[],_,_,rfl,aM _,by simp⟩ ?_ ?_;rintro i s ρ m ac ⟨rfl,hi,kvs,v6,v7,rfl,ap,U⟩ C B E hC _ _;have ag:=aJ ac;have as:=(aj.mp ac).1;have a4:=znV (hs:=hs) hB Z.few Z.box (ab s ag).len;left;show zbR.i Z hB ad (ab s ag).len ?_;left;show yN (yy bk s hs) (λs=>W.d (stD s)) (by rw[aF];rfl) (λj ρ m'=>m'=m/\j<=(yy bk s hs).length/\∃ (q:List (AG×Dt)) (v7:Option W),ρ=[some (.d (stD rm)),some (.d (yP bk)),some (.d (stD one)),some (.d (stD hs)),some (.d (xN I)),some (.dt q),some (.d (stD s)),v7]/\q.length<=32 * i+j/\(∀u∈kvs.map (·.1),u∈q.map (·.1))/\∀u∈(yy bk s hs).take j,u∈q.map (·.1)) ⟨rfl,aM _,kvs,_,rfl,by lia,λ_ z=>z,by simp⟩ ?_ ?_;rintro j u ρ m' J ⟨rfl,hj,q,v7,rfl,al,O,Y⟩ C' B' E' a0 _ _;have a1:=(aj.mp J).1;left;show⟨_,rfl,aZ (by lia:_<=10000) (by ext),?_⟩;have:=zkg q u (.bl true);show a0 ⟨rfl,a1,_,_,rfl,by lia,λz hz=>zd4.mpr (.inr (O z hz)),λz hz=>?_⟩;rw[zm J,au] at hz;rcases hz with y | y;exact zd4.mpr (.inr (Y z y));exact zd4.mpr (.inl (aq.mp y));rintro ρ m' ⟨rfl,hj,q,v7,rfl,al,O,Y⟩;rw[bB] at Y;show hC ⟨rfl,as,q,_,_,rfl,by lia,λz hz u J=>?_⟩;rw[zm ac,au] at hz;rcases hz with y | y;exact O u (U z y u J);rw[aq.mp y] at J;exact Y u J;rintro ρ m ⟨rfl,hi,kvs,v6,v7,rfl,ap,U⟩;rw[bB] at U;left;show zeu.i (.inl rfl) Z.box Z.few ?_;left;have a5:=zgA Z;show zdu (uF (rm.map zG)) (λs=>.d (stD s)) (by rw[aF];rfl) (λρ=>∃v,ρ=[v,some (.dt kvs)]) (λs=>!decide (s∈kvs.map (·.1))) stD (aA (by lia:_<=256) (by ext)) ⟨_,rfl⟩ ?_ ?_;rintro s hs a7 ⟨v,rfl⟩ C hY hN;left;show⟨s,rfl,?_⟩;rw[zf1];left;show ze4 (λhn=>?_) (λhn=>?_);exact hY (by rw[hn];rfl) ⟨_,rfl⟩;exact hN (by rw[hn];rfl) ⟨_,rfl⟩;left;show r _ I (λo ho=>?_) (aA (List.length_filter_le _ _) (by lia)) hu aa;obtain⟨o1,o2⟩:=b7.mp ho;show⟨zin _ _ o1,λs hs hm=>?_⟩;have:=U s ((aa s).mpr hs) o hm;simp[this] at o2
def zfw  : FV:=λPn q n R=>∃ (sts:AF),q=[.d (.tup [.str "not",xN sts]),.d (xN sts)]/\(sts.length<=1000)/\(R (.d (.bl true)) n)
def zfw.i{sts:AF}(q:sts.length<=1000)(h:R (.d (.bl true)) n)  : zfw Pn [.d (.tup [.str "not",xN sts]),.d (xN sts)] n R:=⟨sts,rfl,q,h⟩
def zbz (T:Txt K mg t):FnOk P w K mg base CX0 1 t.f26 t.d26 lD (spV 2 false zfw):=by
 show Fun.okW (k:=0) (fr:=false) [] 0 T.q26.F zcB rfl (by ext) rfl λcdv A outer s H E Pn hr=>⟨_,(zb (wS zB <| yE (JW.t (wW zjN <| zoJ (wT za8 <| zc3 (wT zl <| zc4 (JE.bo (wE zf2 <| zag (by rfl) T.b_isinstance T.b_tuple (kb 0))))) (wW zjN <| zoJ (wT zl <| zF zga zqG (JE.bo (zX yv uB (by rfl) T.b_len bg (zi (kb 0) zk))) (JE.bo zj) (zx _)) (wW zjN <| zoJ (wT zl <| zF zga zqG (JE.bo (uD yt ur (kb 0) (JE.bo zj) (λ_ _=>rfl))) (JE.bo zoB) (zx _)) (zah (.inr rfl) (wT za8 <| zc3 (wT zl <| zc4 (JE.bo (wE zf2 <| zdF (by rfl) T.b_isinstance T.b_list (JE.bo (uD yt ur (kb 0) (JE.bo zj) (λ_ _=>rfl)))))))))))) (zh (zM zjn)) zA)
   (zh (zM (wE zlU <| zuC (JE.bo (zox (zhc hr.units) zmQ (JE.bo (uD yt ur (kb 0) (JE.bo zj) (λ_ _=>rfl))) (kb 1) (zx _))) (zuG (zox uT zmR (JE.bo zjn) (JE.bo (xU (N:=[As]) (cix:=[none]) rfl (by walk_at "c") (wI xJ <| xI K rfl (uD yt ur (kb 0) (JE.bo zj) (λ_ _=>rfl))) (λ_ _ _ _=>(wG ye <| zt (i:=0) (show ([As]:AM).Nodup by decide +kernel))) (λ_ _ _ _=>xb) (λ_ _ _ _=>(wE zf2 <| zag (by rfl) (by exact T.b_isinstance) (by exact T.b_tuple) (kb 0))))) (by with_unfolding_all rfl))))))),λws n R hF=>?_⟩
 obtain⟨sts,rfl,hl,r⟩:=hF;left;with_reducible show zrP ?_ ?_
 rfl;left;show⟨zar _,zar _,λb hb=>?_⟩;obtain rfl:b=true:=hb.mpr rfl;left;show zbW sts (λs=>W.d (stD s)) (by rw[aF];rfl) (λρ=>∃v,ρ=[v]) (λ_=>.bl true) (aA hl (by ext)) ⟨_,rfl⟩ ?_ ?_;rintro s hs ρ' ⟨v,rfl⟩ C hY;exact hY ⟨_,rfl⟩;left;show⟨List.replicate sts.length true,?_,?_⟩;rw[List.map_replicate,List.map_const']
 have e:(List.replicate sts.length true).contains false=false:=by
  rw[Bool.eq_false_iff];intro z;have:=eD.mp z;simp at this
 rw[e];exact r
def zem{a b:AF}(B:Up' a)(F:Up' b)(q:∀y∈a,y.length=m)(h:∀z,z∈b↔z∈a):b=a:=(zbP q F h).trans (zbP q B λ_=>Iff.rfl).symm
def zg1 {e:Int}:∀ {a b:AG},a.length=b.length->HT.lexLt a b=true->HT.lexLt (a++[e]) (b++[e])=true
 | [],[],_,h=>by cases h
 | [],_::_,h,_=>by cases h
 | _::_,[],h,_=>by cases h
 | x::a,y::b,q,h=>by
  have B:=zg1 (e:=e) (a:=a) (b:=b) (by simpa using q);rw[eF,eF];unfold HT.lexLt at h ⊢;grind
def zgD {s:AG}{e b x:Int}(q:0<=b)(h1:b<s.length):chg (s++[e]) b x=chg s b x++[e]:=by unfold chg;rw[cE (by lia),List.drop_append_of_le_length (by lia)];simp
def zds{rm:AG}{s t hs:AG}{e:Int}(J:xO rm bk)(hl:s.length=rm.length):t∈yy bk (s++[e]) hs↔∃u∈yy bk s hs,t=u++[e]:=by
 have Y:∀x∈bk,zad (s++[e]) x=zad s x:=λx B=>by
  have F:=J x B;have O:=F.b0;have I:=F.b1;unfold zad xu;rw[yj O (by lia)];congr 1;rw[cW,cz,cz];show⟨λh q U=>?_,λh q U=>?_⟩
  all_goals
   have h1:=F.giv.ok q U;have h2:=h q U;rw[yj h1.1 (by lia)] at *;exact h2
 unfold yy;rw[yY,yR];constructor;rintro⟨x,B,h1,h2,rfl⟩;have F:=J x B;have I:=F.b1;exact⟨chg s x.b x.r,yY.mpr (yR.mpr ⟨x,B,by rw[<- Y x B];exact h1,h2,rfl⟩),zgD F.b0 (by lia)⟩;rintro⟨u,Z,rfl⟩;obtain⟨x,B,h1,h2,rfl⟩:=yR.mp (yY.mp Z);have F:=J x B;have I:=F.b1;exact⟨x,B,by rw[Y x B];exact h1,h2,(zgD F.b0 (by lia)).symm⟩
def zhp{rm:AG}{one hs t:AG}{e:Int}(B:xO rm bk)(h1:StOk rm one):Rch (λs=>yy bk s hs) (one++[e]) t↔∃u,Rch (λs=>yy bk s hs) one u/\t=u++[e]:=by
 have J:∀u,Rch (λs=>yy bk s hs) one u->StOk rm u:=λu q=>q (StOk rm) h1 λ_ _=>zdr B;constructor;intro h;show h (λt=>∃u,Rch (λs=>yy bk s hs) one u/\t=u++[e]) ⟨one,Rch.self,rfl⟩ ?_;rintro _ v ⟨u,q,rfl⟩ Y;obtain⟨Z,F,rfl⟩:=(zds B (J u q).len).mp Y;exact⟨Z,q.step F,rfl⟩;rintro⟨u,q,rfl⟩;have:=q (λu=>Rch (λs=>yy bk s hs) one u/\Rch (λs=>yy bk s hs) (one++[e]) (u++[e])) ⟨Rch.self,Rch.self⟩ λa b ⟨O,I⟩ U=>⟨O.step U,I.step ((zds B (J a O).len).mpr ⟨b,U,rfl⟩)⟩;exact this.2
def zk3 {rm:AG}(q:RoomOk rm)(h:rm.length<8):RoomOk (rm++[2])/\Wider rm (rm++[2]):=by
 show⟨⟨by simp,by rw[ao];exact h,λr B=>?_⟩,⟨by simp,λb F I=>by rw[yj F I];exact cT _⟩⟩;rcases au.mp B with z | z;exact q.box r z;rw[aq.mp z];decide
def zkI {rm s:AG}{e:Int}(h:StOk rm s)(I:0<=e)(J:e<2):StOk (rm++[2]) (s++[e]):=by
 have B:=h.len;show⟨by simp[B],λb q O=>?_⟩;rw[ao,cr] at O;by_cases z:b<rm.length;rw[yj q z,yj q (by lia)];exact h.box b q z;have F:b=rm.length:=by lia
 have U:zP (s++[e]) b=e:=by rw[F,<- B];exact xy
 rw[U,F,xy];exact⟨I,J⟩
def zrO (T:Txt K mg t):FnOk P w K mg base CX0 8 t.f27 t.d27 lm (zh5 K):=by
 have G8:=zl5 (P:=P) (w:=w) (base:=base) T;have G0:FnOk P w K mg base CX0 1 t.f0 t.d0 lm (zmK K):=zf6 T;have G1:=zJ (P:=P) (w:=w) (base:=base) T;have G11:=zdW (P:=P) (w:=w) (base:=base) T;have G12:=zbc (P:=P) (w:=w) (base:=base) T;have G20:=zdT (P:=P) (w:=w) (base:=base) T;have G23:=zdV (P:=P) (w:=w) (base:=base) T;have G24:=zcJ (P:=P) (w:=w) (base:=base) T;have G25:=zas (P:=P) (w:=w) (base:=base) T;have G26:=zbz (P:=P) (w:=w) (base:=base) T
 show zu7 (S:=[9999]) (k:=7) (r:=12) [] T.q27.F xD rfl rfl (by ext) λcdv A outer s H E Pn hr=>⟨_,_,_,rfl,(ux (i:=1) xD.nd rfl (Or.inl rfl) (zkj T.q0 G0 hr (zE (qv 0) yC))),(zb (wS zo <| zz (i:=2) xD.nd (uD yf u6 (JE.bo (ui (za zj (za zj (za zj (za zj (za zj (za zj (za zj (za zj zd)))))))))) (JE.bo (wE zn <| yK T.q1 G1 hr (za (kv 1) (za zj zd)))) (λ_ _=>rfl)))
   (zb (wS zo <| zz (i:=3) xD.nd (wE zn <| yK T.q11 G11 hr (za (kv 1) (za (kv 2) zd))))
   (zb (wS zo <| zz (i:=4) xD.nd (wE zn <| yK T.q20 G20 hr (za (kv 1) (za (kv 3) zd))))
   (zb (zoE bh rfl (by rfl) T.b_range (zi (JE.bo (uD yf u6 (JE.bo (ui (za zj (za zj zd)))) (JE.bo (yp zn0 ztj (by rfl) T.b_int PyProof.Rows.boot_int (zi (JE.bo (zox uA zfq (kb 2) (JE.bo zj) (zx _))) zk))) (λ_ _=>rfl))) zk) (wG ye <| zt (i:=5) xD.nd) (zb (wS zo <| zz (i:=6) xD.nd (wE zn <| yK T.q23 G23 hr (za (kv 1) (za (kv 3) zd))))
   (zb (wS zo <| zz (i:=7) xD.nd (wE zn <| yK T.q12 G12 hr (za (kv 1) (za (kv 3) zd))))
   (zb (zlM (i:=8) (j:=9) K rfl rfl xD.nd (wE zn <| yK T.q25 G25 hr (za (kv 3) (za (kv 4) (za (kv 7) (za (wE zn <| yK T.q24 G24 hr (za (kv 6) zd)) zd))))))
   (zb (wS zB <| yE (wT zl <| zF (zhc hr.units) zmQ (JE.bo (zaz 8)) (JE.bo (ui zd)) (zx _)) (zh zfY) zA)
   (zb (wS zo <| zz (i:=10) xD.nd (uD yf u6 (JE.bo (zaz 8)) (JE.bo (wE zn <| yK T.q1 G1 hr (za (kv 1) (za (zX yv uB (by rfl) T.b_len bg (zi (JE.bo (zaz 8)) zk)) zd)))) (λ_ _=>rfl)))
   (zb (wS zB <| yE (JW.t (wW uj <| zaA (wT zl <| zF (zrZ hr.units) zvE (kb 7) (JE.bo (zaz 8)) (by with_unfolding_all rfl)) (zah (.inl rfl) (wT zl <| zF uA zfq (JE.bo (wE zn <| yK T.q1 G1 hr (za (kv 1) (za zj zd)))) (JE.bo zj) (zx _))))) (zh (wS zo <| zz (i:=10) xD.nd (kv 7))) zA)
   (zb (zoG (i:=11) xD.nd (wE zn <| zoz T.q8 G8 hr (za (kv 3) (za (kv 4) (za (kv 7) (za (kv 10) (za (kv 6) zd)))))))
   (zb (wS zB <| yE (wT za8 <| zc3 (wT zl <| zc4 (JE.bo (wE zn <| yK T.q26 G26 hr (za (zaz 11) (za (zaz 9) zd)))))) (zh (zM zjn)) zA)
   (zb (zlK 11)
   (zb (wS zB <| yE (JW.t (wW uj <| zaA (wT zl <| zF zj3 ztW (JE.bo (zX yv uB (by rfl) T.b_len bg (zi (kb 3) zk))) (JE.bo zj) (zx _)) (zah (.inl rfl) (wT zl <| zF zj3 ztW (kb 2) (JE.bo zj) (zx _))))) (zb (wS zo <| zz (i:=12) xD.nd (uI xh zaW (kb 3) (JE.bo (yD (za zj zd)))))
   (zb (wS zo <| zz (i:=13) xD.nd (yD (za (wE zn <| yK T.q1 G1 hr (za (kv 1) (za zj zd))) zd)))
   (zh (wS zB <| yE (wT za8 <| zc3 (wT zl <| zc4 (JE.bo (wE zn <| yK T.q26 G26 hr (za (wE zn <| zoz T.q8 G8 hr (za (kv 12) (za (kv 4) (za (uI xh zaW (kb 7) (kb 13)) (za (uI xh zaW (kb 10) (kb 13)) (za (kv 6) zd)))))) (za (xU (N:=[BA,"_law_end"]) (cix:=[none,some 13]) rfl (by walk_at "c") (wI xJ <| xI K rfl (zaz 9)) (λ_ _ _ _=>(wG ye <| zt (i:=0) (show ([BA,"_law_end"]:AM).Nodup by decide +kernel))) (λ_ _ _ _=>xb) (λ_ _ _ _=>(uI xh zaW (kb 0) (kb 1)))) zd)))))) (zh (zM zjn)) zA)))) zA)
   (zb (wS zB <| yE (wT za8 <| zc3 (wT zl <| zc4 (JE.bo (wE zn <| yK T.q26 G26 hr (za (wE zn <| zoz T.q8 G8 hr (za (kv 3) (za (kv 4) (za (kv 7) (za (kv 10) (za (kv 6) zd)))))) (za (zaz 9) zd)))))) (zh (zM zjn)) zA)
   (zh (wS zB <| yE (JW.t (wW uj <| zaA (wT zl <| zjv (kb 6)) (zah (.inl rfl) (wT za8 <| zc3 (wT zl <| zc4 (JE.bo (wE zn <| yK T.q26 G26 hr (za (zuE T.q8 G8 hr (za (kv 3) (za (kv 4) (za (kv 7) (za (kv 10) zd))))) (za (zaz 9) zd))))))))) (zh (zM zjn)) zA))))))))))))))
   (zh (zM zjn)))))),λp c ns hPn hKL=>?_⟩
 have hP:uc K Pn p:=⟨c,ns,hPn,hKL⟩;show zsK ?_;left;have hJ:Pn.J=J0:=by rw[hPn]
 show dr hP λa a0 a1=>?_;left;show zl6 a0 a1 λx hx=>?_;obtain⟨most,rfl,hmost⟩:∃most:Int,x = .int most/\(most=256\/(4<=most/\most<=64)):=by simp only[aG,cD,or_false] at hx;rcases hx with rfl | rfl | rfl | rfl | rfl | rfl | rfl | rfl <;> exact⟨_,rfl,by ext⟩
 clear hx;left;show zgu.i hP hmost (hn:=by omega) λrm m hR hpm hm=>?_;have hp:zI rm<=256:=by omega
 left;show zgr.i hP hR hp (hn:=by omega) λbk m2 hB hbl hm2=>?_;have h8:=hR.few;left;show zl6 (by split <;> decide) (by split <;> decide) λy hy=>?_;obtain⟨rr,rfl,hr⟩:∃r:Int,y = .int r/\(r=3\/r=1):=by simp only[aG,cD,or_false] at hy;rcases hy with rfl | rfl <;> exact⟨_,rfl,by ext⟩
 clear hy;left;show⟨⟨by omega,by omega⟩,zeN (λi ρ m'=>m'<=5100+100 * i/\i<=rr.toNat/\∃v5 v6 v7 v8 v9 v10 v11 v12 v13,ρ=[none,some (.pen p),some (.d (.int most)),some (.d (stD rm)),some (.d (yP bk)),v5,v6,v7,v8,v9,v10,v11,v12,v13]) ⟨by omega,aM _,_,_,_,_,_,_,_,_,_,rfl⟩ ?_ ?_⟩
 ·rintro i ρ m' hi ⟨hm',hir,v5,v6,v7,v8,v9,v10,v11,v12,v13,rfl⟩ C B E hC _ _;left;show zgs.i hP hR (hn:=by omega) λv hs m4 hv hm4=>?_
  obtain⟨vd,rfl,hvd⟩:∃vd,v = .d vd/\vd.noL=true:=by
   rcases hv with rfl | ⟨_,rfl⟩;exact⟨_,rfl,zcf hs⟩;exact⟨_,rfl,rfl⟩
  left;show zgv.i hP hR (hn:=by omega) λone m5 h1 hm5=>?_;left;show zk7.i hv ?_;left;show zgw.i hR hB (by omega) hp h1 λsm shut hsome hfew hu hs1=>?_;left;show⟨yq sm,yq shut,λaa ab=>?_⟩;left;show⟨zar sm,zar [],λb hb=>?_⟩;left;show zl7 (λh=>?_) (λh=>?_);left;exact hC ⟨by omega,hi,_,_,_,_,_,_,_,_,_,rfl⟩;have hne:sm≠[]:=λz=>by rw[hb.mpr (by rw[z];rfl)] at h;cases h
  have hl1:1<=sm.length:=by
   cases sm with
   | nil=>exact absurd rfl hne
   | cons _ _=>simp
  left;rw[af];show dr hP (hn:=by omega) (h1:=by omega) (h2:=by omega) λc c0 c1=>?_;obtain⟨j,rfl⟩:∃j:Nat,c=(j:Int):=⟨c.toNat,by omega⟩;left;show zbd (zbU (by omega)) ?_;left;show⟨zax,zar sm,λb2 hb2=>?_⟩;refine' zu4 (λ(o:AG) (m6:Nat)=>(StOk rm o/\∀s,Rch (λs=>yy bk s hs) one s->o∉yy bk s hs)/\m6<=m5+2) _ (λzy=>?_) ?_;rotate_left
  ·rw[show xr false b2=b2 by cases b2 <;> rfl];show zl7 (λhin=>?_) (λ_=>?_);rotate_left;have ho:=hsome _ (yQ (show j<sm.length by omega));generalize sm.getD j []=o at ho ⊢;generalize hm6:m5+1=m6;left;exact zy o m6 ⟨ho,by omega⟩;left;show dr hP (hn:=by omega) (h1:=by omega) (h2:=by omega) λd d0 d1=>?_;left;show xm (λ_=>?_) (λ_=>?_);left;exact zy one (m5+1+1) ⟨hsome one (zoY.mp (hb2.mp hin)),by omega⟩;left;exact zy (sm.getD j []) (m5+1+1) ⟨hsome _ (yQ (show j<sm.length by omega)),by omega⟩
  rintro o m6 ⟨⟨hoo,hno⟩,hm6⟩;left;show⟨_,zeL <| fg_p <| zeL <| zre (zcf rm) <| zre (znn bk) <| zeL <| zre hvd <| zre (zcf one) <| zeL <| zeL <| zre (zcf o) <| zeL <| zeL <| zeL zrf,?_⟩;left;show zao.i hJ hv hR hB hp h1 hno λsts2 hu2 hs2 ho2=>?_;have hl2:∀y∈sts2,y.length=rm.length:=λy hy=>(ho2 y hy).len;obtain rfl:=zem hu2 hu hl2 λz=>(hs1 z).trans (hs2 z).symm;have hfw:=zat hR hp (ztq hu) ho2;left;show⟨rfl,yq _,λad hnew=>?_⟩;left;show zfw.i (by omega) ?_;left;have n8:aa≠ad:=hnew 8 aa _ rfl;have n9:ab≠ad:=hnew 9 ab _ rfl;have hsn:shut.map stD≠[]:=λz=>by have:=(hs1 one).mpr Rch.self;rw[dM.mp z] at this;cases this
  show⟨hsn,_,zly <| fa_p <| zof rfl <| zof (zcf rm) <| zof (znn bk) <| zof rfl <| zof hvd <| zof (zcf one) <| fa_a n8 <| fa_a n9 <| zof (zcf o) <| zly <| zly <| zly zrd,?_⟩;left;rw[af];refine' zu3 (λ(v12 v13:Option W) (m7:Nat)=>m7<=m6+1) _ (λzy=>?_) ?_;rotate_left;show xm (λhw8=>?_) (λ_=>?_);left;show xm (λhw2=>?_) (λ_=>?_);obtain⟨hR',hW⟩:=zk3 hR (by omega);have hB':xO (rm++[2]) bk:=λx hx=>hW.wish (hB x hx);have hp':zI (rm++[2])<=256:=by rw[yB];omega
  left;show⟨zoO (by omega),?_⟩;rw[zm6];left;show dr hP (hn:=by omega) (h1:=by omega) (h2:=by omega) λe e0 e1=>?_;left;show⟨zoO (by rw[h1.len];omega),?_⟩;rw[zm6];left;show⟨zoO (by rw[hoo.len];omega),?_⟩;rw[zm6];left;have hno':∀s,Rch (λs=>yy bk s hs) (one++[e]) s->(o++[e])∉yy bk s hs:=λs hs' hm=>by obtain⟨u,hu',rfl⟩:=(zhp hB h1).mp hs';obtain⟨v,hv',ev⟩:=(zds hB (ho2 u ((hs1 u).mpr hu')).len).mp hm;exact hno u hu' (by rw[(List.append_inj' ev rfl).1];exact hv')
  show zao.i (rm:=rm++[2]) (one:=one++[e]) (other:=o++[e]) hJ hv hR' hB' hp' (zkI h1 e0 e1) hno' λsts3 hu3 hs3 ho3=>?_
  have hsw:sts3=shut.map (·++[e]):=by
   show zem (m:=rm.length+1) (bS.mpr (hu.imp_of_mem λha hb h=>zg1 (by rw[hl2 _ ha,hl2 _ hb]) h)) hu3 (λy hy=>?_) λz=>?_;obtain⟨u,hu',rfl⟩:=aD.mp hy;simp[hl2 u hu'];rw[hs3 z,zhp hB h1,aD];exact⟨λ⟨u,a,b⟩=>⟨u,(hs1 u).mpr a,b.symm⟩,λ⟨u,a,b⟩=>⟨u,(hs1 u).mp a,b.symm⟩⟩
  subst hsw;left;show zbW shut (λs=>W.d (stD s)) (by rw[aF];rfl) (λρ=>∃v,ρ=[v,some (.d (.tup [.int e]))]) (λs=>stD (s++[e])) (aA (by omega:_<=256) (by ext)) ⟨_,rfl⟩ ?_ ?_;rintro s hs' ρ' ⟨v,rfl⟩ C' hY;left;show⟨zoO (by rw[hl2 s hs'];omega),?_⟩;rw[zm6];exact hY ⟨_,rfl⟩;left;have e4:shut.map (λs=>stD (s++[e]))=(shut.map (·++[e])).map stD:=by rw[aF];rfl
  rw[e4];show zfw.i (by rw[af];omega) ?_;generalize some (W.d (Dt.tup (List.map Dt.int (rm++[2]))))=v12;generalize some (W.d (Dt.tup [Dt.int e]))=v13;generalize hm7:m6+1=m7;left;exact zy v12 v13 m7 (by omega);left;exact zy none none m6 (by omega);left;exact zy none none m6 (by omega);rintro v12 v13 m7 hm7;left;show zao.i hJ hv hR hB hp h1 hno λsts4 hu4 hs4 ho4=>?_;obtain rfl:=zem hu hu4 hl2 λz=>(hs4 z).trans (hs1 z).symm;left;show zfw.i (by omega) ?_;left;rcases hv with hv | ⟨rfl,hv⟩;cases hv;left;exact hC ⟨by omega,hi,_,_,_,_,_,_,_,_,_,rfl⟩;cases hv;left;show zao.i hJ (.inr ⟨rfl,rfl⟩) hR hB hp h1 hno λsts5 hu5 hs5 ho5=>?_;obtain rfl:=zem hu hu5 hl2 λz=>(hs5 z).trans (hs1 z).symm;left;show zfw.i (by omega) ?_;left;exact hC ⟨by omega,hi,_,_,_,_,_,_,_,_,_,rfl⟩
 rintro ρ m' ⟨hm',hir,v5,v6,v7,v8,v9,v10,v11,v12,v13,rfl⟩;left
end
def Dm{K:AH}{h:Heap}{mg:AI}{x:Str}{st:Stmt}{ps:AM}{f:Addr}{J kV B F q ct:Value}{O I:Option Addr}(X:K.In h)(G:h.Ns mainGlobals mg)(a:PySem.W.nsIn K mainGlobals x=some (some (.ref f)))(l:K.lookup f=some ⟨J,O,.func (PySem.W.fnOf x x (z7 st) (zw st) (zc st) .none kV B F I q ct),U⟩)(c:PySem.W.codeIn K q x=true)(k:PySem.W.keepIn K (.ref f)=true)(b:∀ (kV B F:Value) (I:Option Addr) (q ct:Value) (us:AN),us.length=ps.length->bindArgs (PySem.W.fnOf x x (z7 st) (zw st) (zc st) .none kV B F I q ct) ⟨us,[]⟩=pure (ps.zip us)):Dfn K mg x st ps f (PySem.W.fnOf x x (z7 st) (zw st) (zc st) .none kV B F I q ct):=⟨zgR l c k,(zgR l c k).binds b,PySem.W.mg_of X G a⟩
def DmD{K:AH}{h:Heap}{mg:AI}{x:Str}{st:Stmt}{ps:AM}{ds:AN}{f T:Addr}{Y kV F I B ct Z:Value}{od J O:Option Addr}{q:AK}(X:K.In h)(G:h.Ns mainGlobals mg)(a:PySem.W.nsIn K mainGlobals x=some (some (.ref f)))(l:K.lookup f=some ⟨Y,od,.func (PySem.W.fnOf x x (z7 st) (zw st) (zc st) (.ref T) kV F I J B ct),sl⟩)(c:PySem.W.codeIn K B x=true)(k:PySem.W.keepIn K (.ref f)=true)(t:K.lookup T=some ⟨Z,O,.seq q n2,U⟩)(b:∀us:AN,(us++[]).length=ps.length->∃k:Option AK->Sem (List (Str×Value)),bindArgs (PySem.W.fnOf x x (z7 st) (zw st) (zc st) (.ref T) kV F I J B ct) ⟨us,[]⟩=seqItems? (.ref T) >>= k/\k (some q)=pure (ps.zip (us++[])))(e:∀us:AN,(us++ds).length=ps.length->∃k:Option AK->Sem (List (Str×Value)),bindArgs (PySem.W.fnOf x x (z7 st) (zw st) (zc st) (.ref T) kV F I J B ct) ⟨us,[]⟩=seqItems? (.ref T) >>= k/\k (some q)=pure (ps.zip (us++ds))):DfnD K mg x st ps ds f (PySem.W.fnOf x x (z7 st) (zw st) (zc st) (.ref T) kV F I J B ct):=⟨zi5 l c k,zgB l rfl t b,zgB l rfl t e,PySem.W.mg_of X G a⟩
def fin {l:PySem.W.OpenLaw}{w:Ab}{K:AH}{mg:AI}{fa:Addr}{t:Ad}(q:mg "law" = some (.ref fa))(T:Txt K mg t)(b:∀ (s:AZ) (v:Value),BindsTo s t.d27 ⟨[v],[]⟩ [("_law_script",v)]):∃fd:Ac,(∀ (s:AZ) (v:Value),BindsTo s fd ⟨[v],[]⟩ [("_law_script",v)])/\∀base:Heap,K.In base->base.Ns mainGlobals mg->FnOk l.prog w K mg base CX0 8 fa fd lm (zh5 K):=by have e:=q.symm.trans T.q27.m;cases e;exact⟨_,b,λbase _ _=>zrO T⟩
def walk {l:PySem.W.OpenLaw}{q:Aa}{B:AM}{XP:(AI)->Heap->Prop}{YP:Ab->Heap->Prop}{d:DefRec}{K:Params->AH}(hn:l.most=some 63)(I:d.params.defaults=[])
  (J:∀ (w:Ab) (h:Heap),YP w h->(K w.params).In h)
  (F:∀ (w:Ab) (mg:AI) (fa:Addr) (h:Heap),(K w.params).In h->h.Ns mainGlobals mg->mg d.name=some (.ref fa)->
   ∃fd:Ac,(∀ (s:AZ) (u:Value),BindsTo s fd ⟨[u],[]⟩ [("_law_script",u)])/\∀base:Heap,(K w.params).In base->base.Ns mainGlobals mg->FnOk l.prog w (K w.params) mg base CX0 8 fa fd lm (zh5 (K w.params))) :
  PySem.W.WalkO q B XP YP l.row.toRowW d [] (λf vs=>PySem.call f vs):=
 L2.zqy (n:=63) (k:=8) (x := "_law_script") (CX:=λ_=>CX0) (sp:=λw=>zh5 (K w.params)) hn (by ext) I ⟨rfl,by ext,by ext⟩ J F (λ_ _ _ _ O U Y=>zmJ U Y O λ_=>rfl) λ_ _ _ _ _ z=>z
end Law
end
open PySem PySem.W PyProof.Rows
local macro_rules | `(tactic| walk_at "D")=>`(tactic| (dsimp only;refine' Law.Dm (by assumption) (by assumption) ?a ?l ?c ?k ?b;(case a=>k_is);(case l=>k_is);(case c=>k_is);(case k=>k_is);(case b=>(intro _ _ _ _ _ _ us hl;first | (obtain⟨_,e⟩:=L2.us_1 hl;subst e;rfl) | (obtain⟨_,_,e⟩:=L2.us_2 hl;subst e;rfl) | (obtain⟨_,_,_,e⟩:=L2.us_3 hl;subst e;rfl) | (obtain⟨_,_,_,_,e⟩:=L2.us_4 hl;subst e;rfl)))))
local macro_rules | `(tactic| walk_at "Z")=>`(tactic| (refine' PySem.W.mg_none_of (by assumption) (by assumption) ?z;(case z=>k_is)))
local macro_rules | `(tactic| walk_at "E")=>`(tactic| (dsimp only;refine' Law.DmD (by assumption) (by assumption) ?a ?l ?c ?k ?t ?b ?e;(case a=>k_is);(case l=>k_is);(case c=>k_is);(case k=>k_is);(case t=>k_is);(case b=>(intro us hl;first | (exact match us,hl with | [_,_,_,_],_=>⟨_,rfl,rfl⟩) | (exact match us,hl with | [_,_,_,_,_],_=>⟨_,rfl,rfl⟩)));(case e=>(intro us hl;first | (exact match us,(show us.length=3 by rw[List.length_append] at hl;exact Nat.succ.inj hl) with | [_,_,_],_=>⟨_,rfl,rfl⟩) | (exact match us,(show us.length=4 by rw[List.length_append] at hl;exact Nat.succ.inj hl) with | [_,_,_,_],_=>⟨_,rfl,rfl⟩)))))
theorem PySem.W.Fast.te4093290099456874483:True:=.intro
set_option maxRecDepth 100000 in
set_option maxHeartbeats 0 in
theorem PySem.Challenge.cw_allelse_k16_shut_sets_told_holds : PySem.Challenge.rw_allelse_k16_shut_sets_told.Holds := by
 w_on;refine holds_law (by decide +kernel) λ_=>?_;k_head;(case hw=>w_witness2)
 k_fill
 refine Law.walk (l:=PySem.Challenge.rw_allelse_k16_shut_sets_told) rfl rfl (λw h Y=>PySem.W.kIn_of Y) ?F
 case F=>
  intro w mg fa h KX G I;refine' Law.fin (t:=⟨_,_,_,_,_,_,_,_,_,_,_,_,_,_,_,_,_,_,_,_,_,_,_,_,_,_,_,_,_,_,_,_,_,_,_,_,_,_,_,_,_,_,_,_,_,_,_,_,_,_,_,_,_,_,_,_,_,_,_,_,_⟩) I ⟨?CL,?D0,?D1,?D2,?D3,?D4,?D5,?D6,?D7,?D8,?D9,?D10,?D11,?D12,?D13,?D14,?D15,?D16,?D17,?D18,?D19,?D20,?D21,?D22,?D23,?D24,?D25,?D26,?D27,?z_sorted,?z_range,?z_tuple,?z_len,?z_list,?z_abs,?z_isinstance,?z_int,?q⟩ λs v=>?b
  (case D0 | D1 | D2 | D3 | D5 | D6 | D7 | D9 | D10 | D11 | D12 | D13 | D14 | D15 | D16 | D17 | D18 | D19 | D20 | D21 | D22 | D23 | D24 | D25 | D26 | D27=>walk_at "D")
  (case D4 | D8=>walk_at "E")
  (case z_sorted | z_range | z_tuple | z_len | z_list | z_abs | z_isinstance | z_int | q=>walk_at "Z")
  (case CL=>(dsimp only;refine' L3.Cm (by assumption) (by assumption) ?qa ?qa1 ?qi1 ?ql1 ?qc1 ?qk1 ?qt ?qa2 ?qi2 ?ql2 ?qc2 ?qk2 ?qpg ?qhd ?qpo ?qsa ?qmk ?qkc ?qn1 ?qn2 ?qn3 ?qn4 ?qb ?qe ?qbA;(case qa=>k_is);(case qa1=>k_is);(case qi1=>k_is);(case ql1=>k_is);(case qc1=>k_is);(case qk1=>k_is);(case qt=>k_is);(case qa2=>k_is);(case qi2=>k_is);(case ql2=>k_is);(case qc2=>k_is);(case qk2=>k_is);(case qpg=>k_is);(case qhd=>k_is);(case qpo=>k_is);(case qsa=>k_is);(case qmk=>k_is);(case qkc=>k_is);(case qn1=>k_is);(case qn2=>k_is);(case qn3=>k_is);(case qn4=>k_is);(case qb=>intro us B;exact match us,B with | [_,_,_,_],_=>⟨_,rfl,rfl⟩);(case qe=>intro us B;exact match us,(show us.length=3 by rw[List.length_append] at B;exact Nat.succ.inj B) with | [_,_,_],_=>⟨_,rfl,rfl⟩);(case qbA=>intro _ _ _ _ _ _ us B;exact match us,B with | [_,_],_=>rfl)))
  (case b=>exact .of_eq rfl)

